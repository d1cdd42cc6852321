import Derived.Test.YtkmgpapopgeldaaLa
import Derived.Test.YtkmgpapopgeldaaX
namespace Go.Proofs.Ytkmgpapopgeldaa
open Go.RowKit

/-- A state of BitsLow's round: w0 is the world in which the law was called. -/
structure LSt (w0 : World) (lo hi X R px : Nat) (sv : Value) (bs : List Nat) (P Q : Nat) (w : World) : Prop where
  rd : Rd 56 w lo hi X bs P (.slice none 0 0) 0
  rf : Rf w R sv bs Q false
  cx : w.heap[px]? = some (.cells #[.pointer (some ⟨X, 0, none⟩)] 25)
  fr : Fr (fun _ => False) w0 w
  ord : (w0.heap.size ≤ lo ∧ hi ≤ R) ∧ R < px
  old : bs ≠ [] → ∀ ad n c, sv = .slice (some ad) n c → ad.block < w0.heap.size

section
variable {w0 : World} {lo hi X R px : Nat} {sv : Value} {bs : List Nat} {P Q : Nat} {w w' : World}
theorem LSt.far (h : LSt w0 lo hi X R px sv bs P Q w) {S : Nat → Prop} (f : Fr S w w') (hS : ∀ k, k ≤ px → ¬ S k) : LSt w0 lo hi X R px sv bs P Q w' := by
  have a1 := h.rd.elo
  have a2 := h.rd.ehi
  have a3 := h.ord
  have a4 := h.fr.size
  refine ⟨h.rd.keep f (fun k _ _ => hS k (by omega)), h.rf.keep f (hS _ (by omega)) (fun hne ad n c e => ⟨by have := h.old hne ad n c e; omega, hS _ (by have := h.old hne ad n c e; omega)⟩), ?_, ?_, h.ord, h.old⟩
  · rw [f.block _ (lt_of h.cx) (hS _ (by omega))]; exact h.cx
  · exact (h.fr.trans f).mono fun k hk h => by
      rcases h with h | h
      · exact h
      · exact hS k (by omega) h
theorem LSt.took (h : LSt w0 lo hi X R px sv bs P Q w) {P' : Nat} (r : Rd 56 w' lo hi X bs P' (.slice none 0 0) 0) (f : Fr (fun k => k = X) w w') : LSt w0 lo hi X R px sv bs P' Q w' := by
  have a1 := h.rd.elo
  have a2 := h.rd.ehi
  have a3 := h.ord
  have a4 := h.fr.size
  refine ⟨r, h.rf.keep f (by omega) (fun hne ad n c e => ⟨by have := h.old hne ad n c e; omega, by have := h.old hne ad n c e; omega⟩), ?_, ?_, h.ord, h.old⟩
  · rw [f.block _ (lt_of h.cx) (by omega)]; exact h.cx
  · exact (h.fr.trans f).mono fun k hk h => by
      rcases h with h | h
      · exact h
      · omega
theorem LSt.rtook (h : LSt w0 lo hi X R px sv bs P Q w) {Q' : Nat} (r : Rf w' R sv bs Q' false) (f : Fr (fun k => k = R) w w') : LSt w0 lo hi X R px sv bs P Q' w' := by
  have a1 := h.rd.elo
  have a2 := h.rd.ehi
  have a3 := h.ord
  have a4 := h.fr.size
  refine ⟨h.rd.keep f (fun k _ _ => by omega), r, ?_, ?_, h.ord, h.old⟩
  · rw [f.block _ (lt_of h.cx) (by omega)]; exact h.cx
  · exact (h.fr.trans f).mono fun k hk h => by
      rcases h with h | h
      · exact h
      · omega
end

set_option maxHeartbeats 800000 in
theorem lo1_ok (w0 : World) (lo hi X R px pn pg : Nat) (sv : Value) (bs : List Nat) (P Q n : Nat) (w : World) (h : LSt w0 lo hi X R px sv bs P Q w)
    (hpn : w.heap[pn]? = some (.cells #[.int .i64 n] 3)) (hg : w.heap[pg]? = some (.cells #[.int .i64 0] 3)) (hpx : px < pn) (hng : pn < pg) (hn : n ≤ 24) (hle : P + n ≤ 8 * bs.length) :
    Calls Try.prog 12 #[.pointer (some ⟨px, 0, none⟩), .pointer (some ⟨pn, 0, none⟩), .pointer (some ⟨pg, 0, none⟩)] w fun e w' => e = .returned (.tuple #[]) ∧
      LSt w0 lo hi X R px sv bs (P + n) Q w' ∧ w'.heap[pg]? = some (.cells #[.int .i64 (lowBits (leNum bs) P n : Nat)] 3) ∧ Fr (fun k => k = X ∨ k = pg) w w' := by
  have hord := h.ord
  have a1 := h.rd.elo
  have a2 := h.rd.ehi
  have k0 := cell_of (o := 0) h.cx rfl
  have k1 := cell_of (o := 0) hpn rfl
  have hXg : ¬ pg = X := by omega
  have H := hide h
  have Hg := hide hg
  have Hpx := hide hpx
  have Hng := hide hng
  clear h hg hord a1 a2 hpx hng hpn
  go_enter Try.func12, Try.ntmps12
  go_wp2_with fail
  refine (low_take _ lo hi X bs P n _ _ H.out.rd hn hle).mono ?_
  rintro e w1 ⟨rfl, hr1, hf1⟩
  have hg1 := (hf1.block pg (lt_of Hg.out) hXg).trans Hg.out
  have q4 := cell_of (o := 0) hg1 rfl
  have q5 := frozen_of (o := 0) hg1
  have HG1 := hide hg1
  have Hr1 := hide hr1
  have Hf1 := hide hf1
  clear hg1 hr1 hf1
  go_wp2_with fail
  go_end0
  have a3 := Hpx.out
  have a4 := Hng.out
  refine ⟨rfl, (H.out.took Hr1.out Hf1.out).far (Fr.of_setCell w1 ⟨pg, 0, none⟩ _) (fun k hk => by simp; omega), heap_setCell_one (u := .int .i64 0) _ HG1.out, ?_⟩
  exact Hf1.out.trans (Fr.of_setCell w1 ⟨pg, 0, none⟩ _)

set_option maxHeartbeats 800000 in
theorem lo1_no (w0 : World) (lo hi X R px pn pg : Nat) (sv : Value) (bs : List Nat) (P Q : Nat) (n : Int) (w : World) (h : LSt w0 lo hi X R px sv bs P Q w)
    (hpn : w.heap[pn]? = some (.cells #[.int .i64 n] 3)) (hbad : (n < 0 ∨ 24 < n) ∨ (8 * bs.length : Nat) < P + n) :
    Calls Try.prog 12 #[.pointer (some ⟨px, 0, none⟩), .pointer (some ⟨pn, 0, none⟩), .pointer (some ⟨pg, 0, none⟩)] w fun e w' => (∃ er, e = errPanic er) ∧ ∃ k, w.drewN k = w' := by
  have k0 := cell_of (o := 0) h.cx rfl
  have k1 := cell_of (o := 0) hpn rfl
  have H := hide h
  have Hbad := hide hbad
  clear h hpn hbad
  go_enter Try.func12, Try.ntmps12
  go_wp2_with fail
  refine (low_take_no _ lo hi X bs P n _ _ H.out.rd Hbad.out).mono ?_
  rintro e w1 ⟨⟨er, rfl⟩, k, rfl⟩
  exact ⟨rfl, ⟨er, rfl⟩, k, rfl⟩

set_option maxHeartbeats 800000 in
theorem lo2_ok (w0 : World) (lo hi X R px pn pd : Nat) (sv : Value) (bs : List Nat) (P Q n : Nat) (w : World) (h : LSt w0 lo hi X R px sv bs P Q w)
    (hpn : w.heap[pn]? = some (.cells #[.int .i64 n] 3)) (hg : w.heap[pd]? = some (.cells #[.slice none 0 0] 22)) (hpx : px < pn) (hng : pn < pd) (hle : (P + 7) / 8 + n ≤ bs.length) :
    Calls Try.prog 17 #[.pointer (some ⟨px, 0, none⟩), .pointer (some ⟨pn, 0, none⟩), .pointer (some ⟨pd, 0, none⟩)] w fun e w' => e = .returned (.tuple #[]) ∧
      LSt w0 lo hi X R px sv bs (8 * ((P + 7) / 8 + n)) Q w' ∧ (∃ a c, w'.heap[pd]? = some (.cells #[.slice a n c] 22) ∧ Lies w' (.slice a n c) ((bs.drop ((P + 7) / 8)).take n) ∧ ∀ ad, a = some ad → w.heap.size ≤ ad.block) ∧ Fr (fun k => k = X ∨ k = pd) w w' := by
  have hord := h.ord
  have a1 := h.rd.elo
  have a2 := h.rd.ehi
  have k0 := cell_of (o := 0) h.cx rfl
  have k1 := cell_of (o := 0) hpn rfl
  have hXg : ¬ pd = X := by omega
  have H := hide h
  have Hg := hide hg
  have Hpx := hide hpx
  have Hng := hide hng
  have hb := low_bytes_ok w lo hi X bs P n _ _ h.rd hle
  have Hb := hide hb
  clear h hg hord a1 a2 hpx hng hpn hb hle
  go_enter Try.func17, Try.ntmps17
  go_wp2_with fail
  refine Hb.out.mono ?_
  rintro e w1 ⟨a, c, rfl, hl1, hr1, hf1, hnew⟩
  have hg1 := (hf1.block pd (lt_of Hg.out) hXg).trans Hg.out
  have q4 := cell_of (o := 0) hg1 rfl
  have q5 := frozen_of (o := 0) hg1
  have HG1 := hide hg1
  have Hr1 := hide hr1
  have Hf1 := hide hf1
  have Hl1 := hide hl1
  have Hnew := hide hnew
  clear hg1 hr1 hf1 hl1 hnew
  go_wp2_with fail
  go_end0
  have a3 := Hpx.out
  have a4 := Hng.out
  refine ⟨rfl, (H.out.took Hr1.out Hf1.out).far (Fr.of_setCell w1 ⟨pd, 0, none⟩ _) (fun k hk => by simp; omega), ⟨a, c, heap_setCell_one (u := .slice none 0 0) _ HG1.out, Hl1.out.keep (fun _ ad m c' e => Below.heap_setCell _ _ _ _ ?_), Hnew.out⟩, ?_⟩
  · have h1 := Hnew.out ad (by simp at e; exact e.1)
    have h2 := lt_of Hg.out
    show ad.block ≠ pd
    omega
  · exact Hf1.out.trans (Fr.of_setCell w1 ⟨pd, 0, none⟩ _)

set_option maxHeartbeats 800000 in
theorem lo2_no (w0 : World) (lo hi X R px pn pd : Nat) (sv : Value) (bs : List Nat) (P Q : Nat) (n : Int) (w : World) (h : LSt w0 lo hi X R px sv bs P Q w)
    (hpn : w.heap[pn]? = some (.cells #[.int .i64 n] 3)) (hbad : n < 0 ∨ (bs.length : Int) < ((P + 7) / 8 : Nat) + n) :
    Calls Try.prog 17 #[.pointer (some ⟨px, 0, none⟩), .pointer (some ⟨pn, 0, none⟩), .pointer (some ⟨pd, 0, none⟩)] w fun e w' => (∃ er, e = errPanic er) ∧ ∃ k, w.drewN k = w' := by
  have k0 := cell_of (o := 0) h.cx rfl
  have k1 := cell_of (o := 0) hpn rfl
  have hb : Calls Try.prog 18 #[.pointer (some ⟨X, 0, none⟩), .int .i64 n] w fun e w' => (∃ er, e = errPanic er) ∧ ∃ k, w.drewN k = w' := by
    by_cases hn : n < 0
    · exact low_bytes_neg X n w hn
    · exact low_bytes_short w lo hi X bs P n _ _ h.rd (by omega) (by omega)
  have Hb := hide hb
  clear h hpn hbad hb
  go_enter Try.func17, Try.ntmps17
  go_wp2_with fail
  refine Hb.out.mono ?_
  rintro e w1 ⟨⟨er, rfl⟩, k, rfl⟩
  exact ⟨rfl, ⟨er, rfl⟩, k, rfl⟩

theorem cf12 (W : World) (a b c : Value) : (callFunc 12 #[a, b, c]).run Try.prog W = .ok (.enter 12 #[a, b, c]) W := by kernel_rfl
theorem cf17 (W : World) (a b c : Value) : (callFunc 17 #[a, b, c]).run Try.prog W = .ok (.enter 17 #[a, b, c]) W := by kernel_rfl

theorem lo_take_ok (w0 : World) (lo hi X R px pn pg : Nat) (sv : Value) (bs : List Nat) (P Q n : Nat) (w : World) (h : LSt w0 lo hi X R px sv bs P Q w)
    (hpn : w.heap[pn]? = some (.cells #[.int .i64 n] 3)) (hg : w.heap[pg]? = some (.cells #[.int .i64 0] 3)) (hpx : px < pn) (hng : pn < pg) (hn : n ≤ 24) (hle : P + n ≤ 8 * bs.length) :
    Calls Try.prog 11 #[.func (.func 12) #[] #[.pointer (some ⟨px, 0, none⟩), .pointer (some ⟨pn, 0, none⟩), .pointer (some ⟨pg, 0, none⟩)]] w fun e w' => e = .returned (.bool true) ∧
      LSt w0 lo hi X R px sv bs (P + n) Q w' ∧ w'.heap[pn]? = some (.cells #[.int .i64 n] 3) ∧ w'.heap[pg]? = some (.cells #[.int .i64 (lowBits (leNum bs) P n : Nat)] 3) := by
  have hpns := lt_of hpn
  have hpgs := lt_of hg
  have a1 := h.rd.ehi
  have a2 := h.ord
  refine (guard_c 12 _ w (fun b w' => b = true ∧ LSt w0 lo hi X R px sv bs (P + n) Q w' ∧ w'.heap[pg]? = some (.cells #[.int .i64 (lowBits (leNum bs) P n : Nat)] 3) ∧ Fr (fun k => k = X ∨ k = pg) (w.alloc (.cells #[.bool false] 4)) w') (fun W => cf12 W _ _ _) ?_ ?_).mono ?_
  · refine (lo1_ok w0 lo hi X R px pn pg sv bs P Q n _ (h.far (Fr.of_alloc w _) (fun _ _ h => h)) ?_ ?_ hpx hng hn hle).mono fun e w' ⟨he, h1, h2, h3⟩ => Or.inl ⟨he, rfl, h1, h2, h3⟩
    · rw [Below.heap_alloc _ _ _ hpns]; exact hpn
    · rw [Below.heap_alloc _ _ _ hpgs]; exact hg
  · rintro b w' ⟨_, _, _, f⟩
    rw [f.block _ (by simp) (by omega)]
    exact heap_alloc_new _ _
  · rintro e w' ⟨b, w1, rfl, ⟨rfl, h1, h2, f⟩, rfl⟩
    refine ⟨rfl, h1.far (Fr.of_setCell _ _ _) (fun k hk => by simp; omega), ?_, ?_⟩
    · rw [Below.heap_setCell _ _ _ _ (by simp; omega), f.block _ (by simp; omega) (by omega), Below.heap_alloc _ _ _ hpns]; exact hpn
    · rw [Below.heap_setCell _ _ _ _ (by simp; omega)]; exact h2

theorem lo_take_no (w0 : World) (lo hi X R px pn pg : Nat) (sv : Value) (bs : List Nat) (P Q : Nat) (n : Int) (w : World) (h : LSt w0 lo hi X R px sv bs P Q w)
    (hpn : w.heap[pn]? = some (.cells #[.int .i64 n] 3)) (hg : w.heap[pg]? = some (.cells #[.int .i64 0] 3)) (hbad : (n < 0 ∨ 24 < n) ∨ (8 * bs.length : Nat) < P + n) :
    Calls Try.prog 11 #[.func (.func 12) #[] #[.pointer (some ⟨px, 0, none⟩), .pointer (some ⟨pn, 0, none⟩), .pointer (some ⟨pg, 0, none⟩)]] w fun e w' => e = .returned (.bool false) ∧
      LSt w0 lo hi X R px sv bs P Q w' ∧ w'.heap[pn]? = some (.cells #[.int .i64 n] 3) ∧ w'.heap[pg]? = some (.cells #[.int .i64 0] 3) := by
  have hpns := lt_of hpn
  have hpgs := lt_of hg
  refine (guard_c 12 _ w (fun b w' => b = false ∧ ∃ k, (w.alloc (.cells #[.bool false] 4)).drewN k = w') (fun W => cf12 W _ _ _) ?_ ?_).mono ?_
  · refine (lo1_no w0 lo hi X R px pn pg sv bs P Q n _ (h.far (Fr.of_alloc w _) (fun _ _ h => h)) (by rw [Below.heap_alloc _ _ _ hpns]; exact hpn) hbad).mono ?_
    rintro e w' ⟨⟨er, rfl⟩, k, hk⟩
    exact Or.inr ⟨⟨_, _, rfl⟩, rfl, k, hk⟩
  · rintro b w' ⟨_, k, rfl⟩
    exact heap_alloc_new _ _
  · rintro e w' ⟨b, w1, rfl, ⟨rfl, k, rfl⟩, rfl⟩
    have f := guard_set (b := false) (Fr.of_drewN (w.alloc (.cells #[.bool false] 4)) k)
    refine ⟨rfl, h.far f (fun k hk h => h), ?_, ?_⟩
    · rw [f.block _ hpns (fun h => h)]; exact hpn
    · rw [f.block _ hpgs (fun h => h)]; exact hg

theorem lo_bytes_ok (w0 : World) (lo hi X R px pn pd : Nat) (sv : Value) (bs : List Nat) (P Q n : Nat) (w : World) (h : LSt w0 lo hi X R px sv bs P Q w)
    (hpn : w.heap[pn]? = some (.cells #[.int .i64 n] 3)) (hg : w.heap[pd]? = some (.cells #[.slice none 0 0] 22)) (hpx : px < pn) (hng : pn < pd) (hle : (P + 7) / 8 + n ≤ bs.length) :
    Calls Try.prog 11 #[.func (.func 17) #[] #[.pointer (some ⟨px, 0, none⟩), .pointer (some ⟨pn, 0, none⟩), .pointer (some ⟨pd, 0, none⟩)]] w fun e w' => e = .returned (.bool true) ∧
      LSt w0 lo hi X R px sv bs (8 * ((P + 7) / 8 + n)) Q w' ∧ w'.heap[pn]? = some (.cells #[.int .i64 n] 3) ∧ ∃ a c, w'.heap[pd]? = some (.cells #[.slice a n c] 22) ∧ Lies w' (.slice a n c) ((bs.drop ((P + 7) / 8)).take n) := by
  have hpns := lt_of hpn
  have hpgs := lt_of hg
  have a1 := h.rd.ehi
  have a2 := h.ord
  refine (guard_c 17 _ w (fun b w' => b = true ∧ LSt w0 lo hi X R px sv bs (8 * ((P + 7) / 8 + n)) Q w' ∧ (∃ a c, w'.heap[pd]? = some (.cells #[.slice a n c] 22) ∧ Lies w' (.slice a n c) ((bs.drop ((P + 7) / 8)).take n) ∧ ∀ ad, a = some ad → (w.alloc (.cells #[.bool false] 4)).heap.size ≤ ad.block) ∧ Fr (fun k => k = X ∨ k = pd) (w.alloc (.cells #[.bool false] 4)) w') (fun W => cf17 W _ _ _) ?_ ?_).mono ?_
  · refine (lo2_ok w0 lo hi X R px pn pd sv bs P Q n _ (h.far (Fr.of_alloc w _) (fun _ _ h => h)) ?_ ?_ hpx hng hle).mono fun e w' ⟨he, h1, h2, h3⟩ => Or.inl ⟨he, rfl, h1, h2, h3⟩
    · rw [Below.heap_alloc _ _ _ hpns]; exact hpn
    · rw [Below.heap_alloc _ _ _ hpgs]; exact hg
  · rintro b w' ⟨_, _, _, f⟩
    rw [f.block _ (by simp) (by omega)]
    exact heap_alloc_new _ _
  · rintro e w' ⟨b, w1, rfl, ⟨rfl, h1, ⟨a, c, h2, h3, h4⟩, f⟩, rfl⟩
    refine ⟨rfl, h1.far (Fr.of_setCell _ _ _) (fun k hk => by simp; omega), ?_, a, c, ?_, h3.keep (fun _ ad m c' e => Below.heap_setCell _ _ _ _ ?_)⟩
    · rw [Below.heap_setCell _ _ _ _ (by simp; omega), f.block _ (by simp; omega) (by omega), Below.heap_alloc _ _ _ hpns]; exact hpn
    · rw [Below.heap_setCell _ _ _ _ (by simp; omega)]; exact h2
    · have h5 := h4 ad (by simp at e; exact e.1)
      simp only [size_alloc] at h5
      show ad.block ≠ w.heap.size
      omega

theorem lo_bytes_no (w0 : World) (lo hi X R px pn pd : Nat) (sv : Value) (bs : List Nat) (P Q : Nat) (n : Int) (w : World) (h : LSt w0 lo hi X R px sv bs P Q w)
    (hpn : w.heap[pn]? = some (.cells #[.int .i64 n] 3)) (hbad : n < 0 ∨ (bs.length : Int) < ((P + 7) / 8 : Nat) + n) :
    Calls Try.prog 11 #[.func (.func 17) #[] #[.pointer (some ⟨px, 0, none⟩), .pointer (some ⟨pn, 0, none⟩), .pointer (some ⟨pd, 0, none⟩)]] w fun e w' => e = .returned (.bool false) ∧
      LSt w0 lo hi X R px sv bs P Q w' ∧ w'.heap[pn]? = some (.cells #[.int .i64 n] 3) := by
  have hpns := lt_of hpn
  refine (guard_c 17 _ w (fun b w' => b = false ∧ ∃ k, (w.alloc (.cells #[.bool false] 4)).drewN k = w') (fun W => cf17 W _ _ _) ?_ ?_).mono ?_
  · refine (lo2_no w0 lo hi X R px pn pd sv bs P Q n _ (h.far (Fr.of_alloc w _) (fun _ _ h => h)) (by rw [Below.heap_alloc _ _ _ hpns]; exact hpn) hbad).mono ?_
    rintro e w' ⟨⟨er, rfl⟩, k, hk⟩
    exact Or.inr ⟨⟨_, _, rfl⟩, rfl, k, hk⟩
  · rintro b w' ⟨_, k, rfl⟩
    exact heap_alloc_new _ _
  · rintro e w' ⟨b, w1, rfl, ⟨rfl, k, rfl⟩, rfl⟩
    have f := guard_set (b := false) (Fr.of_drewN (w.alloc (.cells #[.bool false] 4)) k)
    refine ⟨rfl, h.far f (fun k hk h => h), ?_⟩
    rw [f.block _ hpns (fun h => h)]; exact hpn
end Go.Proofs.Ytkmgpapopgeldaa
