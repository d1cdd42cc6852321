import Derived.Test.YtkmgpapopgeldaaH
import Derived.RegionDies
namespace Go.Proofs.Ytkmgpapopgeldaa
open Go.RowKit

/-- A slice of ints that lies in memory. -/
def LiesI (w : World) (lv : Value) (xs : List Int) : Prop :=
  (lv = .slice none 0 0 ∧ xs = []) ∨ ∃ ad c, lv = .slice (some ad) xs.length c ∧ ∀ i, i < xs.length → w.cell? (ad.add i) = some (.int .i64 (xs.getD i 0))

theorem LiesI.at {w : World} {lv : Value} {xs : List Int} (h : LiesI w lv xs) (hx : 0 < xs.length) : ∃ D o c, lv = .slice (some ⟨D, o, none⟩) xs.length c ∧ ∀ i, i < xs.length → w.cell? ⟨D, o + i, none⟩ = some (.int .i64 (xs.getD i 0)) := by
  rcases h with ⟨_, rfl⟩ | ⟨⟨D, o, sp⟩, c, rfl, hc⟩
  · simp at hx
  · have hspot : sp = none := by simpa [Addr.add] using World.cell?_spot (hc 0 hx)
    subst hspot
    exact ⟨D, o, c, rfl, fun i hi => by have := hc i hi; rw [add_none] at this; exact this⟩

/-- A state of the law's round: w0 is the world in which the law was called. -/
structure HSt (w0 : World) (lo hi X R px pl pi : Nat) (sv lv : Value) (bs : List Nat) (P Q j : Nat) (w : World) : Prop where
  rd : Rd 63 w lo hi X bs P (.slice none 0 0) 0
  rf : Rf w R sv bs Q true
  cx : w.heap[px]? = some (.cells #[.pointer (some ⟨X, 0, none⟩)] 40)
  cl : w.heap[pl]? = some (.cells #[lv] 39)
  ci : w.heap[pi]? = some (.cells #[.int .i64 j] 3)
  fr : Fr (fun _ => False) w0 w
  ord : ((w0.heap.size ≤ pl ∧ pl < lo) ∧ hi ≤ R) ∧ R < px ∧ px < pi
  old : bs ≠ [] → ∀ ad n c, sv = .slice (some ad) n c → ad.block < w0.heap.size

section
variable {w0 : World} {lo hi X R px pl pi : Nat} {sv lv : Value} {bs : List Nat} {P Q j : Nat} {w w' : World}
theorem HSt.far (h : HSt w0 lo hi X R px pl pi sv lv bs P Q j w) {S : Nat → Prop} (f : Fr S w w') (hS : ∀ k, k ≤ pi → ¬ S k) : HSt w0 lo hi X R px pl pi sv lv bs P Q j w' := by
  have a1 := h.rd.elo
  have a2 := h.rd.ehi
  have a3 := h.ord
  have a4 := h.fr.size
  refine ⟨h.rd.keep f (fun k _ _ => hS k (by omega)), h.rf.keep f (hS _ (by omega)) (fun hne ad n c e => ⟨by have := h.old hne ad n c e; omega, hS _ (by have := h.old hne ad n c e; omega)⟩), ?_, ?_, ?_, ?_, h.ord, h.old⟩
  · rw [f.block _ (lt_of h.cx) (hS _ (by omega))]; exact h.cx
  · rw [f.block _ (lt_of h.cl) (hS _ (by omega))]; exact h.cl
  · rw [f.block _ (lt_of h.ci) (hS _ (by omega))]; exact h.ci
  · exact (h.fr.trans f).mono fun k hk h => by
      rcases h with h | h
      · exact h
      · exact hS k (by omega) h
theorem HSt.took (h : HSt w0 lo hi X R px pl pi sv lv bs P Q j w) {P' : Nat} (r : Rd 63 w' lo hi X bs P' (.slice none 0 0) 0) (f : Fr (fun k => k = X) w w') : HSt w0 lo hi X R px pl pi sv lv bs P' Q j w' := by
  have a1 := h.rd.elo
  have a2 := h.rd.ehi
  have a3 := h.ord
  have a4 := h.fr.size
  refine ⟨r, h.rf.keep f (by omega) (fun hne ad n c e => ⟨by have := h.old hne ad n c e; omega, by have := h.old hne ad n c e; omega⟩), ?_, ?_, ?_, ?_, h.ord, h.old⟩
  · rw [f.block _ (lt_of h.cx) (by omega)]; exact h.cx
  · rw [f.block _ (lt_of h.cl) (by omega)]; exact h.cl
  · rw [f.block _ (lt_of h.ci) (by omega)]; exact h.ci
  · exact (h.fr.trans f).mono fun k hk h => by
      rcases h with h | h
      · exact h
      · omega
theorem HSt.rtook (h : HSt w0 lo hi X R px pl pi sv lv bs P Q j w) {Q' : Nat} (r : Rf w' R sv bs Q' true) (f : Fr (fun k => k = R) w w') : HSt w0 lo hi X R px pl pi sv lv bs P Q' j w' := by
  have a1 := h.rd.elo
  have a2 := h.rd.ehi
  have a3 := h.ord
  have a4 := h.fr.size
  refine ⟨h.rd.keep f (fun k _ _ => by omega), r, ?_, ?_, ?_, ?_, h.ord, h.old⟩
  · rw [f.block _ (lt_of h.cx) (by omega)]; exact h.cx
  · rw [f.block _ (lt_of h.cl) (by omega)]; exact h.cl
  · rw [f.block _ (lt_of h.ci) (by omega)]; exact h.ci
  · exact (h.fr.trans f).mono fun k hk h => by
      rcases h with h | h
      · exact h
      · omega
end

set_option maxHeartbeats 800000 in
set_option maxRecDepth 100000 in
theorem hi1_ok (w0 : World) (lo hi X R px pl pi pg D o c L : Nat) (sv : Value) (bs : List Nat) (P Q j n : Nat) (w : World) (h : HSt w0 lo hi X R px pl pi sv (.slice (some ⟨D, o, none⟩) L c) bs P Q j w)
    (hg : w.heap[pg]? = some (.cells #[.int .i64 0] 3)) (hpg : pi < pg) (he : w0.cell? ⟨D, o + j, none⟩ = some (.int .i64 n)) (hj : (j : Int) < L) (hn : n ≤ 24) (hle : P + n ≤ 8 * bs.length) :
    Calls Try.prog 22 #[.pointer (some ⟨px, 0, none⟩), .pointer (some ⟨pl, 0, none⟩), .pointer (some ⟨pi, 0, none⟩), .pointer (some ⟨pg, 0, none⟩)] w fun e w' => e = .returned (.tuple #[]) ∧
      HSt w0 lo hi X R px pl pi sv (.slice (some ⟨D, o, none⟩) L c) bs (P + n) Q j w' ∧ w'.heap[pg]? = some (.cells #[.int .i64 (lowBits (beNum bs) (8 * bs.length - P - n) n : Nat)] 3) ∧ Fr (fun k => k = X ∨ k = pg) w w' := by
  have hord := h.ord
  have hD := World.block_lt_of_cell? _ _ he
  have a1 := h.rd.elo
  have a2 := h.rd.ehi
  have he1 : w.cell? ⟨D, o + j, none⟩ = some (.int .i64 n) := by rw [World.cell?_of_block (w := w0) (h.fr.block D hD (fun h => h))]; exact he
  have k0 := cell_of (o := 0) h.cx rfl
  have k1 := cell_of (o := 0) h.cl rfl
  have k2 := cell_of (o := 0) h.ci rfl
  have n1 : ¬ pg = px := by omega
  have n2 : ¬ pg = pl := by omega
  have n3 : ¬ pg = pi := by omega
  have n4 : ¬ pg = D := by simp at hD; omega
  have hXD : ¬ D = X := by simp at hD; omega
  have hXg : ¬ pg = X := by omega
  have hX0 : ¬ px = X := by omega
  have hX1 : ¬ pl = X := by omega
  have hX2 : ¬ pi = X := by omega
  have Hg := hide hg
  have H := hide h
  have H1 : Hid (Rd 63 w.drew lo hi X bs P (.slice none 0 0) 0) := h.rd.drewN 1
  have hj0 : (0 : Int) ≤ (j : Int) := by omega
  have Hpg := hide hpg
  clear h hg hord he a1 a2 hpg hD
  go_enter Try.func22, Try.ntmps22
  go_region_held3 (fun w' => ((w'.cell? ⟨px, 0, none⟩ = some (.pointer (some ⟨X, 0, none⟩)) ∧ w'.cell? ⟨pl, 0, none⟩ = some (.slice (some ⟨D, o, none⟩) L c)) ∧ w'.cell? ⟨pi, 0, none⟩ = some (.int .i64 j)) ∧ w'.cell? ⟨D, o + j, none⟩ = some (.int .i64 n)) (go_keep)
    (first
      | (go_at_call 23; refine (high_take _ lo hi X bs P n _ _ H1.out hn hle).mono ?_; rintro e w1 ⟨rfl, hr1, hf1⟩
         have q0 := (World.cell?_of_block (w := w) (w' := w1) (a := ⟨px, 0, none⟩) (hf1.block px (lt_of H.out.cx) hX0)).trans k0
         have q1 := (World.cell?_of_block (w := w) (w' := w1) (a := ⟨pl, 0, none⟩) (hf1.block pl (lt_of H.out.cl) hX1)).trans k1
         have q2 := (World.cell?_of_block (w := w) (w' := w1) (a := ⟨pi, 0, none⟩) (hf1.block pi (lt_of H.out.ci) hX2)).trans k2
         have q3 := (World.cell?_of_block (w := w) (w' := w1) (a := ⟨D, o + j, none⟩) (hf1.block D (World.block_lt_of_cell? _ _ he1) hXD)).trans he1
         have hg1 := (hf1.block pg (lt_of Hg.out) hXg).trans Hg.out
         have q4 := cell_of (o := 0) hg1 rfl
         have q5 := frozen_of (o := 0) hg1
         have HG1 := hide hg1
         clear hg1))
  go_end0
  have a1 := H.out.rd.elo
  have a2 := H.out.rd.ehi
  have a3 := H.out.ord
  have f0 : Fr (fun k => k = X) w w1 := ((Fr.of_drewN w 1).trans hf1).mono fun k _ h => by
    rcases h with h | h
    · exact h.elim
    · exact h
  refine ⟨rfl, (H.out.took hr1 f0).far (Fr.of_setCell w1 ⟨pg, 0, none⟩ _) (fun k hk => by have := Hpg.out; simp; omega), heap_setCell_one (u := .int .i64 0) _ HG1.out, ?_⟩
  exact f0.trans (Fr.of_setCell w1 ⟨pg, 0, none⟩ _)

set_option maxHeartbeats 800000 in
set_option maxRecDepth 100000 in
theorem hi1_no (w0 : World) (lo hi X R px pl pi pg D o c L : Nat) (sv : Value) (bs : List Nat) (P Q j : Nat) (n : Int) (w : World) (h : HSt w0 lo hi X R px pl pi sv (.slice (some ⟨D, o, none⟩) L c) bs P Q j w)
    (he : w0.cell? ⟨D, o + j, none⟩ = some (.int .i64 n)) (hj : (j : Int) < L) (hbad : (n < 0 ∨ 24 < n) ∨ (8 * bs.length : Nat) < P + n) :
    Calls Try.prog 22 #[.pointer (some ⟨px, 0, none⟩), .pointer (some ⟨pl, 0, none⟩), .pointer (some ⟨pi, 0, none⟩), .pointer (some ⟨pg, 0, none⟩)] w fun e w' => (∃ er, e = errPanic er) ∧ ∃ k, w.drewN k = w' := by
  have hD := World.block_lt_of_cell? _ _ he
  have he1 : w.cell? ⟨D, o + j, none⟩ = some (.int .i64 n) := by rw [World.cell?_of_block (w := w0) (h.fr.block D hD (fun h => h))]; exact he
  have k0 := cell_of (o := 0) h.cx rfl
  have k1 := cell_of (o := 0) h.cl rfl
  have k2 := cell_of (o := 0) h.ci rfl
  have H1 : Hid (Rd 63 w.drew lo hi X bs P (.slice none 0 0) 0) := h.rd.drewN 1
  have hj0 : (0 : Int) ≤ (j : Int) := by omega
  have Hbad := hide hbad
  clear h he hD hbad
  go_enter Try.func22, Try.ntmps22
  go_region_dies
  all_goals
    refine (high_take_no _ lo hi X bs P n _ _ H1.out Hbad.out).mono ?_
    rintro e w1 ⟨⟨er, rfl⟩, k, rfl⟩
    exact ⟨rfl, ⟨er, rfl⟩, 1 + k, (World.drewN_drewN ..).symm⟩

theorem cf22 (W : World) (a b c d : Value) : (callFunc 22 #[a, b, c, d]).run Try.prog W = .ok (.enter 22 #[a, b, c, d]) W := by kernel_rfl

theorem hi_guard_ok (w0 : World) (lo hi X R px pl pi pg D o c L : Nat) (sv : Value) (bs : List Nat) (P Q j n : Nat) (w : World) (h : HSt w0 lo hi X R px pl pi sv (.slice (some ⟨D, o, none⟩) L c) bs P Q j w)
    (hg : w.heap[pg]? = some (.cells #[.int .i64 0] 3)) (hpg : pi < pg) (he : w0.cell? ⟨D, o + j, none⟩ = some (.int .i64 n)) (hj : (j : Int) < L) (hn : n ≤ 24) (hle : P + n ≤ 8 * bs.length) :
    Calls Try.prog 11 #[.func (.func 22) #[] #[.pointer (some ⟨px, 0, none⟩), .pointer (some ⟨pl, 0, none⟩), .pointer (some ⟨pi, 0, none⟩), .pointer (some ⟨pg, 0, none⟩)]] w fun e w' => e = .returned (.bool true) ∧
      HSt w0 lo hi X R px pl pi sv (.slice (some ⟨D, o, none⟩) L c) bs (P + n) Q j w' ∧ w'.heap[pg]? = some (.cells #[.int .i64 (lowBits (beNum bs) (8 * bs.length - P - n) n : Nat)] 3) ∧ w.heap.size ≤ w'.heap.size := by
  have hpgs := lt_of hg
  have a1 := h.rd.ehi
  have a2 := h.ord
  refine (guard_c 22 _ w (fun b w' => b = true ∧ HSt w0 lo hi X R px pl pi sv (.slice (some ⟨D, o, none⟩) L c) bs (P + n) Q j w' ∧ w'.heap[pg]? = some (.cells #[.int .i64 (lowBits (beNum bs) (8 * bs.length - P - n) n : Nat)] 3) ∧ Fr (fun k => k = X ∨ k = pg) (w.alloc (.cells #[.bool false] 4)) w') (fun W => cf22 W _ _ _ _) ?_ ?_).mono ?_
  · refine (hi1_ok w0 lo hi X R px pl pi pg D o c L sv bs P Q j n _ (h.far (Fr.of_alloc w _) (fun _ _ h => h)) ?_ hpg he hj hn hle).mono fun e w' ⟨he, h1, h2, h3⟩ => Or.inl ⟨he, rfl, h1, h2, h3⟩
    rw [Below.heap_alloc _ _ _ hpgs]; exact hg
  · rintro b w' ⟨_, _, _, f⟩
    rw [f.block _ (by simp) (by omega)]
    exact heap_alloc_new _ _
  · rintro e w' ⟨b, w1, rfl, ⟨rfl, h1, h2, f⟩, rfl⟩
    refine ⟨rfl, h1.far (Fr.of_setCell _ _ _) (fun k hk => by simp; omega), ?_, (guard_set f).size⟩
    rw [Below.heap_setCell _ _ _ _ (by simp; omega)]; exact h2

theorem hi_guard_no (w0 : World) (lo hi X R px pl pi pg D o c L : Nat) (sv : Value) (bs : List Nat) (P Q j : Nat) (n : Int) (w : World) (h : HSt w0 lo hi X R px pl pi sv (.slice (some ⟨D, o, none⟩) L c) bs P Q j w)
    (hg : w.heap[pg]? = some (.cells #[.int .i64 0] 3)) (_hpg : pi < pg) (he : w0.cell? ⟨D, o + j, none⟩ = some (.int .i64 n)) (hj : (j : Int) < L) (hbad : (n < 0 ∨ 24 < n) ∨ (8 * bs.length : Nat) < P + n) :
    Calls Try.prog 11 #[.func (.func 22) #[] #[.pointer (some ⟨px, 0, none⟩), .pointer (some ⟨pl, 0, none⟩), .pointer (some ⟨pi, 0, none⟩), .pointer (some ⟨pg, 0, none⟩)]] w fun e w' => e = .returned (.bool false) ∧
      HSt w0 lo hi X R px pl pi sv (.slice (some ⟨D, o, none⟩) L c) bs P Q j w' ∧ w'.heap[pg]? = some (.cells #[.int .i64 0] 3) ∧ w.heap.size ≤ w'.heap.size := by
  have hpgs := lt_of hg
  refine (guard_c 22 _ w (fun b w' => b = false ∧ ∃ k, (w.alloc (.cells #[.bool false] 4)).drewN k = w') (fun W => cf22 W _ _ _ _) ?_ ?_).mono ?_
  · refine (hi1_no w0 lo hi X R px pl pi pg D o c L sv bs P Q j n _ (h.far (Fr.of_alloc w _) (fun _ _ h => h)) he hj hbad).mono ?_
    rintro e w' ⟨⟨er, rfl⟩, k, hk⟩
    exact Or.inr ⟨⟨_, _, rfl⟩, rfl, k, hk⟩
  · rintro b w' ⟨_, k, rfl⟩
    exact heap_alloc_new _ _
  · rintro e w' ⟨b, w1, rfl, ⟨rfl, k, rfl⟩, rfl⟩
    have f := guard_set (b := false) (Fr.of_drewN (w.alloc (.cells #[.bool false] 4)) k)
    refine ⟨rfl, h.far f (fun k hk h => h), ?_, f.size⟩
    rw [f.block _ hpgs (fun h => h)]; exact hg
end Go.Proofs.Ytkmgpapopgeldaa
