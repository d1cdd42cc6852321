import Derived.Test.YtkmgpapopgeldaaU
import Derived.Test.YtkmgpapopgeldaaW
namespace Go.Proofs.Ytkmgpapopgeldaa
open Go.RowKit

/-- A slice of deeds that lies in memory. -/
def LiesD (w : World) (lv : Value) (ds : List (Int × Int)) : Prop :=
  (lv = .slice none 0 0 ∧ ds = []) ∨ ∃ ad c, lv = .slice (some ad) ds.length c ∧ ∀ i, i < ds.length → w.cell? (ad.add (i * 2)) = some (.int .i64 (at0 ds i).1) ∧ w.cell? (ad.add (i * 2 + 1)) = some (.int .i64 (at0 ds i).2)

theorem LiesD.at {w : World} {lv : Value} {ds : List (Int × Int)} (h : LiesD w lv ds) (hx : 0 < ds.length) : ∃ D o c, lv = .slice (some ⟨D, o, none⟩) ds.length c ∧ ∀ i, i < ds.length → w.cell? ⟨D, o + i * 2, none⟩ = some (.int .i64 (at0 ds i).1) ∧ w.cell? ⟨D, o + i * 2 + 1, none⟩ = some (.int .i64 (at0 ds i).2) := by
  rcases h with ⟨_, rfl⟩ | ⟨⟨D, o, sp⟩, c, rfl, hc⟩
  · simp at hx
  · have hspot : sp = none := by simpa [Addr.add] using World.cell?_spot (hc 0 hx).1
    subst hspot
    refine ⟨D, o, c, rfl, fun i hi => ?_⟩
    have h1 := (hc i hi).1
    have h2 := (hc i hi).2
    rw [add_none] at h1 h2
    exact ⟨h1, h2⟩

/-- Two writers, a Low and a High, apart. -/
structure TwoW (w : World) (A B : Nat) (g g' : Option Nat) (os os' : List Nat) (P : Nat) : Prop where
  wl : Wr 56 w 0 A g os P
  wh : Wr 63 w 0 B g' os' P
  sl : LowSt os P
  sh : HighSt os' P
  ap : (A ≠ B ∧ g ≠ some B) ∧ g' ≠ some A ∧ ∀ k, g = some k → g' ≠ some k

theorem Wr.blt {T : TypeId} {w : World} {lo B : Nat} {g : Option Nat} {os : List Nat} {wr : Nat} (h : Wr T w lo B g os wr) : B < w.heap.size := by
  obtain ⟨v, pos, ov, h1, _⟩ := h.eobj
  exact lt_of h1

/-- The state between the two puts of a deed. -/
structure MidW (w : World) (A B : Nat) (g g' : Option Nat) (os os' : List Nat) (P Q : Nat) : Prop where
  wl : Wr 56 w 0 A g os P
  wh : Wr 63 w 0 B g' os' Q
  sl : LowSt os P
  sh : HighSt os' Q
  ap : (A ≠ B ∧ g ≠ some B) ∧ g' ≠ some A ∧ ∀ k, g = some k → g' ≠ some k

/-- What may have turned since a world of size N: the two writers' blocks from N on. -/
theorem two_low (A B : Nat) (g g' : Option Nat) (os os' : List Nat) (P Q n N : Nat) (x : Int) (w : World) (h : MidW w A B g g' os os' P Q) (hP : P ≤ 2147480000) (hn : n ≤ 24) (hN : N ≤ w.heap.size) (hA : N ≤ A) (hg : ∀ k, g = some k → N ≤ k) :
    Calls Try.prog 27 #[.pointer (some ⟨A, 0, none⟩), .int .i64 x, .int .i64 n] w fun e w' => e = .returned (.tuple #[]) ∧
      ∃ g2 os2, MidW w' A B g2 g' os2 os' (P + n) Q ∧ leNum os2 = leNum os + lowBits (bitsOf x) 0 n * 2 ^ P ∧ Fr (fun i => N ≤ i) w w' ∧ (∀ k, g2 = some k → N ≤ k) := by
  refine (low_put_ok 0 A g os P n x w h.wl h.sl hP hn).mono ?_
  rintro e w' ⟨rfl, g2, os2, hw, hs, hnum, hf, hgg⟩
  have ap := h.ap
  have b2 := h.wh.blt
  have b3 := h.wh.lts
  refine ⟨rfl, g2, os2, ⟨hw, h.wh.keep hf ?_ ?_, hs, h.sh, ⟨ap.1.1, ?_⟩, ap.2.1, ?_⟩, hnum, hf.mono ?_, ?_⟩
  · rintro (h1 | h1)
    · exact ap.1.1 h1.symm
    · exact ap.1.2 h1
  · rintro k hk (h1 | h1)
    · exact ap.2.1 (h1 ▸ hk)
    · exact ap.2.2 k h1 hk
  · rcases hgg with rfl | ⟨k, rfl, hk⟩
    · exact ap.1.2
    · intro e; cases e; omega
  · intro k hk hk'
    rcases hgg with rfl | ⟨j, rfl, hj⟩
    · exact ap.2.2 k hk hk'
    · cases hk; have := b3 k hk'; omega
  · rintro i _ (h1 | h1)
    · omega
    · exact hg i h1
  · intro k hk
    rcases hgg with rfl | ⟨j, rfl, hj⟩
    · exact hg k hk
    · cases hk; omega

theorem two_high (A B : Nat) (g g' : Option Nat) (os os' : List Nat) (P Q n N : Nat) (x : Int) (w : World) (h : MidW w A B g g' os os' P Q) (hQ : Q ≤ 2147480000) (hn : n ≤ 24) (hN : N ≤ w.heap.size) (hB : N ≤ B) (hg : ∀ k, g' = some k → N ≤ k) :
    Calls Try.prog 26 #[.pointer (some ⟨B, 0, none⟩), .int .i64 x, .int .i64 n] w fun e w' => e = .returned (.tuple #[]) ∧
      ∃ g2 os2, MidW w' A B g g2 os os2 P (Q + n) ∧ hiNum os2 (Q + n) = hiNum os' Q * 2 ^ n + lowBits (bitsOf x) 0 n ∧ Fr (fun i => N ≤ i) w w' ∧ (∀ k, g2 = some k → N ≤ k) := by
  refine (high_put_ok 0 B g' os' Q n x w h.wh h.sh hQ hn).mono ?_
  rintro e w' ⟨rfl, g2, os2, hw, hs, hnum, hf, hgg⟩
  have ap := h.ap
  have b2 := h.wl.blt
  have b3 := h.wl.lts
  refine ⟨rfl, g2, os2, ⟨h.wl.keep hf ?_ ?_, hw, h.sl, hs, ⟨ap.1.1, ap.1.2⟩, ?_, ?_⟩, hnum, hf.mono ?_, ?_⟩
  · rintro (h1 | h1)
    · exact ap.1.1 h1
    · exact ap.2.1 h1
  · rintro k hk (h1 | h1)
    · exact ap.1.2 (h1 ▸ hk)
    · exact ap.2.2 k hk h1
  · rcases hgg with rfl | ⟨k, rfl, hk⟩
    · exact ap.2.1
    · intro e; cases e; omega
  · intro k hk hk'
    rcases hgg with rfl | ⟨j, rfl, hj⟩
    · exact ap.2.2 k hk hk'
    · cases hk'; have := b3 k hk; omega
  · rintro i _ (h1 | h1)
    · omega
    · exact hg i h1
  · intro k hk
    rcases hgg with rfl | ⟨j, rfl, hj⟩
    · exact hg k hk
    · cases hk; omega

/-- A state of the second loop. -/
structure BSt (w0 : World) (lo1 hi1 X lo2 hi2 Y p3 p9 p10 : Nat) (os os' : List Nat) (hb : Bool) (a b : Nat) (w : World) : Prop where
  rx : Rd 56 w lo1 hi1 X os a (.slice none 0 0) 0
  ry : Rd 63 w lo2 hi2 Y os' b (.slice none 0 0) 0
  c3 : w.heap[p3]? = some (.cells #[.bool hb] 4)
  c9 : w.heap[p9]? = some (.cells #[.pointer (some ⟨X, 0, none⟩)] 25)
  c10 : w.heap[p10]? = some (.cells #[.pointer (some ⟨Y, 0, none⟩)] 40)
  fr : Fr (fun _ => False) w0 w
  ord : ((w0.heap.size ≤ p3 ∧ p3 < lo1) ∧ hi1 ≤ lo2) ∧ hi2 ≤ p9 ∧ p9 < p10

section
variable {w0 : World} {lo1 hi1 X lo2 hi2 Y p3 p9 p10 : Nat} {os os' : List Nat} {hb : Bool} {a b : Nat} {w w' : World}
theorem BSt.far (h : BSt w0 lo1 hi1 X lo2 hi2 Y p3 p9 p10 os os' hb a b w) {S : Nat → Prop} (f : Fr S w w') (hS : ∀ k, k ≤ p10 → ¬ S k) : BSt w0 lo1 hi1 X lo2 hi2 Y p3 p9 p10 os os' hb a b w' := by
  have a1 := h.rx.elo
  have a2 := h.rx.ehi
  have a3 := h.ry.elo
  have a4 := h.ry.ehi
  have a5 := h.ord
  refine ⟨h.rx.keep f (fun k _ _ => hS k (by omega)), h.ry.keep f (fun k _ _ => hS k (by omega)), ?_, ?_, ?_, ?_, h.ord⟩
  · rw [f.block _ (lt_of h.c3) (hS _ (by omega))]; exact h.c3
  · rw [f.block _ (lt_of h.c9) (hS _ (by omega))]; exact h.c9
  · rw [f.block _ (lt_of h.c10) (hS _ (by omega))]; exact h.c10
  · exact (h.fr.trans f).mono fun k hk h => by
      rcases h with h | h
      · exact h
      · exact hS k (by omega) h
theorem BSt.low (h : BSt w0 lo1 hi1 X lo2 hi2 Y p3 p9 p10 os os' hb a b w) {a' : Nat} (r : Rd 56 w' lo1 hi1 X os a' (.slice none 0 0) 0) (f : Fr (fun k => k = X) w w') : BSt w0 lo1 hi1 X lo2 hi2 Y p3 p9 p10 os os' hb a' b w' := by
  have a1 := h.rx.elo
  have a2 := h.rx.ehi
  have a3 := h.ry.elo
  have a4 := h.ry.ehi
  have a5 := h.ord
  refine ⟨r, h.ry.keep f (fun k _ _ => by omega), ?_, ?_, ?_, ?_, h.ord⟩
  · rw [f.block _ (lt_of h.c3) (by omega)]; exact h.c3
  · rw [f.block _ (lt_of h.c9) (by omega)]; exact h.c9
  · rw [f.block _ (lt_of h.c10) (by omega)]; exact h.c10
  · exact (h.fr.trans f).mono fun k hk h => by
      rcases h with h | h
      · exact h
      · omega
theorem BSt.high (h : BSt w0 lo1 hi1 X lo2 hi2 Y p3 p9 p10 os os' hb a b w) {b' : Nat} (r : Rd 63 w' lo2 hi2 Y os' b' (.slice none 0 0) 0) (f : Fr (fun k => k = Y) w w') : BSt w0 lo1 hi1 X lo2 hi2 Y p3 p9 p10 os os' hb a b' w' := by
  have a1 := h.rx.elo
  have a2 := h.rx.ehi
  have a3 := h.ry.elo
  have a4 := h.ry.ehi
  have a5 := h.ord
  refine ⟨h.rx.keep f (fun k _ _ => by omega), r, ?_, ?_, ?_, ?_, h.ord⟩
  · rw [f.block _ (lt_of h.c3) (by omega)]; exact h.c3
  · rw [f.block _ (lt_of h.c9) (by omega)]; exact h.c9
  · rw [f.block _ (lt_of h.c10) (by omega)]; exact h.c10
  · exact (h.fr.trans f).mono fun k hk h => by
      rcases h with h | h
      · exact h
      · omega
end

set_option maxHeartbeats 800000 in
theorem back1_low (w0 : World) (lo1 hi1 X lo2 hi2 Y p3 p9 p10 pn pg : Nat) (os os' : List Nat) (a b n : Nat) (w : World) (h : BSt w0 lo1 hi1 X lo2 hi2 Y p3 p9 p10 os os' false a b w)
    (hn : w.heap[pn]? = some (.cells #[.int .i64 n] 3)) (hg : w.heap[pg]? = some (.cells #[.int .i64 0] 3)) (hpg : p10 < pg) (hn24 : n ≤ 24) (hle : a + n ≤ 8 * os.length) :
    Calls Try.prog 32 #[.pointer (some ⟨p3, 0, none⟩), .pointer (some ⟨p10, 0, none⟩), .pointer (some ⟨pn, 0, none⟩), .pointer (some ⟨pg, 0, none⟩), .pointer (some ⟨p9, 0, none⟩)] w fun e w' => e = .returned (.tuple #[]) ∧
      BSt w0 lo1 hi1 X lo2 hi2 Y p3 p9 p10 os os' false (a + n) b w' ∧ w'.heap[pg]? = some (.cells #[.int .i64 (lowBits (leNum os) a n : Nat)] 3) ∧ Fr (fun k => k = X ∨ k = pg) w w' := by
  have k3 := cell_of (o := 0) h.c3 rfl
  have k9 := cell_of (o := 0) h.c9 rfl
  have kn := cell_of (o := 0) hn rfl
  have H := hide h
  have Hg := hide hg
  have o1 := h.ord
  have o2 := h.rx.ehi
  have o3 := h.ry.elo
  have o4 := h.ry.ehi
  clear h hg hn
  go_enter Try.func32, Try.ntmps32
  go_wp2_with (go_at_call 13; refine (low_take _ _ _ X os a n _ _ H.out.rx hn24 hle).mono ?_; rintro e w1 ⟨rfl, hr, hf⟩
               have hg1 := (hf.block pg (lt_of Hg.out) (by omega)).trans Hg.out
               have c1 := cell_of (o := 0) hg1 rfl
               have c2 := frozen_of (o := 0) hg1
               have Hg1 := hide hg1
               have Hr := hide hr
               have Hf := hide hf
               clear hr hf hg1)
  go_end0
  exact ⟨rfl, (H.out.low Hr.out Hf.out).far (Fr.of_setCell w1 ⟨pg, 0, none⟩ _) (fun k hk => by simp; omega), heap_setCell_one (u := .int .i64 0) _ Hg1.out, Hf.out.trans (Fr.of_setCell w1 ⟨pg, 0, none⟩ _)⟩

set_option maxHeartbeats 800000 in
theorem back1_high (w0 : World) (lo1 hi1 X lo2 hi2 Y p3 p9 p10 pn pg : Nat) (os os' : List Nat) (a b n : Nat) (w : World) (h : BSt w0 lo1 hi1 X lo2 hi2 Y p3 p9 p10 os os' true a b w)
    (hn : w.heap[pn]? = some (.cells #[.int .i64 n] 3)) (hg : w.heap[pg]? = some (.cells #[.int .i64 0] 3)) (hpg : p10 < pg) (hn24 : n ≤ 24) (hle : b + n ≤ 8 * os'.length) :
    Calls Try.prog 32 #[.pointer (some ⟨p3, 0, none⟩), .pointer (some ⟨p10, 0, none⟩), .pointer (some ⟨pn, 0, none⟩), .pointer (some ⟨pg, 0, none⟩), .pointer (some ⟨p9, 0, none⟩)] w fun e w' => e = .returned (.tuple #[]) ∧
      BSt w0 lo1 hi1 X lo2 hi2 Y p3 p9 p10 os os' true a (b + n) w' ∧ w'.heap[pg]? = some (.cells #[.int .i64 (lowBits (beNum os') (8 * os'.length - b - n) n : Nat)] 3) ∧ Fr (fun k => k = Y ∨ k = pg) w w' := by
  have k3 := cell_of (o := 0) h.c3 rfl
  have k10 := cell_of (o := 0) h.c10 rfl
  have kn := cell_of (o := 0) hn rfl
  have H := hide h
  have Hg := hide hg
  have o1 := h.ord
  have o2 := h.rx.ehi
  have o3 := h.ry.elo
  have o4 := h.ry.ehi
  clear h hg hn
  go_enter Try.func32, Try.ntmps32
  go_wp2_with (go_at_call 23; refine (high_take _ _ _ Y os' b n _ _ H.out.ry hn24 hle).mono ?_; rintro e w1 ⟨rfl, hr, hf⟩
               have hg1 := (hf.block pg (lt_of Hg.out) (by omega)).trans Hg.out
               have c1 := cell_of (o := 0) hg1 rfl
               have c2 := frozen_of (o := 0) hg1
               have Hg1 := hide hg1
               have Hr := hide hr
               have Hf := hide hf
               clear hr hf hg1)
  go_end0
  exact ⟨rfl, (H.out.high Hr.out Hf.out).far (Fr.of_setCell w1 ⟨pg, 0, none⟩ _) (fun k hk => by simp; omega), heap_setCell_one (u := .int .i64 0) _ Hg1.out, Hf.out.trans (Fr.of_setCell w1 ⟨pg, 0, none⟩ _)⟩

theorem cf32 (W : World) (a b c d e : Value) : (callFunc 32 #[a, b, c, d, e]).run Try.prog W = .ok (.enter 32 #[a, b, c, d, e]) W := by kernel_rfl

theorem back_guard_low (w0 : World) (lo1 hi1 X lo2 hi2 Y p3 p9 p10 pn pg : Nat) (os os' : List Nat) (a b n : Nat) (w : World) (h : BSt w0 lo1 hi1 X lo2 hi2 Y p3 p9 p10 os os' false a b w)
    (hn : w.heap[pn]? = some (.cells #[.int .i64 n] 3)) (hg : w.heap[pg]? = some (.cells #[.int .i64 0] 3)) (hpg : p10 < pg) (hn24 : n ≤ 24) (hle : a + n ≤ 8 * os.length) :
    Calls Try.prog 11 #[.func (.func 32) #[] #[.pointer (some ⟨p3, 0, none⟩), .pointer (some ⟨p10, 0, none⟩), .pointer (some ⟨pn, 0, none⟩), .pointer (some ⟨pg, 0, none⟩), .pointer (some ⟨p9, 0, none⟩)]] w fun e w' => e = .returned (.bool true) ∧
      BSt w0 lo1 hi1 X lo2 hi2 Y p3 p9 p10 os os' false (a + n) b w' ∧ w'.heap[pg]? = some (.cells #[.int .i64 (lowBits (leNum os) a n : Nat)] 3) := by
  have s1 := lt_of hg
  have s2 := lt_of hn
  have o1 := h.ord
  have o2 := h.rx.ehi
  have o3 := h.ry.elo
  have o4 := h.ry.ehi
  refine (guard_c 32 _ w (fun bb w' => bb = true ∧ BSt w0 lo1 hi1 X lo2 hi2 Y p3 p9 p10 os os' false (a + n) b w' ∧ w'.heap[pg]? = some (.cells #[.int .i64 (lowBits (leNum os) a n : Nat)] 3) ∧ Fr (fun k => k = X ∨ k = pg) (w.alloc (.cells #[.bool false] 4)) w') (fun W => cf32 W _ _ _ _ _) ?_ ?_).mono ?_
  · exact (back1_low w0 lo1 hi1 X lo2 hi2 Y p3 p9 p10 pn pg os os' a b n _ (h.far (Fr.of_alloc w _) (fun _ _ h => h)) ((Below.heap_alloc _ _ _ s2).trans hn) ((Below.heap_alloc _ _ _ s1).trans hg) hpg hn24 hle).mono fun e w' ⟨he, h1, h2, h3⟩ => Or.inl ⟨he, rfl, h1, h2, h3⟩
  · rintro bb w' ⟨_, _, _, f⟩
    rw [f.block _ (by simp) (by omega)]
    exact heap_alloc_new _ _
  · rintro e w' ⟨bb, w1, rfl, ⟨rfl, h1, h2, f⟩, rfl⟩
    refine ⟨rfl, h1.far (Fr.of_setCell _ _ _) (fun k hk => by simp; omega), ?_⟩
    rw [Below.heap_setCell _ _ _ _ (by simp; omega)]; exact h2

theorem back_guard_high (w0 : World) (lo1 hi1 X lo2 hi2 Y p3 p9 p10 pn pg : Nat) (os os' : List Nat) (a b n : Nat) (w : World) (h : BSt w0 lo1 hi1 X lo2 hi2 Y p3 p9 p10 os os' true a b w)
    (hn : w.heap[pn]? = some (.cells #[.int .i64 n] 3)) (hg : w.heap[pg]? = some (.cells #[.int .i64 0] 3)) (hpg : p10 < pg) (hn24 : n ≤ 24) (hle : b + n ≤ 8 * os'.length) :
    Calls Try.prog 11 #[.func (.func 32) #[] #[.pointer (some ⟨p3, 0, none⟩), .pointer (some ⟨p10, 0, none⟩), .pointer (some ⟨pn, 0, none⟩), .pointer (some ⟨pg, 0, none⟩), .pointer (some ⟨p9, 0, none⟩)]] w fun e w' => e = .returned (.bool true) ∧
      BSt w0 lo1 hi1 X lo2 hi2 Y p3 p9 p10 os os' true a (b + n) w' ∧ w'.heap[pg]? = some (.cells #[.int .i64 (lowBits (beNum os') (8 * os'.length - b - n) n : Nat)] 3) := by
  have s1 := lt_of hg
  have s2 := lt_of hn
  have o1 := h.ord
  have o2 := h.rx.ehi
  have o3 := h.ry.elo
  have o4 := h.ry.ehi
  refine (guard_c 32 _ w (fun bb w' => bb = true ∧ BSt w0 lo1 hi1 X lo2 hi2 Y p3 p9 p10 os os' true a (b + n) w' ∧ w'.heap[pg]? = some (.cells #[.int .i64 (lowBits (beNum os') (8 * os'.length - b - n) n : Nat)] 3) ∧ Fr (fun k => k = Y ∨ k = pg) (w.alloc (.cells #[.bool false] 4)) w') (fun W => cf32 W _ _ _ _ _) ?_ ?_).mono ?_
  · exact (back1_high w0 lo1 hi1 X lo2 hi2 Y p3 p9 p10 pn pg os os' a b n _ (h.far (Fr.of_alloc w _) (fun _ _ h => h)) ((Below.heap_alloc _ _ _ s2).trans hn) ((Below.heap_alloc _ _ _ s1).trans hg) hpg hn24 hle).mono fun e w' ⟨he, h1, h2, h3⟩ => Or.inl ⟨he, rfl, h1, h2, h3⟩
  · rintro bb w' ⟨_, _, _, f⟩
    rw [f.block _ (by simp) (by omega)]
    exact heap_alloc_new _ _
  · rintro e w' ⟨bb, w1, rfl, ⟨rfl, h1, h2, f⟩, rfl⟩
    refine ⟨rfl, h1.far (Fr.of_setCell _ _ _) (fun k hk => by simp; omega), ?_⟩
    rw [Below.heap_setCell _ _ _ _ (by simp; omega)]; exact h2

end Go.Proofs.Ytkmgpapopgeldaa
