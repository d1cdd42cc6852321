import Derived.Test.YtkmgpapopgeldaaE
import Derived.Deep.RegionHeld3
import Derived.Deep.DrawnRows
namespace Go.Proofs.Ytkmgpapopgeldaa
open Go.RowKit

theorem cell_of {w : World} {b o : Nat} {cs : Array Value} {T : TypeId} {v : Value} (h : w.heap[b]? = some (.cells cs T (0, 0))) (hv : cs[o]? = some v) : w.cell? ⟨b, o, none⟩ = some v := by
  simp [World.cell?, h, hv]
theorem frozen_of {w : World} {b o : Nat} {cs : Array Value} {T : TypeId} (h : w.heap[b]? = some (.cells cs T (0, 0))) : w.frozen? ⟨b, o, none⟩ = false := by
  simp [World.frozen?, h]
theorem lt_of {w : World} {b : Nat} {o : Obj} (h : w.heap[b]? = some o) : b < w.heap.size := by
  rcases Nat.lt_or_ge b w.heap.size with hlt | hge
  · exact hlt
  · rw [Array.getElem?_eq_none hge] at h; cases h

/-- What the closure of awake stands on: two variables that hold readers, four numbers. -/
structure AwSt (L H p0 p1 p2 p3 p4 p5 lo1 hi1 lo2 hi2 : Nat) (x y : Nat) (a b c d : Int) (w : World) : Prop where
  r1 : Rd 56 w lo1 hi1 L [53] x (.slice none 0 0) 0
  r2 : Rd 63 w lo2 hi2 H [53] y (.slice none 0 0) 0
  c0 : w.heap[p0]? = some (.cells #[.pointer (some ⟨L, 0, none⟩)] 25)
  c1 : w.heap[p1]? = some (.cells #[.pointer (some ⟨H, 0, none⟩)] 40)
  c2 : w.heap[p2]? = some (.cells #[.int .i64 a] 3)
  c3 : w.heap[p3]? = some (.cells #[.int .i64 b] 3)
  c4 : w.heap[p4]? = some (.cells #[.int .i64 c] 3)
  c5 : w.heap[p5]? = some (.cells #[.int .i64 d] 3)
  dd : ((((hi1 ≤ lo2 ∧ hi2 ≤ p0) ∧ p0 < p1) ∧ p1 < p2) ∧ p2 < p3) ∧ p3 < p4 ∧ p4 < p5

section
variable {L H p0 p1 p2 p3 p4 p5 lo1 hi1 lo2 hi2 x y : Nat} {a b c d : Int} {w w' : World}
theorem AwSt.low (h : AwSt L H p0 p1 p2 p3 p4 p5 lo1 hi1 lo2 hi2 x y a b c d w) {x' : Nat} (r : Rd 56 w' lo1 hi1 L [53] x' (.slice none 0 0) 0) (f : Fr (fun k => k = L) w w') : AwSt L H p0 p1 p2 p3 p4 p5 lo1 hi1 lo2 hi2 x' y a b c d w' := by
  have a1 := h.r1.elo
  have a2 := h.r1.ehi
  have a3 := h.r2.elo
  have a4 := h.r2.ehi
  have a5 := h.dd
  refine ⟨r, h.r2.keep f (fun k hk _ => by omega), ?_, ?_, ?_, ?_, ?_, ?_, h.dd⟩
  · rw [f.block _ (lt_of h.c0) (by omega)]; exact h.c0
  · rw [f.block _ (lt_of h.c1) (by omega)]; exact h.c1
  · rw [f.block _ (lt_of h.c2) (by omega)]; exact h.c2
  · rw [f.block _ (lt_of h.c3) (by omega)]; exact h.c3
  · rw [f.block _ (lt_of h.c4) (by omega)]; exact h.c4
  · rw [f.block _ (lt_of h.c5) (by omega)]; exact h.c5
theorem AwSt.high (h : AwSt L H p0 p1 p2 p3 p4 p5 lo1 hi1 lo2 hi2 x y a b c d w) {y' : Nat} (r : Rd 63 w' lo2 hi2 H [53] y' (.slice none 0 0) 0) (f : Fr (fun k => k = H) w w') : AwSt L H p0 p1 p2 p3 p4 p5 lo1 hi1 lo2 hi2 x y' a b c d w' := by
  have a1 := h.r1.elo
  have a2 := h.r1.ehi
  have a3 := h.r2.elo
  have a4 := h.r2.ehi
  have a5 := h.dd
  refine ⟨h.r1.keep f (fun k _ hk => by omega), r, ?_, ?_, ?_, ?_, ?_, ?_, h.dd⟩
  · rw [f.block _ (lt_of h.c0) (by omega)]; exact h.c0
  · rw [f.block _ (lt_of h.c1) (by omega)]; exact h.c1
  · rw [f.block _ (lt_of h.c2) (by omega)]; exact h.c2
  · rw [f.block _ (lt_of h.c3) (by omega)]; exact h.c3
  · rw [f.block _ (lt_of h.c4) (by omega)]; exact h.c4
  · rw [f.block _ (lt_of h.c5) (by omega)]; exact h.c5
theorem AwSt.step1 (h : AwSt L H p0 p1 p2 p3 p4 p5 lo1 hi1 lo2 hi2 0 0 0 0 0 0 w) :
    Calls Try.prog 13 #[.pointer (some ⟨L, 0, none⟩), .int .i64 3] w fun e w' => e = .returned (.int .i64 5) ∧ AwSt L H p0 p1 p2 p3 p4 p5 lo1 hi1 lo2 hi2 3 0 0 0 0 0 w' ∧ Fr (fun k => k = L ∨ k = H) w w' :=
  (low_take w lo1 hi1 L [53] 0 3 _ _ h.r1 (by decide) (by decide)).mono fun e w' ⟨he, r, f⟩ => ⟨he, h.low r f, f.mono fun k _ hk => Or.inl hk⟩
theorem AwSt.step2 (h : AwSt L H p0 p1 p2 p3 p4 p5 lo1 hi1 lo2 hi2 3 0 0 0 0 0 w) :
    Calls Try.prog 13 #[.pointer (some ⟨L, 0, none⟩), .int .i64 5] w fun e w' => e = .returned (.int .i64 6) ∧ AwSt L H p0 p1 p2 p3 p4 p5 lo1 hi1 lo2 hi2 8 0 0 0 0 0 w' ∧ Fr (fun k => k = L ∨ k = H) w w' :=
  (low_take w lo1 hi1 L [53] 3 5 _ _ h.r1 (by decide) (by decide)).mono fun e w' ⟨he, r, f⟩ => ⟨he, h.low r f, f.mono fun k _ hk => Or.inl hk⟩
theorem AwSt.step3 (h : AwSt L H p0 p1 p2 p3 p4 p5 lo1 hi1 lo2 hi2 8 0 0 0 0 0 w) :
    Calls Try.prog 23 #[.pointer (some ⟨H, 0, none⟩), .int .i64 3] w fun e w' => e = .returned (.int .i64 1) ∧ AwSt L H p0 p1 p2 p3 p4 p5 lo1 hi1 lo2 hi2 8 3 0 0 0 0 w' ∧ Fr (fun k => k = L ∨ k = H) w w' :=
  (high_take w lo2 hi2 H [53] 0 3 _ _ h.r2 (by decide) (by decide)).mono fun e w' ⟨he, r, f⟩ => ⟨he, h.high r f, f.mono fun k _ hk => Or.inr hk⟩
theorem AwSt.step4 (h : AwSt L H p0 p1 p2 p3 p4 p5 lo1 hi1 lo2 hi2 8 3 0 0 0 0 w) :
    Calls Try.prog 23 #[.pointer (some ⟨H, 0, none⟩), .int .i64 5] w fun e w' => e = .returned (.int .i64 21) ∧ AwSt L H p0 p1 p2 p3 p4 p5 lo1 hi1 lo2 hi2 8 8 0 0 0 0 w' ∧ Fr (fun k => k = L ∨ k = H) w w' :=
  (high_take w lo2 hi2 H [53] 3 5 _ _ h.r2 (by decide) (by decide)).mono fun e w' ⟨he, r, f⟩ => ⟨he, h.high r f, f.mono fun k _ hk => Or.inr hk⟩
theorem heap_setCell_own {w : World} {b o : Nat} {cs : Array Value} {T : TypeId} {fz : Nat × Nat} (v : Value) (h : w.heap[b]? = some (.cells cs T fz)) : (w.setCell ⟨b, o, none⟩ v).heap[b]? = some (.cells (cs.setIfInBounds o v) T fz) := by
  show (w.heap.modify b _)[b]? = _
  simp [Array.getElem?_modify, h]
theorem heap_setCell_one {w : World} {b : Nat} {u : Value} {T : TypeId} {fz : Nat × Nat} (v : Value) (h : w.heap[b]? = some (.cells #[u] T fz)) : (w.setCell ⟨b, 0, none⟩ v).heap[b]? = some (.cells #[v] T fz) := heap_setCell_own v h
theorem Fr.join {S : Nat → Prop} {a b c : World} (h : Fr S a b) (k : Fr S b c) : Fr S a c := (h.trans k).mono fun _ _ h => h.elim id id
theorem AwSt.far (h : AwSt L H p0 p1 p2 p3 p4 p5 lo1 hi1 lo2 hi2 x y a b c d w) {S : Nat → Prop} (f : Fr S w w') (hS : ∀ k, k ≤ p5 → ¬ S k) : AwSt L H p0 p1 p2 p3 p4 p5 lo1 hi1 lo2 hi2 x y a b c d w' := by
  have a1 := h.r1.elo
  have a2 := h.r1.ehi
  have a3 := h.r2.elo
  have a4 := h.r2.ehi
  have a5 := h.dd
  refine ⟨h.r1.keep f (fun k _ _ => hS k (by omega)), h.r2.keep f (fun k _ _ => hS k (by omega)), ?_, ?_, ?_, ?_, ?_, ?_, h.dd⟩
  · rw [f.block _ (lt_of h.c0) (hS _ (by omega))]; exact h.c0
  · rw [f.block _ (lt_of h.c1) (hS _ (by omega))]; exact h.c1
  · rw [f.block _ (lt_of h.c2) (hS _ (by omega))]; exact h.c2
  · rw [f.block _ (lt_of h.c3) (hS _ (by omega))]; exact h.c3
  · rw [f.block _ (lt_of h.c4) (hS _ (by omega))]; exact h.c4
  · rw [f.block _ (lt_of h.c5) (hS _ (by omega))]; exact h.c5
theorem AwSt.stored (h : AwSt L H p0 p1 p2 p3 p4 p5 lo1 hi1 lo2 hi2 x y a b c d w) (a' b' c' d' : Int) :
    AwSt L H p0 p1 p2 p3 p4 p5 lo1 hi1 lo2 hi2 x y a' b' c' d' ((((w.setCell ⟨p2, 0, none⟩ (.int .i64 a')).setCell ⟨p3, 0, none⟩ (.int .i64 b')).setCell ⟨p4, 0, none⟩ (.int .i64 c')).setCell ⟨p5, 0, none⟩ (.int .i64 d')) := by
  have a1 := h.r1.elo
  have a2 := h.r1.ehi
  have a3 := h.r2.elo
  have a4 := h.r2.ehi
  have a5 := h.dd
  have f2 := Fr.of_setCell w ⟨p2, 0, none⟩ (.int .i64 a')
  have f3 := Fr.of_setCell (w.setCell ⟨p2, 0, none⟩ (.int .i64 a')) ⟨p3, 0, none⟩ (.int .i64 b')
  have f4 := Fr.of_setCell ((w.setCell ⟨p2, 0, none⟩ (.int .i64 a')).setCell ⟨p3, 0, none⟩ (.int .i64 b')) ⟨p4, 0, none⟩ (.int .i64 c')
  have f5 := Fr.of_setCell (((w.setCell ⟨p2, 0, none⟩ (.int .i64 a')).setCell ⟨p3, 0, none⟩ (.int .i64 b')).setCell ⟨p4, 0, none⟩ (.int .i64 c')) ⟨p5, 0, none⟩ (.int .i64 d')
  have f := ((f2.trans f3).trans f4).trans f5
  refine ⟨h.r1.keep f (fun k _ _ => by simp; omega), h.r2.keep f (fun k _ _ => by simp; omega), ?_, ?_, ?_, ?_, ?_, ?_, h.dd⟩
  · rw [f.block _ (lt_of h.c0) (by simp; omega)]; exact h.c0
  · rw [f.block _ (lt_of h.c1) (by simp; omega)]; exact h.c1
  · rw [Below.heap_setCell _ _ _ _ (by simp; omega), Below.heap_setCell _ _ _ _ (by simp; omega), Below.heap_setCell _ _ _ _ (by simp; omega)]
    exact heap_setCell_own _ h.c2
  · rw [Below.heap_setCell _ _ _ _ (by simp; omega), Below.heap_setCell _ _ _ _ (by simp; omega)]
    refine heap_setCell_one (u := .int .i64 b) _ ?_
    rw [Below.heap_setCell _ _ _ _ (by simp; omega)]; exact h.c3
  · rw [Below.heap_setCell _ _ _ _ (by simp; omega)]
    refine heap_setCell_one (u := .int .i64 c) _ ?_
    rw [Below.heap_setCell _ _ _ _ (by simp; omega), Below.heap_setCell _ _ _ _ (by simp; omega)]; exact h.c4
  · refine heap_setCell_one (u := .int .i64 d) _ ?_
    rw [Below.heap_setCell _ _ _ _ (by simp; omega), Below.heap_setCell _ _ _ _ (by simp; omega), Below.heap_setCell _ _ _ _ (by simp; omega)]; exact h.c5
theorem AwSt.drew (h : AwSt L H p0 p1 p2 p3 p4 p5 lo1 hi1 lo2 hi2 x y a b c d w) : AwSt L H p0 p1 p2 p3 p4 p5 lo1 hi1 lo2 hi2 x y a b c d w.drew := by
  have f : Fr (fun _ => False) w w.drew := Fr.of_drewN w 1
  exact ⟨h.r1.keep f (fun _ _ _ h => h), h.r2.keep f (fun _ _ _ h => h), h.c0, h.c1, h.c2, h.c3, h.c4, h.c5, h.dd⟩
end

set_option maxHeartbeats 1600000 in
set_option maxRecDepth 100000 in
theorem awake1_c (L H p0 p1 p2 p3 p4 p5 lo1 hi1 lo2 hi2 : Nat) (w : World) (h : AwSt L H p0 p1 p2 p3 p4 p5 lo1 hi1 lo2 hi2 0 0 0 0 0 0 w) :
    Calls Try.prog 39 #[.pointer (some ⟨p0, 0, none⟩), .pointer (some ⟨p1, 0, none⟩), .pointer (some ⟨p2, 0, none⟩), .pointer (some ⟨p3, 0, none⟩), .pointer (some ⟨p4, 0, none⟩), .pointer (some ⟨p5, 0, none⟩)] w
      fun e w' => e = .returned (.tuple #[]) ∧ AwSt L H p0 p1 p2 p3 p4 p5 lo1 hi1 lo2 hi2 8 8 5 6 1 21 w' ∧ Fr (fun k => lo1 ≤ k ∧ k ≤ p5) w w' := by
  have hl1 := h.r1.elo
  have hl2 := h.r1.ehi
  have hl3 := h.r2.elo
  have hl4 := h.r2.ehi
  have Hd := hide h.dd
  have k0 := cell_of (o := 0) h.c0 rfl
  have k1 := cell_of (o := 0) h.c1 rfl
  have h0 := hide h.drew
  have hd := h.dd
  have n20 : ¬ p2 = p0 := by omega
  have n21 : ¬ p2 = p1 := by omega
  have n30 : ¬ p3 = p0 := by omega
  have n31 : ¬ p3 = p1 := by omega
  have n40 : ¬ p4 = p0 := by omega
  have n41 : ¬ p4 = p1 := by omega
  have n50 : ¬ p5 = p0 := by omega
  have n51 : ¬ p5 = p1 := by omega
  have n23 : ¬ p2 = p3 := by omega
  have n24 : ¬ p2 = p4 := by omega
  have n25 : ¬ p2 = p5 := by omega
  have n34 : ¬ p3 = p4 := by omega
  have n35 : ¬ p3 = p5 := by omega
  have n45 : ¬ p4 = p5 := by omega
  clear h hd
  go_enter Try.func39, Try.ntmps39
  go_region_held3 (fun w' => w'.cell? ⟨p0, 0, none⟩ = some (.pointer (some ⟨L, 0, none⟩)) ∧ w'.cell? ⟨p1, 0, none⟩ = some (.pointer (some ⟨H, 0, none⟩))) (go_keep)
    (first
      | (go_at_call_of 13 (Value.int IntKind.i64 3); refine (AwSt.step1 h0.out).mono ?_; rintro e w1 ⟨rfl, ha1, hf1⟩; have k0 := cell_of (o := 0) ha1.c0 rfl; have k1 := cell_of (o := 0) ha1.c1 rfl)
      | (go_at_call_of 13 (Value.int IntKind.i64 5); refine (AwSt.step2 ha1).mono ?_; rintro e w2 ⟨rfl, ha2, hf2⟩; have k0 := cell_of (o := 0) ha2.c0 rfl; have k1 := cell_of (o := 0) ha2.c1 rfl)
      | (go_at_call_of 23 (Value.int IntKind.i64 3); refine (AwSt.step3 ha2).mono ?_; rintro e w3 ⟨rfl, ha3, hf3⟩; have k0 := cell_of (o := 0) ha3.c0 rfl; have k1 := cell_of (o := 0) ha3.c1 rfl)
      | (go_at_call_of 23 (Value.int IntKind.i64 5); refine (AwSt.step4 ha3).mono ?_; rintro e w4 ⟨rfl, ha4, hf4⟩; have k0 := cell_of (o := 0) ha4.c0 rfl; have k1 := cell_of (o := 0) ha4.c1 rfl; have k2 := cell_of (o := 0) ha4.c2 rfl; have k3 := cell_of (o := 0) ha4.c3 rfl; have k4 := cell_of (o := 0) ha4.c4 rfl; have k5 := cell_of (o := 0) ha4.c5 rfl; have z2 := frozen_of (o := 0) ha4.c2; have z3 := frozen_of (o := 0) ha4.c3; have z4 := frozen_of (o := 0) ha4.c4; have z5 := frozen_of (o := 0) ha4.c5))
  go_end0
  refine ⟨rfl, ha4.stored 5 6 1 21, ?_⟩
  have f0 : Fr (fun _ => False) w w.drew := Fr.of_drewN w 1
  have f := ((((((((f0.trans hf1).trans hf2).trans hf3).trans hf4).trans (Fr.of_setCell w4 ⟨p2, 0, none⟩ (.int .i64 5))).trans (Fr.of_setCell _ ⟨p3, 0, none⟩ (.int .i64 6))).trans (Fr.of_setCell _ ⟨p4, 0, none⟩ (.int .i64 1))).trans (Fr.of_setCell _ ⟨p5, 0, none⟩ (.int .i64 21)))
  have hd := Hd.out
  exact f.mono fun k _ hk => by simp at hk; omega
end Go.Proofs.Ytkmgpapopgeldaa
