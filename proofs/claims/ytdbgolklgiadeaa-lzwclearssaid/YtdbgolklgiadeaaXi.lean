/-
  lzw: a Clear; a row is made.
-/
import Derived.Test.YtdbgolklgiadeaaXh
namespace Go.Proofs.Ytdbgolklgiadeaa
open Go.RowKit

/-- Cells behind a Clear. -/
abbrev cleared (cs : Array Value) (k : Nat) (ra : Option Addr) (rc : Nat) : Array Value := (((((cs.setIfInBounds 3 (.int .i64 ((2 ^ k : Nat) : Int))).setIfInBounds 4 (.int .i64 ((nextN k 0 : Nat) : Int))).setIfInBounds 5 (.int .i64 ((wid k 0 : Nat) : Int))).setIfInBounds 6 (.slice ra 0 rc)).setIfInBounds 7 (.int .i64 0)).setIfInBounds 8 (.int .i64 0)

set_option maxHeartbeats 1600000 in
set_option maxRecDepth 100000 in
theorem restart_c (M k : Nat) (cs : Array Value) (ra : Option Addr) (rn rc : Nat) (w : World) (hk : 2 ≤ k ∧ k ≤ 8) (h : w.heap[M]? = some (.cells cs 71 (0, 0))) (hs : cs.size = 14) (h1 : cs[1]? = some (.int .i64 (k : Int))) (h6 : cs[6]? = some (.slice ra rn rc)) (hr : ra = none → rn = 0 ∧ rc = 0) :
    Calls Try.prog 53 #[.pointer (some ⟨M, 0, none⟩)] w fun e w' => e = .returned (.tuple #[]) ∧ w'.heap[M]? = some (.cells (cleared cs k ra rc) 71 (0, 0)) ∧ Fr (fun j => j = M) w w' := by
  have m1 := cell_of h h1
  have H := hide h
  have Hs := hide hs
  have H6 := hide h6
  have Hr := hide hr
  clear h hs h1 h6 hr
  obtain ⟨A, hA⟩ : ∃ A, A = 2 ^ k := ⟨_, rfl⟩
  obtain ⟨B, hB⟩ : ∃ B, B = nextN k 0 := ⟨_, rfl⟩
  obtain ⟨C, hC⟩ : ∃ C, C = wid k 0 := ⟨_, rfl⟩
  have Hn := hide (newNumbers_c k hk w)
  unfold numC at Hn
  rw [← hA, ← hB, ← hC] at Hn
  unfold cleared
  rw [← hA, ← hB, ← hC]
  clear hA hB hC
  go_enter Try.func53, Try.ntmps53
  go_wp2_with fail
  refine Hn.out.mono ?_
  rintro e w1 ⟨rfl, hF1⟩
  have hb1 : w1.heap[M]? = some (.cells cs 71 (0, 0)) := cells_at H.out hF1 (fun e => e)
  have hcs : ∀ i, i < 14 → ∃ v, cs[i]? = some v := fun i hi => ⟨_, Array.getElem?_eq_getElem (by rw [Hs.out]; exact hi)⟩
  obtain ⟨v3, e3⟩ := hcs 3 (by omega)
  obtain ⟨v4, e4⟩ := hcs 4 (by omega)
  obtain ⟨v5, e5⟩ := hcs 5 (by omega)
  obtain ⟨v7, e7⟩ := hcs 7 (by omega)
  obtain ⟨v8, e8⟩ := hcs 8 (by omega)
  have c3 := cell_of hb1 e3
  have c4 := cell_of hb1 e4
  have c5 := cell_of hb1 e5
  have c6 := cell_of hb1 H6.out
  have c7 := cell_of hb1 e7
  have c8 := cell_of hb1 e8
  have f3 := frozen_of (o := 3) hb1
  have f4 := frozen_of (o := 4) hb1
  have f5 := frozen_of (o := 5) hb1
  have f6 := frozen_of (o := 6) hb1
  have f7 := frozen_of (o := 7) hb1
  have f8 := frozen_of (o := 8) hb1
  have HF1 := hide hF1
  have Hb1 := hide hb1
  clear hF1 hb1 hcs e3 e4 e5 e7 e8 m1
  cases ra with
  | none =>
    obtain ⟨rfl, rfl⟩ := Hr.out rfl
    go_wp2_with fail
    go_end0
    exact ⟨rfl, heap_setCell_own _ (heap_setCell_own _ (heap_setCell_own _ (heap_setCell_own _ (heap_setCell_own _ (heap_setCell_own _ Hb1.out))))), ((((((HF1.out.mono fun _ _ h => h.elim).join (Fr.of_setCell _ ⟨M, 3, none⟩ _)).join (Fr.of_setCell _ ⟨M, 4, none⟩ _)).join (Fr.of_setCell _ ⟨M, 5, none⟩ _)).join (Fr.of_setCell _ ⟨M, 6, none⟩ _)).join (Fr.of_setCell _ ⟨M, 7, none⟩ _)).join (Fr.of_setCell _ ⟨M, 8, none⟩ _)⟩
  | some ad =>
    go_wp2_with fail
    go_end0
    exact ⟨rfl, heap_setCell_own _ (heap_setCell_own _ (heap_setCell_own _ (heap_setCell_own _ (heap_setCell_own _ (heap_setCell_own _ Hb1.out))))), ((((((HF1.out.mono fun _ _ h => h.elim).join (Fr.of_setCell _ ⟨M, 3, none⟩ _)).join (Fr.of_setCell _ ⟨M, 4, none⟩ _)).join (Fr.of_setCell _ ⟨M, 5, none⟩ _)).join (Fr.of_setCell _ ⟨M, 6, none⟩ _)).join (Fr.of_setCell _ ⟨M, 7, none⟩ _)).join (Fr.of_setCell _ ⟨M, 8, none⟩ _)⟩
end Go.Proofs.Ytdbgolklgiadeaa
