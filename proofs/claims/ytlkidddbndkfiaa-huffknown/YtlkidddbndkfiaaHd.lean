/-
  The document's example: awake.
-/
import Derived.Test.YtlkidddbndkfiaaHc
namespace Go.Proofs.Ytlkidddbndkfiaa
open Go.RowKit

theorem new_ok (a : Option Addr) (c : Nat) (ls : List Int) (w : World) (hl : LiesI w a ls) (hg : good ls) (hok : codeOk ls) :
    Calls Try.prog 10 #[.slice a ls.length c] w fun e w' => ∃ B, e = .returned (.tuple #[.pointer (some ⟨B, 0, none⟩), .int .i64 0]) ∧ Cd w' w.heap.size w'.heap.size B ls ∧ Fr (fun _ => False) w w' :=
  new_sizes a c ls w hl hg _ (fun h => absurd hok h) (fun _ _ B hC hF => ⟨B, rfl, hC, hF⟩)
theorem new_form (a : Option Addr) (c : Nat) (ls : List Int) (w : World) (hl : LiesI w a ls) (hg : good ls) (hok : ¬ codeOk ls) :
    Calls Try.prog 10 #[.slice a ls.length c] w fun e w' => e = .returned (.tuple #[.pointer none, .int .i64 4]) ∧ Fr (fun _ => False) w w' :=
  new_sizes a c ls w hl hg _ (fun _ _ hF => ⟨rfl, hF⟩) (fun h => absurd h hok)

/-- The cells of ints. -/
def cellsZ (zs : List Int) : List Value := zs.map fun z => .int .i64 z
theorem lies_litI (w : World) (zs : List Int) : LiesI (w.alloc (.cells (cellsZ zs).toArray 3)) (some ⟨w.heap.size, 0, none⟩) zs := by
  intro j hj
  refine ⟨_, rfl, ?_⟩
  rw [add_none]
  refine cell_of (heap_alloc_new _ _) ?_
  simp [cellsZ, at0, List.getElem?_eq_getElem hj]

theorem good_ex : good [2, 1, 3, 3] := ⟨by decide, fun i hi => by
  simp at hi
  rcases (by omega : i = 0 ∨ i = 1 ∨ i = 2 ∨ i = 3) with rfl | rfl | rfl | rfl <;> decide⟩
theorem good_ones : good [1, 1, 1] := ⟨by decide, fun i hi => by
  simp at hi
  rcases (by omega : i = 0 ∨ i = 1 ∨ i = 2) with rfl | rfl | rfl <;> decide⟩

set_option maxHeartbeats 800000 in
set_option maxRecDepth 100000 in
theorem awake_c (w : World) : Calls Try.prog 9 #[] w fun e w' => e = .returned (.bool true) ∧ Fr (fun _ => False) w w' := by
  go_enter Try.func9, Try.ntmps9
  go_wp2_with fail
  refine (new_ok _ 4 [2, 1, 3, 3] _ (lies_litI w [2, 1, 3, 3]) good_ex (Or.inl (by decide))).mono ?_
  rintro e w1 ⟨B, rfl, hC, hF⟩
  have HC := hide hC
  have HF := hide hF
  clear hC hF
  go_wp2_with fail
  refine (word_in _ _ B 3 [2, 1, 3, 3] _ HC.out (by decide)).mono ?_
  rintro e w2 ⟨rfl, hF2⟩
  have HF2 := hide hF2
  clear hF2
  rw [show (if 0 < at0 [2, 1, 3, 3] 3 then ((wd [2, 1, 3, 3] 3 : Nat) : Int) else 0) = 7 by decide, show at0 [2, 1, 3, 3] 3 = 3 by decide]
  go_wp2_with fail
  refine (new_form _ 3 [1, 1, 1] _ (lies_litI w2 [1, 1, 1]) good_ones (by unfold codeOk; decide)).mono ?_
  rintro e w3 ⟨rfl, hF3⟩
  go_wp2
  go_ret
  exact ⟨rfl, ((((Fr.of_alloc w _).join HF.out).join HF2.out).join (Fr.of_alloc w2 _)).join hF3⟩
end Go.Proofs.Ytlkidddbndkfiaa
