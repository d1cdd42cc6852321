/-
  huff.New, told.
-/
import Derived.Test.YtleeaofofofgmaaDoorHc
namespace Go.Proofs.YtleeaofofofgmaaDoor
open Go.RowKit

theorem new_ok (a : Option Addr) (c : Nat) (ls : List Int) (w : World) (hl : LiesI w a ls) (hg : good ls) (hok : codeOk ls) :
    Calls Tryd.prog 69 #[.slice a ls.length c] w fun e w' => ∃ B, e = .returned (.tuple #[.pointer (some ⟨B, 0, none⟩), .int .i64 0]) ∧ Cd w' w.heap.size w'.heap.size B ls ∧ Fr (fun _ => False) w w' :=
  new_sizes a c ls w hl hg _ (fun h => absurd hok h) (fun _ _ B hC hF => ⟨B, rfl, hC, hF⟩)

theorem new_form (a : Option Addr) (c : Nat) (ls : List Int) (w : World) (hl : LiesI w a ls) (hg : good ls) (hok : ¬ codeOk ls) :
    Calls Tryd.prog 69 #[.slice a ls.length c] w fun e w' => e = .returned (.tuple #[.pointer none, .int .i64 4]) ∧ Fr (fun _ => False) w w' :=
  new_sizes a c ls w hl hg _ (fun _ _ hF => ⟨rfl, hF⟩) (fun h => absurd h hok)

/-- The cells of ints. -/
def cellsZ (zs : List Int) : List Value := zs.map fun z => .int .i64 z

theorem lies_litI (w : World) (zs : List Int) : LiesI (w.alloc (.cells (cellsZ zs).toArray 3)) (some ⟨w.heap.size, 0, none⟩) zs := by
  intro j hj
  refine ⟨_, rfl, ?_⟩
  rw [add_none]
  refine cell_of (heap_alloc_new _ _) ?_
  simp [cellsZ, at0, List.getElem?_eq_getElem hj]
end Go.Proofs.YtleeaofofofgmaaDoor
