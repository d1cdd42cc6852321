/-
  raster: keys.
-/
import Derived.Test.YthdilabmajaehaaRh
namespace Go.Proofs.Ythdilabmajaehaa
open Go.RowKit

theorem Try.info65 : (Try.prog.info? 65).map (fun i => (i.zero, i.size, i.bytes)) = some (some (.int .u64 0), 1, 8) := by kernel_rfl

theorem makeQ (n : Nat) (hn : n ≤ 5000000) : ∀ W : World, (Instr.makeSlice 62 (.int .i64 (n : Int)) (.int .i64 (n : Int))).run Try.prog W = .ok (.slice (some ⟨W.heap.size, 0, none⟩) n n) (W.alloc (.cells (cellsQ (List.replicate n 0)).toArray 65)) := by
  obtain ⟨i0, hi, hz0, hz1, hz2⟩ := info_parts Try.info65
  intro W
  have := run_make (P := Try.prog) W 62 65 i0 (.int .u64 0) Try.underlying62 hi hz0 .i64 .i64 n n (by omega) (Int.le_refl _) (by rw [hz2]; omega) (by omega)
  rw [hz1] at this
  have e : madeCells (Value.int .u64 0).cells (n * 1) = (cellsQ (List.replicate n 0)).toArray := by
    apply Array.ext'
    rw [Nat.mul_one]
    show (madeCells #[.int .u64 0] n).toList = _
    rw [toList_madeCells_one]
    simp [cellsQ]
  rw [← e]
  simpa using this
end Go.Proofs.Ythdilabmajaehaa
