/-
  raster: slices.Compact at uint64.
-/
import Derived.Test.YthdilabmajaehaaRj
import Derived.Shelf.SlicesE.Compact
import Derived.Ground.SlgnProg
namespace Go.Proofs
open Go.Shelf

shelf_lay_g SlLaysE.n43 Slgn 43 at Try 37 as Try.compactL
end Go.Proofs
namespace Go.Proofs.Ythdilabmajaehaa
open Go.RowKit

theorem zero65 (w : World) : (zeroValue 65).run Try.prog w = .ok (.int .u64 0) w := by kernel_rfl

theorem compact_c (g : Nat) (l : List Int) (w : World) (hg : w.heap[g]? = some (.cells (cellsQ l).toArray 65 (0, 0))) (hl : l.length ≤ 1000000) :
    Calls Try.prog 37 #[.slice (some ⟨g, 0, none⟩) l.length l.length] w fun e w' => e = .returned (.slice (some ⟨g, 0, none⟩) (Go.Lib.compactUpTo l.toArray l.length).length l.length) ∧ Fr (fun j => j = g) w w' := by
  have hH : Sort.Holds (Value.int .u64) w g 0 l.toArray := fun j hj => by
    have hj' : j < l.length := by simpa using hj
    refine ⟨?_, frozen_of hg⟩
    rw [Nat.zero_add]
    refine cell_of hg ?_
    simp [cellsQ, hj']
  have h := Go.Proofs.AnyE.slices_Compact Try.compactL (Value.int .u64) (fun _ => rfl) (EqlAt.intD _ _ .u64) (NeqAt.intD _ _ .u64) 0 zero65 g 0 l.length l.toArray w hH (by simp; omega) (by simp)
  have h3 : Calls Try.prog 37 #[.slice (some ⟨g, 0, none⟩) l.length l.length] w (fun e w' => e = .returned (.slice (some ⟨g, 0, none⟩) (Go.Lib.compactUpTo l.toArray l.length).length l.length) ∧ ∃ q, w' = Sort.putRow (Value.int .u64) (Sort.ahead w q) g 0 (Go.Lib.compactUpTo l.toArray l.length ++ List.replicate (l.length - (Go.Lib.compactUpTo l.toArray l.length).length) 0).toArray) := h
  refine h3.mono ?_
  rintro e w' ⟨rfl, q, rfl⟩
  exact ⟨rfl, rfl, rfl, rfl, by simp [Sort.putRow, Sort.mapBlock, Sort.ahead], fun k hk hne => by simp [Sort.putRow, Sort.mapBlock, Sort.ahead, Array.getElem?_modify, Ne.symm hne]⟩
end Go.Proofs.Ythdilabmajaehaa
