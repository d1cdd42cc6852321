/-
  raster: comparing pixels; what At and Set of both do, in one form.
-/
import Derived.Test.YthdilabmajaehaaSf
import Derived.DeepKeys
namespace Go.Proofs.Ythdilabmajaehaa
open Go.RowKit

theorem wf16 (n : Nat) (h : n < 65536) : (Lit.int .u16 (n : Int)).wf = true := by
  simp [Lit.wf, IntKind.min, IntKind.max, IntKind.signed, IntKind.bits]
  omega

set_option maxRecDepth 100000 in
theorem lits_four (r0 r1 r2 r3 : Nat) (h0 : r0 < 65536) (h1 : r1 < 65536) (h2 : r2 < 65536) (h3 : r3 < 65536) : Try.prog.keyLits 2 36 [.int .u16 (r0 : Int), .int .u16 (r1 : Int), .int .u16 (r2 : Int), .int .u16 (r3 : Int)] = some [.int .u16 (r0 : Int), .int .u16 (r1 : Int), .int .u16 (r2 : Int), .int .u16 (r3 : Int)] := by
  have u27 := Try.underlying36
  have u26 := Try.underlying29
  have c27 : Try.prog.cellsOf 36 = 4 := by kernel_rfl
  have c26 : Try.prog.cellsOf 29 = 1 := by kernel_rfl
  have one : ∀ n : Nat, n < 65536 → Try.prog.keyLits 1 29 [.int .u16 (n : Int)] = some [.int .u16 (n : Int)] := fun n hn => by
    unfold Program.keyLits
    rw [u26]
    simp [wf16 n hn]
  unfold Program.keyLits
  rw [u27]
  simp [c27, c26, List.range, List.range.loop, one r0 h0, one r1 h1, one r2 h2, one r3 h3]

set_option maxRecDepth 100000 in
theorem eq_four (r0 r1 r2 r3 s0 s1 s2 s3 : Nat) (hr : ∀ x ∈ [r0, r1, r2, r3], x < 65536) (hs : ∀ x ∈ [s0, s1, s2, s3], x < 65536) (w : World) : (Op.equalIn 10000 36 (.agg (pxV r0 r1 r2 r3)) (.agg (pxV s0 s1 s2 s3))).run Try.prog w = .ok (decide ([r0, r1, r2, r3] = [s0, s1, s2, s3])) w := by
  obtain ⟨r, h1, h2⟩ := run_equalIn_deep (P := Try.prog) 9998 2 36 (by kernel_rfl) w 2 2 (.agg (pxV r0 r1 r2 r3)) (.agg (pxV s0 s1 s2 s3)) [.int .u16 (r0 : Int), .int .u16 (r1 : Int), .int .u16 (r2 : Int), .int .u16 (r3 : Int)] [.int .u16 (s0 : Int), .int .u16 (s1 : Int), .int .u16 (s2 : Int), .int .u16 (s3 : Int)] (by kernel_rfl) (by kernel_rfl) (lits_four _ _ _ _ (hr _ (by simp)) (hr _ (by simp)) (hr _ (by simp)) (hr _ (by simp))) (lits_four _ _ _ _ (hs _ (by simp)) (hs _ (by simp)) (hs _ (by simp)) (hs _ (by simp)))
  refine h1.trans ?_
  congr 1
  rw [Bool.eq_iff_iff, h2]
  simp only [List.cons.injEq, Lit.int.injEq, decide_eq_true_eq, true_and, and_true]
  omega

/-- The blocks of a row. -/
abbrev Blk (a : Option Addr) (k : Nat) : Prop := ∃ ad, a = some ad ∧ ad.block = k

theorem pixL_px (px : List Nat) (k : Nat) : (pixL px k).toArray = pxV (px.getD k 0) (px.getD (k + 1) 0) (px.getD (k + 2) 0) (px.getD (k + 3) 0) := rfl

theorem getD_small {px : List Nat} (h : ∀ b ∈ px, b < 65536) (k : Nat) : px.getD k 0 < 65536 := by
  rw [List.getD_eq_getElem?_getD]
  cases e : px[k]? with
  | none => decide
  | some v => exact h v (List.mem_of_getElem? e)

end Go.Proofs.Ythdilabmajaehaa
