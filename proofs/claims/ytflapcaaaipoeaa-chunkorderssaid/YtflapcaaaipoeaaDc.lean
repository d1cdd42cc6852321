/-
  Small lists of numbers that came in.
-/
import Derived.Test.YtflapcaaaipoeaaCy
namespace Go.Proofs.Ytflapcaaaipoeaa
open Go.ChangeShapes Go.WideShapes Go.ChangeAt Go.RowKit
set_option linter.unusedVariables false

theorem wf_u16 {n : Int} (h : (Lit.int .u16 n).wf = true) : 0 ≤ n ∧ n < 65536 := by
  simp [Lit.wf, IntKind.min, IntKind.max, IntKind.signed, IntKind.bits] at h
  omega
theorem cells46 : Try.prog.cellsOf 46 = 2 := by kernel_rfl
theorem cells45 : Try.prog.cellsOf 45 = 1 := by kernel_rfl
theorem cells49 : Try.prog.cellsOf 49 = 3 := by kernel_rfl
theorem cells5 : Try.prog.cellsOf 5 = 1 := by kernel_rfl

set_option maxRecDepth 100000 in
/-- A list of two small numbers that came in. -/
theorem open_two {H : Type} {enc : TypeId × Value → H} {W : World} {b0 base : Nat} {r : Reach} {sp : Nat → Bool} {held : Bool} {v : Value} {d : DataW H} {ps : List MemPlace}
    (hv : Value.okWide Try.prog W r b0 46 v) (hd : DataW.Trod enc Try.prog W base sp held 46 v d ps) :
    ∃ x0 x1 : Nat, v = .agg #[.int .u16 (x0 : Int), .int .u16 (x1 : Int)] ∧ x0 < 65536 ∧ x1 < 65536 := by
  simp only [Value.okWide, Try.underlying46] at hv
  obtain ⟨cs, rfl, h2, _⟩ := hv
  rw [cells46] at h2
  obtain ⟨fuel, hf⟩ := hd
  cases fuel with
  | zero => simp [DataW.trod] at hf
  | succ m =>
    obtain ⟨l⟩ := cs
    match l, h2 with
    | [c0, c1], _ =>
      rw [DataW.trod_step] at hf
      unfold DataW.trodStep at hf
      simp only [Try.underlying46, Value.cells] at hf
      rw [if_pos (by rw [cells46]; rfl)] at hf
      rw [cells45] at hf
      simp only [Option.map_eq_some_iff] at hf
      obtain ⟨ys, hy, _⟩ := hf
      simp only [List.range_succ, List.range_zero, List.nil_append, List.cons_append, List.mapM_cons, List.mapM_nil, bind, Option.bind_eq_some_iff, pure] at hy
      obtain ⟨y0, hy0, ys1, ⟨y1, hy1, _⟩, _⟩ := hy
      obtain ⟨x0, ex0, _, wx0⟩ := DataW.trod_int Try.underlying45 hy0
      obtain ⟨x1, ex1, _, wx1⟩ := DataW.trod_int Try.underlying45 hy1
      simp at ex0 ex1
      subst ex0
      subst ex1
      have b0 := wf_u16 wx0
      have b1 := wf_u16 wx1
      exact ⟨x0.toNat, x1.toNat, by rw [Int.toNat_of_nonneg b0.1, Int.toNat_of_nonneg b1.1], by omega, by omega⟩

set_option maxRecDepth 100000 in
/-- A list of three small numbers that came in. -/
theorem open_three {H : Type} {enc : TypeId × Value → H} {W : World} {b0 base : Nat} {r : Reach} {sp : Nat → Bool} {held : Bool} {v : Value} {d : DataW H} {ps : List MemPlace}
    (hv : Value.okWide Try.prog W r b0 49 v) (hd : DataW.Trod enc Try.prog W base sp held 49 v d ps) :
    ∃ x0 x1 x2 : Nat, v = .agg #[.int .u8 (x0 : Int), .int .u8 (x1 : Int), .int .u8 (x2 : Int)] ∧ x0 < 256 ∧ x1 < 256 ∧ x2 < 256 := by
  simp only [Value.okWide, Try.underlying49] at hv
  obtain ⟨cs, rfl, h2, _⟩ := hv
  rw [cells49] at h2
  obtain ⟨fuel, hf⟩ := hd
  cases fuel with
  | zero => simp [DataW.trod] at hf
  | succ m =>
    obtain ⟨l⟩ := cs
    match l, h2 with
    | [c0, c1, c2], _ =>
      rw [DataW.trod_step] at hf
      unfold DataW.trodStep at hf
      simp only [Try.underlying49, Value.cells] at hf
      rw [if_pos (by rw [cells49]; rfl)] at hf
      rw [cells5] at hf
      simp only [Option.map_eq_some_iff] at hf
      obtain ⟨ys, hy, _⟩ := hf
      simp only [List.range_succ, List.range_zero, List.nil_append, List.cons_append, List.mapM_cons, List.mapM_nil, bind, Option.bind_eq_some_iff, pure] at hy
      obtain ⟨y0, hy0, ys1, ⟨y1, hy1, ys2, ⟨y2, hy2, _⟩, _⟩, _⟩ := hy
      obtain ⟨x0, ex0, _, wx0⟩ := DataW.trod_int Try.underlying5 hy0
      obtain ⟨x1, ex1, _, wx1⟩ := DataW.trod_int Try.underlying5 hy1
      obtain ⟨x2, ex2, _, wx2⟩ := DataW.trod_int Try.underlying5 hy2
      simp at ex0 ex1 ex2
      subst ex0
      subst ex1
      subst ex2
      have b0 := wf_u8 wx0
      have b1 := wf_u8 wx1
      have b2 := wf_u8 wx2
      exact ⟨x0.toNat, x1.toNat, x2.toNat, by rw [Int.toNat_of_nonneg b0.1, Int.toNat_of_nonneg b1.1, Int.toNat_of_nonneg b2.1], by omega, by omega, by omega⟩
end Go.Proofs.Ytflapcaaaipoeaa
