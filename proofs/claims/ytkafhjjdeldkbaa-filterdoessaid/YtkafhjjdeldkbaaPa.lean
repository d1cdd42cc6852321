/-
  Pairs of numbers, rows of bytes that came in.
-/
import Derived.Test.YtkafhjjdeldkbaaMl
import Derived.OpenShut
namespace Go.Proofs.Ytkafhjjdeldkbaa
open Go.ChangeShapes Go.WideShapes Go.ChangeAt Go.RowKit
set_option linter.unusedVariables false

theorem cells23 : Try.prog.cellsOf 23 = 2 := by kernel_rfl
theorem cells29 : Try.prog.cellsOf 29 = 2 := by kernel_rfl
theorem cells3 : Try.prog.cellsOf 3 = 1 := by kernel_rfl
theorem cells5 : Try.prog.cellsOf 5 = 1 := by kernel_rfl

set_option maxRecDepth 100000 in
/-- Two numbers that came in. -/
theorem open_ints2 {H : Type} {enc : TypeId × Value → H} {W : World} {b0 base : Nat} {r : Reach} {sp : Nat → Bool} {held : Bool} {v : Value} {d : DataW H} {ps : List MemPlace}
    (hv : Value.okWide Try.prog W r b0 23 v) (hd : DataW.Trod enc Try.prog W base sp held 23 v d ps) :
    ∃ x y : Int, v = .agg #[.int .i64 x, .int .i64 y] ∧ (Lit.int .i64 x).wf = true ∧ (Lit.int .i64 y).wf = true := by
  simp only [Value.okWide, Try.underlying23] at hv
  obtain ⟨cs, rfl, h2, _⟩ := hv
  rw [cells23] at h2
  obtain ⟨fuel, hf⟩ := hd
  cases fuel with
  | zero => simp [DataW.trod] at hf
  | succ m =>
    obtain ⟨l⟩ := cs
    match l, h2 with
    | [c0, c1], _ =>
      rw [DataW.trod_step] at hf
      unfold DataW.trodStep at hf
      simp only [Try.underlying23, Value.cells] at hf
      rw [if_pos (by rw [cells23]; rfl)] at hf
      rw [cells3] at hf
      simp only [Option.map_eq_some_iff] at hf
      obtain ⟨ys, hy, _⟩ := hf
      simp only [List.range_succ, List.range_zero, List.nil_append, List.cons_append, List.mapM_cons, List.mapM_nil, bind, Option.bind_eq_some_iff, pure] at hy
      obtain ⟨y0, hy0, ys1, ⟨y1, hy1, _⟩, _⟩ := hy
      obtain ⟨x0, ex0, _, wx0⟩ := DataW.trod_int Try.underlying3 hy0
      obtain ⟨x1, ex1, _, wx1⟩ := DataW.trod_int Try.underlying3 hy1
      simp at ex0 ex1
      subst ex0
      subst ex1
      exact ⟨x0, x1, rfl, wx0, wx1⟩

set_option maxRecDepth 100000 in
/-- Two numbers that came in. -/
theorem open_bytes2 {H : Type} {enc : TypeId × Value → H} {W : World} {b0 base : Nat} {r : Reach} {sp : Nat → Bool} {held : Bool} {v : Value} {d : DataW H} {ps : List MemPlace}
    (hv : Value.okWide Try.prog W r b0 29 v) (hd : DataW.Trod enc Try.prog W base sp held 29 v d ps) :
    ∃ x0 x1 : Nat, v = .agg #[.int .u8 (x0 : Int), .int .u8 (x1 : Int)] ∧ x0 < 256 ∧ x1 < 256 := by
  simp only [Value.okWide, Try.underlying29] at hv
  obtain ⟨cs, rfl, h2, _⟩ := hv
  rw [cells29] at h2
  obtain ⟨fuel, hf⟩ := hd
  cases fuel with
  | zero => simp [DataW.trod] at hf
  | succ m =>
    obtain ⟨l⟩ := cs
    match l, h2 with
    | [c0, c1], _ =>
      rw [DataW.trod_step] at hf
      unfold DataW.trodStep at hf
      simp only [Try.underlying29, Value.cells] at hf
      rw [if_pos (by rw [cells29]; rfl)] at hf
      rw [cells5] at hf
      simp only [Option.map_eq_some_iff] at hf
      obtain ⟨ys, hy, _⟩ := hf
      simp only [List.range_succ, List.range_zero, List.nil_append, List.cons_append, List.mapM_cons, List.mapM_nil, bind, Option.bind_eq_some_iff, pure] at hy
      obtain ⟨y0, hy0, ys1, ⟨y1, hy1, _⟩, _⟩ := hy
      obtain ⟨x0, ex0, _, wx0⟩ := DataW.trod_int Try.underlying5 hy0
      obtain ⟨x1, ex1, _, wx1⟩ := DataW.trod_int Try.underlying5 hy1
      simp at ex0 ex1
      subst ex0
      subst ex1
      have b0 := wf_u8 wx0
      have b1 := wf_u8 wx1
      exact ⟨x0.toNat, x1.toNat, by rw [Int.toNat_of_nonneg b0.1, Int.toNat_of_nonneg b1.1], by omega, by omega⟩

theorem IsRow.nilc {k : IntKind} {w : World} {a : Option Addr} {len cap : Nat} {zs : List Int} (h : IsRow k w a len cap zs) : len ≤ cap ∧ cap ≤ 9223372036854775807 ∧ (a = none → cap = 0 ∧ len = 0) := by
  rcases h with ⟨rfl, rfl, rfl, rfl⟩ | ⟨x, rfl, hl, hm, _⟩
  · exact ⟨Nat.le_refl _, by omega, fun _ => ⟨rfl, rfl⟩⟩
  · exact ⟨hl, by unfold maxLen at hm; omega, fun h => by cases h⟩
end Go.Proofs.Ytkafhjjdeldkbaa
