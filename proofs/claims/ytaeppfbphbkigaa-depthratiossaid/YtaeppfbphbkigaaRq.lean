/-
  What comes in: arrays of floats.
-/
import Derived.Test.YtaeppfbphbkigaaRp
namespace Go.Proofs.Ytaeppfbphbkigaa
open Go.ChangeShapes Go.WideShapes Go.ChangeAt Go.RowKit

theorem cells51 : Try.prog.cellsOf 51 = 3 := by kernel_rfl
theorem cells50 : Try.prog.cellsOf 50 = 1 := by kernel_rfl

theorem wf_f64 {n : Nat} (h : (Lit.float .f64 n).wf = true) : n < 18446744073709551616 := by
  simp [Lit.wf] at h
  exact h

theorem trod_f64 {H : Type} {enc : TypeId × Value → H} {P : Program} {w : World} {base : Nat} {spare : Nat → Bool} {held : Bool} {fuel : Nat} {t : TypeId} {cs : List Value} {x : DataW H × List MemPlace} (ht : P.underlying t = some (.float .f64)) (h : DataW.trod enc P w base spare held fuel t cs = some x) : ∃ n, cs = [.float .f64 n] ∧ (Lit.float .f64 n).wf = true := by
  cases fuel with
  | zero => simp [DataW.trod] at h
  | succ m =>
    unfold DataW.trod at h
    rw [ht] at h
    split at h <;> simp_all

/-- Three floats that came in as an array. -/
theorem open_three {H : Type} {enc : TypeId × Value → H} {W : World} {b0 base : Nat} {r : Reach} {sp : Nat → Bool} {held : Bool} {v : Value} {d : DataW H} {ps : List MemPlace}
    (hv : Value.okWide Try.prog W r b0 51 v) (hd : DataW.Trod enc Try.prog W base sp held 51 v d ps) :
    ∃ f0 f1 f2 : Nat, v = .agg #[.float .f64 f0, .float .f64 f1, .float .f64 f2] ∧ f0 < 18446744073709551616 ∧ f1 < 18446744073709551616 ∧ f2 < 18446744073709551616 := by
  simp only [Value.okWide, Try.underlying51] at hv
  obtain ⟨cs, rfl, h2, _⟩ := hv
  rw [cells51] at h2
  obtain ⟨fuel, hf⟩ := hd
  cases fuel with
  | zero => simp [DataW.trod] at hf
  | succ m =>
    obtain ⟨l⟩ := cs
    match l, h2 with
    | [c0, c1, c2], _ =>
      rw [DataW.trod_step] at hf
      unfold DataW.trodStep at hf
      simp only [Try.underlying51, Value.cells] at hf
      rw [if_pos (by rw [cells51]; rfl)] at hf
      rw [cells50] at hf
      simp only [Option.map_eq_some_iff] at hf
      obtain ⟨ys, hy, _⟩ := hf
      simp only [List.range_succ, List.range_zero, List.nil_append, List.cons_append, List.mapM_cons, List.mapM_nil, bind, Option.bind_eq_some_iff, pure] at hy
      obtain ⟨y0, hy0, ys1, ⟨y1, hy1, ys2, ⟨y2, hy2, _⟩, _⟩, _⟩ := hy
      obtain ⟨x0, ex0, wx0⟩ := trod_f64 Try.underlying50 hy0
      obtain ⟨x1, ex1, wx1⟩ := trod_f64 Try.underlying50 hy1
      obtain ⟨x2, ex2, wx2⟩ := trod_f64 Try.underlying50 hy2
      simp at ex0 ex1 ex2
      subst ex0
      subst ex1
      subst ex2
      exact ⟨x0, x1, x2, rfl, wf_f64 wx0, wf_f64 wx1, wf_f64 wx2⟩
end Go.Proofs.Ytaeppfbphbkigaa
