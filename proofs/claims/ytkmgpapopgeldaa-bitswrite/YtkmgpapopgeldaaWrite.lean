/-
  What is proved: for every list of deeds (a number and a width) and either order, the law BitsWrite of layer 1 (what is put lies in the bytes as the document says, beside a plain packing bit by bit; a width that is too wide is refused) returns true and leaves the list as it was.
  Conditions: none.
-/
import Derived.Test.YtkmgpapopgeldaaXf
import Derived.Test.YtkmgpapopgeldaaZ
namespace Go.Proofs.Ytkmgpapopgeldaa
open Go.ChangeShapes Go.WideShapes Go.ChangeAt Go.RowKit
set_option linter.unusedVariables false

set_option maxHeartbeats 400000 in
theorem write_long (a0 : Option Addr) (len0 c0 : Nat) (b : Bool) (w : World) (h0 : (300 : Int) < (len0 : Int)) :
    Calls Try.prog 5 #[.slice a0 len0 c0, .bool b] w fun e w' => e = .returned (.bool true) ∧ Fr (fun _ => False) w w' := by
  go_enter Try.func5, Try.ntmps5
  go_wp2_with fail
  refine (awake_c _).mono ?_
  rintro e w1 ⟨rfl, hf1⟩
  have fa := hide ((Fr.of_alloc w (.cells #[.bool b] 4)).join hf1)
  clear hf1
  go_wp2
  go_ret
  exact ⟨rfl, fa.out⟩

theorem bitsWrite_walk (a0 : Option Addr) (len0 cap0 : Nat) (z0 : List (Int × Int)) (b1 : Bool) (w : World) (e0 : z0.length = len0) (w0 : LiesD w (.slice a0 len0 cap0) z0) :
    Calls Try.prog 5 #[.slice a0 len0 cap0, .bool b1] w fun e w' => e = .returned (.bool true) ∧ Below w.heap.size w w' := by
  have fin : Calls Try.prog 5 #[.slice a0 len0 cap0, .bool b1] w fun e w' => e = .returned (.bool true) ∧ Fr (fun _ => False) w w' := by
    by_cases h0 : (300 : Int) < (len0 : Int)
    · exact write_long a0 len0 cap0 b1 w h0
    · subst e0
      cases b1 with
      | false => exact write_low a0 cap0 z0 w w0 (by omega)
      | true => exact write_high a0 cap0 z0 w w0 (by omega)
  exact fin.mono fun e w' ⟨he, f⟩ => ⟨he, f.below (Nat.le_refl _) (fun k h => h.elim)⟩

set_option maxRecDepth 100000 in
theorem bitsWrite_lifted (os : Os) (started : os.Started) (H : Type) (enc : TypeId × Value → H) :
    ReturnsInHanded {} Try.checked os 5 .any (Rows.bitsWriteSpec.pre6 enc Try.prog Try.f5 Rows.bitsWriteRow.domain false) (Rows.bitsWriteSpec.post enc Try.prog Try.f5 false true false false) := by
  refine returnsInHanded_of_change (C := Try.checked) own started (by kernel_rfl) Try.func5
    (ChangeSpec.witness6 (enc := enc) (C := Try.checked) false ⟨#[], #[.slice none 0 0, .bool false], []⟩ 8 (by kernel_rfl) (by kernel_rfl) (by kernel_rfl) (by kernel_rfl)) ?_
  intro W base args ds gs before hval0 hW hcnd _
  have hval : ∀ (j : Nat) t v, Try.f5.params[j]? = some t → args[j]? = some v → Value.okWide Try.prog W .any base t v := hval0
  have hW' := hW
  obtain ⟨p, q, hA0, hV, rfl, hfz, hnd⟩ := hW
  have hA : DataW.TrodAll enc Try.prog W 0 (fun _ => true) true Try.f5.params.toList args.toList ds p := hA0
  rw [Try.params5] at hA hval
  obtain ⟨v0, vs0, d0, ds0, p0, q0, hargs, rfl, rfl, h0, r0⟩ := trodAll_cons hA
  obtain ⟨v1, vs1, d1, ds1, p1, q1, rfl, rfl, rfl, h1, r1⟩ := trodAll_cons r0
  obtain ⟨rfl, rfl, rfl⟩ := trodAll_nil r1
  obtain rfl : args = #[v0, v1] := by cases args; simp_all
  obtain ⟨rfl, rfl⟩ := trodVars_none hV
  obtain ⟨a0, len0, cap0, rfl⟩ := okWide_slice Try.underlying23 (hval 0 23 v0 rfl rfl)
  have k0 := h0
  have lt0 : ∀ x ∈ p0, x.block < W.heap.size := by obtain ⟨m, hm⟩ := k0; exact DataW.trod_lt m _ _ _ hm
  obtain ⟨z0, e0, w0⟩ : ∃ zs : List (Int × Int), zs.length = len0 ∧ LiesD W (.slice a0 len0 cap0) zs := by
    obtain ⟨fuel, hf⟩ := h0
    exact open_deeds (by simpa [Value.cells] using hf)
  obtain ⟨b1, rfl, rfl, rfl⟩ := open_bool Try.underlying4 (hval 1 4 v1 rfl rfl) h1
  clear hA0 hval0
  refine (bitsWrite_walk a0 len0 cap0 z0 b1 W e0 w0).mono fun e W' ⟨he, bel⟩ => ?_
  subst he
  exact ⟨_, rfl, _, _, _, [], _, [], hW', trodAll_mk1 (shut_bool Try.underlying4 _), (trodAll_cons_mk (Below.trod laidOut (by kernel_rfl) (of_decide_eq_true (by kernel_rfl)) k0 bel lt0) (trodAll_cons_mk (shut_bool Try.underlying4 b1) trodAll_mk0)), rfl, bel.frame _, fun h => by cases h⟩

theorem bitsWrite_over : Rows.bitsWriteRow.holds Try.pinned (OpenSpec.ofChange Rows.bitsWriteSpec) :=
  OpenClaim.holds_of_wide 5 Try.f5 rfl rfl rfl rfl rfl rfl rfl ⟨rfl, rfl, rfl, rfl, rfl⟩ rfl rfl rfl rfl rfl (by kernel_rfl) Try.func5 (by kernel_rfl)
    (of_decide_eq_true (by kernel_rfl)) (by unfold Func.isWrapper; first | (rw [if_pos (by decide +kernel)]; kernel_rfl) | (rw [if_neg (by decide +kernel)]; exact ⟨rfl, rfl⟩))
    (fun os started H enc _ => bitsWrite_lifted os started H enc)

/-- The statement. -/
theorem bitsWrite_holds : Rows.BitsWriteSaid := bitsWrite_over
#print axioms bitsWrite_holds
end Go.Proofs.Ytkmgpapopgeldaa
