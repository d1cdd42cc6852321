/-
  What is proved: for every list of bytes and every list of deeds, the law BitsLow of layer 1 (the bits of the lowest first are those that the document names: Take, Align, Bytes and Left beside a plain reading) returns true and leaves both lists as they were.
  Conditions: none.
-/
import Derived.Test.YtkmgpapopgeldaaLc
import Derived.Test.YtkmgpapopgeldaaZ
namespace Go.Proofs.Ytkmgpapopgeldaa
open Go.ChangeShapes Go.WideShapes Go.ChangeAt Go.RowKit
set_option linter.unusedVariables false

set_option maxHeartbeats 400000 in
theorem low_long (a0 a1 : Option Addr) (len0 c0 len1 c1 : Nat) (w : World) (h0 : (2000 : Int) < (len0 : Int)) :
    Calls Try.prog 3 #[.slice a0 len0 c0, .slice a1 len1 c1] w fun e w' => e = .returned (.bool true) ∧ Fr (fun _ => False) w w' := by
  go_enter Try.func3, Try.ntmps3
  go_wp2_with fail
  refine (awake_c _).mono ?_
  rintro e w1 ⟨rfl, hf1⟩
  have fa := hide hf1
  clear hf1
  go_wp2
  go_ret
  exact ⟨rfl, fa.out⟩

set_option maxHeartbeats 400000 in
theorem low_many (a0 a1 : Option Addr) (len0 c0 len1 c1 : Nat) (w : World) (h0 : (len0 : Int) ≤ 2000) (h1 : (200 : Int) < (len1 : Int)) :
    Calls Try.prog 3 #[.slice a0 len0 c0, .slice a1 len1 c1] w fun e w' => e = .returned (.bool true) ∧ Fr (fun _ => False) w w' := by
  go_enter Try.func3, Try.ntmps3
  go_wp2_with fail
  refine (awake_c _).mono ?_
  rintro e w1 ⟨rfl, hf1⟩
  have fa := hide hf1
  clear hf1
  go_wp2
  go_ret
  exact ⟨rfl, fa.out⟩

theorem bitsLow_walk (a0 : Option Addr) (len0 cap0 : Nat) (z0 : List Int) (a1 : Option Addr) (len1 cap1 : Nat) (z1 : List (Int × Int)) (w : World) (w0 : IsRow .u8 w a0 len0 cap0 z0) (e1 : z1.length = len1) (w1 : LiesD w (.slice a1 len1 cap1) z1) :
    Calls Try.prog 3 #[.slice a0 len0 cap0, .slice a1 len1 cap1] w fun e w' => e = .returned (.bool true) ∧ Below w.heap.size w w' := by
  have fin : Calls Try.prog 3 #[.slice a0 len0 cap0, .slice a1 len1 cap1] w fun e w' => e = .returned (.bool true) ∧ Fr (fun _ => False) w w' := by
    by_cases h0 : (2000 : Int) < (len0 : Int)
    · exact low_long a0 a1 len0 cap0 len1 cap1 w h0
    · by_cases h1 : (200 : Int) < (len1 : Int)
      · exact low_many a0 a1 len0 cap0 len1 cap1 w (by omega) h1
      · obtain ⟨e0, hlt, hl, hold⟩ := w0.bytes
        have hc : len0 ≤ cap0 := by
          rcases w0 with ⟨_, rfl, rfl, _⟩ | ⟨x, _, h, _⟩
          · omega
          · exact h
        subst e1
        have := bitsLow_main a0 a1 cap0 cap1 (bytesOf len0 z0) z1 w hl w1 hlt (by omega) (by omega) (by omega) hold
        rw [e0] at this
        exact this
  exact fin.mono fun e w' ⟨he, f⟩ => ⟨he, f.below (Nat.le_refl _) (fun k h => h.elim)⟩

set_option maxRecDepth 100000 in
theorem bitsLow_lifted (os : Os) (started : os.Started) (H : Type) (enc : TypeId × Value → H) :
    ReturnsInHanded {} Try.checked os 3 .any (Rows.bitsLowSpec.pre6 enc Try.prog Try.f3 Rows.bitsLowRow.domain false) (Rows.bitsLowSpec.post enc Try.prog Try.f3 false true false false) := by
  refine returnsInHanded_of_change (C := Try.checked) own started (by kernel_rfl) Try.func3
    (ChangeSpec.witness6 (enc := enc) (C := Try.checked) false ⟨#[], #[.slice none 0 0, .slice none 0 0], []⟩ 8 (by kernel_rfl) (by kernel_rfl) (by kernel_rfl) (by kernel_rfl)) ?_
  intro W base args ds gs before hval0 hW hcnd _
  have hval : ∀ (j : Nat) t v, Try.f3.params[j]? = some t → args[j]? = some v → Value.okWide Try.prog W .any base t v := hval0
  have hW' := hW
  obtain ⟨p, q, hA0, hV, rfl, hfz, hnd⟩ := hW
  have hA : DataW.TrodAll enc Try.prog W 0 (fun _ => true) true Try.f3.params.toList args.toList ds p := hA0
  rw [Try.params3] at hA hval
  obtain ⟨v0, vs0, d0, ds0, p0, q0, hargs, rfl, rfl, h0, r0⟩ := trodAll_cons hA
  obtain ⟨v1, vs1, d1, ds1, p1, q1, rfl, rfl, rfl, h1, r1⟩ := trodAll_cons r0
  obtain ⟨rfl, rfl, rfl⟩ := trodAll_nil r1
  obtain rfl : args = #[v0, v1] := by cases args; simp_all
  obtain ⟨rfl, rfl⟩ := trodVars_none hV
  obtain ⟨a0, len0, cap0, rfl⟩ := okWide_slice Try.underlying22 (hval 0 22 v0 rfl rfl)
  have k0 := h0
  have lt0 : ∀ x ∈ p0, x.block < W.heap.size := by obtain ⟨m, hm⟩ := k0; exact DataW.trod_lt m _ _ _ hm
  obtain ⟨z0, w0⟩ : ∃ zs, IsRow .u8 W a0 len0 cap0 zs := by
    obtain ⟨fuel, hf⟩ := h0
    rcases open_ints Try.underlying22 Try.underlying5 (by kernel_rfl) hf with ⟨hcs, _⟩ | ⟨x, l, c, zs, hcs, _, hl, hm, hz, _, hcell, hwz⟩
    · simp [Value.cells] at hcs
      obtain ⟨rfl, rfl, rfl⟩ := hcs
      exact ⟨[], .inl ⟨rfl, rfl, rfl, rfl⟩⟩
    · simp [Value.cells] at hcs
      obtain ⟨rfl, rfl, rfl⟩ := hcs
      exact ⟨zs, .inr ⟨_, rfl, hl, hm, by simpa using hz, hcell, hwz⟩⟩
  obtain ⟨a1, len1, cap1, rfl⟩ := okWide_slice Try.underlying23 (hval 1 23 v1 rfl rfl)
  have k1 := h1
  have lt1 : ∀ x ∈ p1, x.block < W.heap.size := by obtain ⟨m, hm⟩ := k1; exact DataW.trod_lt m _ _ _ hm
  obtain ⟨z1, e1, w1⟩ : ∃ zs : List (Int × Int), zs.length = len1 ∧ LiesD W (.slice a1 len1 cap1) zs := by
    obtain ⟨fuel, hf⟩ := h1
    exact open_deeds (by simpa [Value.cells] using hf)
  clear hA0 hval0
  refine (bitsLow_walk a0 len0 cap0 z0 a1 len1 cap1 z1 W w0 e1 w1).mono fun e W' ⟨he, bel⟩ => ?_
  subst he
  exact ⟨_, rfl, _, _, _, [], _, [], hW', trodAll_mk1 (shut_bool Try.underlying4 _), (trodAll_cons_mk (Below.trod laidOut (by kernel_rfl) (of_decide_eq_true (by kernel_rfl)) k0 bel lt0) (trodAll_cons_mk (Below.trod laidOut (by kernel_rfl) (of_decide_eq_true (by kernel_rfl)) k1 bel lt1) trodAll_mk0)), rfl, bel.frame _, fun h => by cases h⟩

theorem bitsLow_over : Rows.bitsLowRow.holds Try.pinned (OpenSpec.ofChange Rows.bitsLowSpec) :=
  OpenClaim.holds_of_wide 3 Try.f3 rfl rfl rfl rfl rfl rfl rfl ⟨rfl, rfl, rfl, rfl, rfl⟩ rfl rfl rfl rfl rfl (by kernel_rfl) Try.func3 (by kernel_rfl)
    (of_decide_eq_true (by kernel_rfl)) (by unfold Func.isWrapper; first | (rw [if_pos (by decide +kernel)]; kernel_rfl) | (rw [if_neg (by decide +kernel)]; exact ⟨rfl, rfl⟩))
    (fun os started H enc _ => bitsLow_lifted os started H enc)

/-- The statement. -/
theorem bitsLow_holds : Rows.BitsLowSaid := bitsLow_over
#print axioms bitsLow_holds
end Go.Proofs.Ytkmgpapopgeldaa
