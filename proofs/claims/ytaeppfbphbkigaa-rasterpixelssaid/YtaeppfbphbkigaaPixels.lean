/-
  RasterPixels: at any place At, Set, Copy, May and Same of any raster do as the document's do
  Conditions: none.
-/
import Derived.Test.YtaeppfbphbkigaaRp
import Derived.Test.YtaeppfbphbkigaaSh
namespace Go.Proofs.Ytaeppfbphbkigaa
open Go.ChangeShapes Go.WideShapes Go.ChangeAt Go.RowKit
open Go.ChangeMaps (open_string shut_string)
set_option linter.unusedVariables false

theorem rasterPixels_walk (wd ht : Int) (a : Option Addr) (n c : Nat) (px : List Nat) (x y : Int) (q0 q1 q2 q3 : Nat) (w : World) (hp : px.length = n) (hl : Lies w a px) (hc : n ≤ c) (hnil : a = none → n = 0 ∧ c = 0) (hb : n ≤ 9223372036854775807) (hq : ∀ x ∈ [q0, q1, q2, q3], x < 65536) :
    Calls Try.prog 3 #[rasV wd ht a n c, .agg #[.int .i64 x, .int .i64 y], .agg (pxV q0 q1 q2 q3)] w fun e w' => e = .returned (.bool true) ∧ Below w.heap.size w w' :=
  (pixels_law wd ht a n c px x y q0 q1 q2 q3 w hl hp hc hnil hb hq).mono fun e w' ⟨he, f⟩ => ⟨he, f.below (Nat.le_refl _) (fun k h => h.elim)⟩

set_option maxRecDepth 100000 in
theorem rasterPixels_lifted (os : Os) (started : os.Started) (H : Type) (enc : TypeId × Value → H) :
    ReturnsInHanded {} Try.checked os 3 .any (Rows.rasterPixelsSpec.pre6 enc Try.prog Try.f3 Rows.rasterPixelsRow.domain false) (Rows.rasterPixelsSpec.post enc Try.prog Try.f3 false true false false) := by
  refine returnsInHanded_of_change (C := Try.checked) own started (by kernel_rfl) Try.func3
    (ChangeSpec.witness6 (enc := enc) (C := Try.checked) false ⟨#[], #[.agg #[.int .i64 0, .int .i64 0, .slice none 0 0], .agg #[.int .i64 0, .int .i64 0], .agg #[.int .u16 0, .int .u16 0, .int .u16 0, .int .u16 0]], []⟩ 8 (by kernel_rfl) (by kernel_rfl) (by kernel_rfl) (by kernel_rfl)) ?_
  intro W base args ds gs before hval0 hW hcnd _
  have hval : ∀ (j : Nat) t v, Try.f3.params[j]? = some t → args[j]? = some v → Value.okWide Try.prog W .any base t v := hval0
  have hW' := hW
  obtain ⟨p, q, hA0, hV, rfl, hfz, hnd⟩ := hW
  have hA : DataW.TrodAll enc Try.prog W 0 (fun _ => true) true Try.f3.params.toList args.toList ds p := hA0
  rw [Try.params3] at hA hval
  obtain ⟨v0, vs0, d0, ds0, p0, q0, hargs, rfl, rfl, h0, r0⟩ := trodAll_cons hA
  obtain ⟨v1, vs1, d1, ds1, p1, q1, rfl, rfl, rfl, h1, r1⟩ := trodAll_cons r0
  obtain ⟨v2, vs2, d2, ds2, p2, q2, rfl, rfl, rfl, h2, r2⟩ := trodAll_cons r1
  obtain ⟨rfl, rfl, rfl⟩ := trodAll_nil r2
  obtain rfl : args = #[v0, v1, v2] := by cases args; simp_all
  obtain ⟨rfl, rfl⟩ := trodVars_none hV
  have k0 := h0
  have lt0 : ∀ x ∈ p0, x.block < W.heap.size := by obtain ⟨m, hm⟩ := k0; exact DataW.trod_lt m _ _ _ hm
  obtain ⟨wd0, ht0, a0, n0, c0, px0, rfl, l0, w0, x0, y0, z0, s0, u0⟩ := open_ras (hval 0 24 v0 rfl rfl) h0
  have k1 := h1
  have lt1 : ∀ x ∈ p1, x.block < W.heap.size := by obtain ⟨m, hm⟩ := k1; exact DataW.trod_lt m _ _ _ hm
  obtain ⟨x1, y1, rfl, wx1, wy1⟩ := open_two (hval 1 25 v1 rfl rfl) h1
  have k2 := h2
  have lt2 : ∀ x ∈ p2, x.block < W.heap.size := by obtain ⟨m, hm⟩ := k2; exact DataW.trod_lt m _ _ _ hm
  obtain ⟨q20, q21, q22, q23, rfl, wq2⟩ := open_pix (hval 2 27 v2 rfl rfl) h2
  clear hA0 hval0
  refine (rasterPixels_walk wd0 ht0 a0 n0 c0 px0 x1 y1 q20 q21 q22 q23 W l0 w0 x0 y0 z0 wq2).mono fun e W' ⟨he, bel⟩ => ?_
  subst he
  exact ⟨_, rfl, _, _, _, [], _, [], hW', trodAll_mk1 (shut_bool Try.underlying4 _), (trodAll_cons_mk (Below.trod laidOut (by kernel_rfl) (of_decide_eq_true (by kernel_rfl)) k0 bel lt0) (trodAll_cons_mk (Below.trod laidOut (by kernel_rfl) (of_decide_eq_true (by kernel_rfl)) k1 bel lt1) (trodAll_cons_mk (Below.trod laidOut (by kernel_rfl) (of_decide_eq_true (by kernel_rfl)) k2 bel lt2) trodAll_mk0))), rfl, bel.frame _, fun h => by cases h⟩

theorem rasterPixels_over : Rows.rasterPixelsRow.holds Try.pinned (OpenSpec.ofChange Rows.rasterPixelsSpec) :=
  OpenClaim.holds_of_wide 3 Try.f3 rfl rfl rfl rfl rfl rfl rfl ⟨rfl, rfl, rfl, rfl, rfl⟩ rfl rfl rfl rfl rfl (by kernel_rfl) Try.func3 (by kernel_rfl)
    (of_decide_eq_true (by kernel_rfl)) (by unfold Func.isWrapper; first | (rw [if_pos (by decide +kernel)]; kernel_rfl) | (rw [if_neg (by decide +kernel)]; exact ⟨rfl, rfl⟩))
    (fun os started H enc _ => rasterPixels_lifted os started H enc)

/-- The statement. -/
theorem rasterPixels_holds : Rows.RasterPixelsSaid := rasterPixels_over
#print axioms rasterPixels_holds
end Go.Proofs.Ytaeppfbphbkigaa
