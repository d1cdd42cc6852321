/-
  ChunkOrders: whether chunks are in order is as the document says, also where one is taken out, put in again or moved.
  Conditions: none.
-/
import Derived.Test.YtflapcaaaipoeaaEb
import Derived.Test.YtflapcaaaipoeaaDc
namespace Go.Proofs.Ytflapcaaaipoeaa
open Go.ChangeShapes Go.WideShapes Go.ChangeAt Go.RowKit
open Go.ChangeMaps (open_string shut_string)
set_option linter.unusedVariables false

theorem orders_row {W : World} {a : Option Addr} {len cap : Nat} {l : List Ck} {x y z : Nat} (hl : l.length = len) (h : LiesC W a l) (hc : len ≤ cap) (hb : len ≤ 281474976710656) (hx : x < 256) (hy : y < 256) (hz : z < 256) : Calls Try.prog 6 #[.slice a len cap, .agg #[.int .u8 (x : Int), .int .u8 (y : Int), .int .u8 (z : Int)]] W fun e w' => e = .returned (.bool true) ∧ Below W.heap.size W w' := by
  subst hl
  exact (orders_law a cap l x y z W h hb hc hx hy hz).mono fun e w' ⟨he, hf⟩ => ⟨he, hf.below (Nat.le_refl _) (fun k h => h.elim)⟩

set_option maxRecDepth 100000 in
theorem chunkOrders_lifted (os : Os) (started : os.Started) (H : Type) (enc : TypeId × Value → H) :
    ReturnsInHanded {} Try.checked os 6 .any (Rows.chunkOrdersSpec.pre6 enc Try.prog Try.f6 Rows.chunkOrdersRow.domain false) (Rows.chunkOrdersSpec.post enc Try.prog Try.f6 false true false false) := by
  refine returnsInHanded_of_change_shaped (C := Try.checked) own started (by kernel_rfl) Try.func6
    (ChangeSpec.witness6 (enc := enc) (C := Try.checked) false ⟨#[], #[.slice none 0 0, .agg #[.int .u8 0, .int .u8 0, .int .u8 0]], []⟩ 8 (by kernel_rfl) (by kernel_rfl) (by kernel_rfl) (by kernel_rfl)) ?_
  intro W base args ds gs before hval0 hW hcnd hwt _ _
  have hval : ∀ (j : Nat) t v, Try.f6.params[j]? = some t → args[j]? = some v → Value.okWide Try.prog W .any base t v := hval0
  have hW' := hW
  obtain ⟨p, q, hA0, hV, rfl, hfz, hnd⟩ := hW
  have hA : DataW.TrodAll enc Try.prog W 0 (fun _ => true) true Try.f6.params.toList args.toList ds p := hA0
  rw [Try.params6] at hA hval
  obtain ⟨v0, vs0, d0, ds0, p0, q0, hargs, rfl, rfl, h0, r0⟩ := trodAll_cons hA
  obtain ⟨v1, vs1, d1, ds1, p1, q1, rfl, rfl, rfl, h1, r1⟩ := trodAll_cons r0
  obtain ⟨rfl, rfl, rfl⟩ := trodAll_nil r1
  obtain rfl : args = #[v0, v1] := by cases args; simp_all
  obtain ⟨rfl, rfl⟩ := trodVars_none hV
  have k0 := h0
  have lt0 : ∀ x ∈ p0, x.block < W.heap.size := by obtain ⟨m, hm⟩ := k0; exact DataW.trod_lt m _ _ _ hm
  obtain ⟨a0, len0, cap0, rfl⟩ := okWide_slice Try.underlying28 (hval 0 28 v0 rfl rfl)
  have hwt0 : (DataW.weights Try.prog 28 d0).all (· ≤ reachBytes) = true := by
    rw [List.all_eq_true] at hwt ⊢
    intro x hx
    exact hwt x (by rw [Try.params6]; exact List.mem_append_left _ hx)
  obtain ⟨l0, hl0, w0, hc0, hb0⟩ := open_chunks h0 hwt0
  have k1 := h1
  obtain ⟨x10, x11, x12, rfl, wx10, wx11, wx12⟩ := open_three (hval 1 49 v1 rfl rfl) k1
  have lt1 : ∀ x ∈ p1, x.block < W.heap.size := by obtain ⟨m, hm⟩ := k1; exact DataW.trod_lt m _ _ _ hm
  clear hA0 hval0 hwt
  refine (orders_row hl0 w0 hc0 hb0 wx10 wx11 wx12).mono fun e W' ⟨he, bel⟩ => ?_
  subst he
  exact ⟨_, rfl, _, _, _, [], _, [], hW', trodAll_mk1 (shut_bool Try.underlying4 _), (trodAll_cons_mk (Below.trod laidOut (by kernel_rfl) (of_decide_eq_true (by kernel_rfl)) k0 bel lt0) (trodAll_cons_mk (Below.trod laidOut (by kernel_rfl) (of_decide_eq_true (by kernel_rfl)) k1 bel lt1) trodAll_mk0)), rfl, bel.frame _, fun h => by cases h⟩

theorem chunkOrders_over : Rows.chunkOrdersRow.holds Try.pinned (OpenSpec.ofChange Rows.chunkOrdersSpec) :=
  OpenClaim.holds_of_wide 6 Try.f6 rfl rfl rfl rfl rfl rfl rfl ⟨rfl, rfl, rfl, rfl, rfl⟩ rfl rfl rfl rfl rfl (by kernel_rfl) Try.func6 (by kernel_rfl)
    (of_decide_eq_true (by kernel_rfl)) (by unfold Func.isWrapper; first | (rw [if_pos (by decide +kernel)]; kernel_rfl) | (rw [if_neg (by decide +kernel)]; exact ⟨rfl, rfl⟩))
    (fun os started H enc _ => chunkOrders_lifted os started H enc)

/-- The statement. -/
theorem chunkOrders_holds : Rows.ChunkOrdersSaid := chunkOrders_over
#print axioms chunkOrders_holds
end Go.Proofs.Ytflapcaaaipoeaa
