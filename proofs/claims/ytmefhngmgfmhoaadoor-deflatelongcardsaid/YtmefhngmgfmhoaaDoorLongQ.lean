/-
  DeflateLong: more bytes than may be are not written; their machine is done at once.
  Conditions: none.
-/
import Derived.Test.YtmefhngmgfmhoaaDoorQz7
import Derived.Test.YtmefhngmgfmhoaaDoorCards
import Derived.SevenTiedAt
/-
  The law on more bytes than may be; the law on rows of one byte.
-/
namespace Go.Proofs.YtmefhngmgfmhoaaDoor
open Go.RowKit

set_option maxHeartbeats 1600000 in
set_option maxRecDepth 100000 in
theorem all_long (a : Option Addr) (n c : Nat) (w : World) (hn : 4194304 < n) (hn2 : n ≤ 2147483648) :
    Calls Tryd.prog 11 #[.slice a n c] w fun e w' => ∃ ra rc, e = .returned (.slice ra 0 rc) ∧ Fr (fun _ => False) w w' := by
  have Hnew := hide (new_long a n c w hn hn2)
  clear hn hn2
  go_enter Tryd.func11, Tryd.ntmps11
  go_wp2_with fail
  refine (calls_args Hnew.out (by rfl)).mono ?_
  rintro e w1 ⟨M, rfl, hM, hF1⟩
  have HM := hide hM
  have HF1 := hide hF1
  clear hM hF1
  go_wp2_with fail
  go_loopw [6] (fun _ wr => wr = w1) (fun _ _ => 0)
  case atStart => exact rfl
  case round =>
    subst hrel
    go_wp2_with fail
    refine (calls_args (step_done w.heap.size M [] 9223372036854775807 wr HM.out) (by rfl)).mono ?_
    rintro e w2 ⟨rfl, rfl⟩
    obtain ⟨cs, oa, oc, q1, q2, q3, q4⟩ := HM.out.ex
    have Hout := hide (out_c M (.slice oa 0 oc) [] wr (cell_of (o := 12) q1 q2) (own_lies5 q3) (by simp))
    clear q1 q2 q3 q4
    go_wp2_with fail
    refine (calls_args Hout.out (by rfl)).mono ?_
    rintro e w3 ⟨ra, rc, rfl, _, hF3⟩
    have HF3 := hide (HF1.out.join hF3)
    clear hF3
    go_wp2
    go_ret
    exact ⟨ra, rc, rfl, HF3.out⟩

set_option maxHeartbeats 1600000 in
set_option maxRecDepth 100000 in
theorem long_c (w : World) (hg : Gw w) : Calls Tryd.prog 6 #[] w fun e w' => e = .returned (.bool true) ∧ Fr (fun _ => False) w w' := by
  have hmk := makeB 4194305 (by omega)
  obtain ⟨zs, hzs⟩ : ∃ zs, zs = (cellsOf (List.replicate 4194305 0)).toArray := ⟨_, rfl⟩
  rw [← hzs] at hmk
  have hmk2 : ∀ W : World, (Instr.makeSlice 23 (.int .i64 4194305) (.int .i64 4194305)).run Tryd.prog W = .ok (.slice (some ⟨W.heap.size, 0, none⟩) 4194305 4194305) (W.alloc (.cells zs 5)) := hmk
  have HG := hide hg
  clear hmk hzs hg
  go_enter Tryd.func6, Tryd.ntmps6
  go_wp2_with fail
  refine (awake_c w HG.out).mono ?_
  rintro e w0 ⟨rfl, hF0⟩
  have HF0 := hide hF0
  clear hF0
  go_wp2_with fail
  obtain ⟨w1, hw1⟩ : ∃ w1, w1 = w0.alloc (.cells zs 5) := ⟨_, rfl⟩
  have HF1 : Hid (Fr (fun _ => False) w w1) := by rw [hw1]; exact HF0.out.join (Fr.of_alloc _ _)
  obtain ⟨D, hD⟩ : ∃ D, D = w0.heap.size := ⟨_, rfl⟩
  rw [← hw1, ← hD]
  clear hw1 hD hmk2
  refine (calls_args (new_long (some ⟨D, 0, none⟩) 4194305 4194305 w1 (by omega) (by omega)) (by rfl)).mono ?_
  rintro e w2 ⟨M, rfl, hM, hF2⟩
  have HM := hide hM
  have HF2 := hide (HF1.out.join hF2)
  clear hM hF2
  go_wp2_with fail
  refine (calls_args (all_long (some ⟨D, 0, none⟩) 4194305 4194305 w2 (by omega) (by omega)) (by rfl)).mono ?_
  rintro e w3 ⟨ra, rc, rfl, hF3⟩
  have hM3 := HM.out.keep hF3 (fun _ _ _ e => e)
  obtain ⟨cs, oa, oc, q1, q2, q3, q4⟩ := hM3.ex
  have Hdone := hide (done_c M true w3 (cell_of (o := 13) q1 q4))
  have Hout := hide (out_c M (.slice oa 0 oc) [] w3 (cell_of (o := 12) q1 q2) (own_lies5 q3) (by simp))
  have HF3 := hide (HF2.out.join hF3)
  clear hF3 hM3 q1 q2 q3 q4
  go_wp2_with fail
  refine (calls_args Hdone.out (by rfl)).mono ?_
  rintro e w4 ⟨rfl, rfl⟩
  go_wp2_with fail
  refine (calls_args Hout.out (by rfl)).mono ?_
  rintro e w5 ⟨ra5, rc5, rfl, _, hF5⟩
  have HF5 := hide (HF3.out.join hF5)
  clear hF5
  rw [List.length_nil]
  go_wp2_with fail
  refine (calls_args (most_c (-5) w5 (by decide)) (by rfl)).mono ?_
  rintro e w6 ⟨rfl, rfl⟩
  rw [show ((mostF (-5 : Int).toNat : Nat) : Int) = 5 from rfl]
  go_wp2_with fail
  refine (calls_args (most_c 65535 w5 (by decide)) (by rfl)).mono ?_
  rintro e w6 ⟨rfl, rfl⟩
  rw [show ((mostF (65535 : Int).toNat : Nat) : Int) = 65545 from rfl]
  go_wp2_with fail
  refine (calls_args (most_c 65536 w5 (by decide)) (by rfl)).mono ?_
  rintro e w6 ⟨rfl, rfl⟩
  rw [show ((mostF (65536 : Int).toNat : Nat) : Int) = 65551 from rfl]
  go_wp2
  go_ret
  exact ⟨rfl, HF5.out⟩
end Go.Proofs.YtmefhngmgfmhoaaDoor

namespace Go.Proofs.YtmefhngmgfmhoaaDoor
open Go.ChangeShapes Go.WideShapes Go.ChangeAt Go.RowKit
open Go.ChangeMaps (open_string shut_string)
set_option linter.unusedVariables false

theorem long_walk (w : World) (hg : Gw w) : Calls Tryd.prog 6 #[] w fun e w' => e = .returned (.bool true) ∧ Below w.heap.size w w' :=
  (long_c w hg).mono fun e w' ⟨he, hf⟩ => ⟨he, hf.below (Nat.le_refl _) (fun _ h => h.elim)⟩

set_option maxRecDepth 100000 in
theorem deflateLong_lifted (os : Os) (started : os.Started) (H : Type) (enc : TypeId × Value → H) :
    ReturnsInHanded {} Tryd.checked os 6 .any (fun w args => (Rows.deflateLongSpec.pre enc Tryd.prog Tryd.f6 [] false w args ∧ laidMetH Tryd.prog laidL w) ∧ sizedMet enc Tryd.prog Tryd.f6 (OpenSpec.ofChange Rows.deflateLongSpec) false w args)
      (Rows.deflateLongSpec.post enc Tryd.prog Tryd.f6 false true false false) := by
  refine returnsInHanded_of_change_and (C := Tryd.checked) (X := fun w _ => laidMetH Tryd.prog laidL w) (fun _ _ _ hh h => h.of_heap hh) own' started (by kernel_rfl) Tryd.func6
    (ChangeSpec.witness_shaped (enc := enc) (C := Tryd.checked) (os := os) (X := fun w _ => laidMetH Tryd.prog laidL w) false (World.doorLaid Tryd.prog 400 os) #[] 8 rfl (World.shaped_of_RefB (by kernel_rfl) (by kernel_rfl)) (by kernel_rfl) (by kernel_rfl) (by kernel_rfl) (door_met os _)) ?_
  intro W base args ds gs before hval0 hW _ _ hL _
  have hG := of_laid hL
  have hval : ∀ (j : Nat) t v, Tryd.f6.params[j]? = some t → args[j]? = some v → Value.okWide Tryd.prog W .any base t v := hval0
  have hW' := hW
  obtain ⟨p, q, hA0, hV, rfl, hfz, hnd⟩ := hW
  have hA : DataW.TrodAll enc Tryd.prog W 0 (fun _ => true) true Tryd.f6.params.toList args.toList ds p := hA0
  rw [Tryd.params6] at hA hval
  obtain ⟨hargs, rfl, rfl⟩ := trodAll_nil hA
  obtain rfl : args = #[] := by cases args; simp_all
  obtain ⟨rfl, rfl⟩ := trodVars_none hV
  clear hA0 hval0 hL
  refine (long_walk W hG).mono fun e W' ⟨he, bel⟩ => ?_
  subst he
  exact ⟨_, rfl, _, _, _, [], _, [], hW', trodAll_mk1 (shut_bool Tryd.underlying4 _), trodAll_mk0, rfl, bel.frame _, fun h => by cases h⟩

theorem deflateLong_over : Rows.DeflateLongSaid :=
  OpenClaim.holds_of_wide 6 Tryd.f6 rfl rfl rfl rfl rfl rfl rfl ⟨rfl, rfl, rfl, rfl, rfl⟩ rfl rfl rfl rfl rfl (by kernel_rfl) Tryd.func6 (by kernel_rfl)
    (of_decide_eq_true (by kernel_rfl)) (by unfold Func.isWrapper; first | (rw [if_pos (by decide +kernel)]; kernel_rfl) | (rw [if_neg (by decide +kernel)]; exact ⟨rfl, rfl⟩))
    (fun os started H enc _ => deflateLong_lifted os started H enc)

/-- The statement. -/
theorem deflateLong_holds : Rows.DeflateLongCardSaid :=
  Claim7.holds_tied_plain_at .later [] [.data] true (true, "25da87623ba374efa5f8a0f890cec34574710987cff2b518fcf39dbb3c3c8db1") false
    deflateLong_over (fun _ h => by cases h) (by kernel_rfl) (fun _ h => by cases h) deflateLong_row_tie rfl ⟨rfl, rfl⟩ (by kernel_rfl) rfl
    (fun f fn hf hfn => by
      obtain rfl : f = 6 := Option.some.inj ((show Tryd.prog.funcNamed "engraver/engraverlaw5.DeflateLong" = some 6 by kernel_rfl).symm.trans hf) |>.symm
      obtain rfl : fn = Tryd.f6 := (Option.some.inj (Tryd.func6.symm.trans hfn)).symm
      exact ⟨by kernel_rfl, fun j t ht => by
        rw [Tryd.params6] at ht
        have hm : t ∈ ([] : List TypeId) := by simpa using Array.mem_of_getElem? ht
        have hall : (([] : List TypeId).all fun u => !Tryd.prog.wantsStandIn u) = true := by kernel_rfl
        exact (show Tryd.prog.wantsStandIn t = false by simpa using List.all_eq_true.1 hall t hm)⟩)
    (by kernel_rfl)
#print axioms deflateLong_holds
end Go.Proofs.YtmefhngmgfmhoaaDoor
