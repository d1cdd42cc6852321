/-
  adam: the law's Model and Back.
-/
import Derived.Test.YtdnhndiaiejkoaaDoorRf
import Derived.Deep.RegionHeld3
namespace Go.Proofs.YtdnhndiaiejkoaaDoor
open Go.RowKit
set_option linter.unusedVariables false

theorem take_snocP (l : List Pz) (k : Nat) (h : k < l.length) : l.take (k + 1) = l.take k ++ [l.getD k default] := by
  rw [List.take_succ_eq_append_getElem h]
  simp [List.getD_eq_getElem?_getD, List.getElem?_eq_getElem h]

set_option maxHeartbeats 1600000 in
theorem model_c (a : Option Addr) (c : Nat) (l : List Pz) (w : World) (hl : LiesP w a l) (hlen : l.length ≤ 100000) :
    Calls Tryd.prog 9 #[.slice a l.length c] w fun e w' => ∃ v, e = .returned v ∧ OwnP 40 w' w.heap.size v l ∧ Fr (fun _ => False) w w' := by
  have Hl := hide hl
  clear hl
  go_enter Tryd.func9, Tryd.ntmps9
  go_wp2
  go_loopw [3, 4] (fun ov iv wr => ∃ (k : Nat) (va : Option Addr) (vc : Nat), k ≤ l.length ∧ iv = .int .i64 k ∧ ov = .slice va k vc ∧ Hid (OwnP 40 wr w.heap.size (.slice va k vc) (l.take k)) ∧ Hid (Fr (fun _ => False) w wr)) (fun _ iv _ => l.length - (intOf iv).toNat)
  case atStart => exact ⟨0, none, 0, by omega, rfl, rfl, OwnP.nil _ _ _, Fr.refl _ _⟩
  case round =>
    obtain ⟨k, va, vc, hkl, rfl, rfl, HO, HF⟩ := hrel
    by_cases hlt : k < l.length
    · obtain ⟨g, o, rfl, hA⟩ := Hl.out k hlt
      have h0 : (0 : Int) ≤ (k : Int) := by omega
      have h1 : (k : Int) < (l.length : Int) := by omega
      have HTS := hide (take_snocP l k hlt)
      generalize l.getD k default = q at *
      have HA := hide hA
      clear hA
      have hA2 := heap_alloc_new wr.drew (Obj.cells q.arr 40)
      have HF2 := hide (HF.out.join ((Fr.drew1 _ wr).join (Fr.of_alloc wr.drew (Obj.cells q.arr 40))))
      have HO2 := hide (HO.out.keep0 ((Fr.drew1 (fun _ => False) wr).join (Fr.of_alloc wr.drew (Obj.cells q.arr 40))))
      have HA2 := hide (At6.of hA2)
      have hl1 : Hid ((l.take k).length ≤ 100000) := by show _ ≤ _; rw [List.length_take]; omega
      have hlk : (l.take k).length = k := by rw [List.length_take]; omega
      have HLK := hide hlk
      obtain ⟨x, y, dx, dy, pw, ph⟩ := q
      obtain ⟨d0, d1, d2, d3, d4, d5⟩ := HA.out
      simp only [] at d0 d1 d2 d3 d4 d5
      clear hA2 hlk
      go_upto_region 5 with fail
      refine wp_region_held_drew (S := fun W' => Fr (fun _ => False) w W') (by kernel_rfl) (by exact HF.out.join (Fr.drew1 _ wr)) (fun hHeld => ?_)
      refine wpAnyH_take (i := 0) (v := ?v0) rfl (by kernel_rfl) (by kernel_rfl) (by kernel_rfl) (fun _ _ _ h => h) (Or.inl ⟨by rfl, ?hy0⟩) hHeld ?rest0
      case hy0 => (intro W hSw; (try dsimp only at hSw); have z0 := hSw.cell0 d0; have z1 := hSw.cell0 d1; have z2 := hSw.cell0 d2; have z3 := hSw.cell0 d3; have z4 := hSw.cell0 d4; have z5 := hSw.cell0 d5; go_simp; all_goals (with_reducible rfl))
      change wpAnyH _ _ _ _ _ _ _ (Act.put _ (some 11) _) _
      simp only [Act.put, List.setIfInBounds_toArray, List.set_cons_zero, List.set_cons_succ]
      refine wpAnyH_take (i := 1) (v := ?v1) rfl (by kernel_rfl) (by kernel_rfl) (by kernel_rfl) (fun _ _ _ h => h) (Or.inl ⟨by rfl, ?hy1⟩) hHeld ?rest1
      case hy1 => (intro W hSw; (try dsimp only at hSw); have z0 := hSw.cell0 d0; have z1 := hSw.cell0 d1; have z2 := hSw.cell0 d2; have z3 := hSw.cell0 d3; have z4 := hSw.cell0 d4; have z5 := hSw.cell0 d5; go_simp; all_goals (with_reducible rfl))
      change wpAnyH _ _ _ _ _ _ _ (Act.put _ (some 12) _) _
      simp only [Act.put, List.setIfInBounds_toArray, List.set_cons_zero, List.set_cons_succ]
      refine wpAnyH_take (i := 2) (v := ?v2) rfl (by kernel_rfl) (by kernel_rfl) (by kernel_rfl) (fun _ _ _ h => h) (Or.inl ⟨by rfl, ?hy2⟩) hHeld ?rest2
      case hy2 => (intro W hSw; (try dsimp only at hSw); have z0 := hSw.cell0 d0; have z1 := hSw.cell0 d1; have z2 := hSw.cell0 d2; have z3 := hSw.cell0 d3; have z4 := hSw.cell0 d4; have z5 := hSw.cell0 d5; go_simp; all_goals (with_reducible rfl))
      change wpAnyH _ _ _ _ _ _ _ (Act.put _ (some 13) _) _
      simp only [Act.put, List.setIfInBounds_toArray, List.set_cons_zero, List.set_cons_succ]
      refine wpAnyH_take (i := 6) (v := ?v6) rfl (by kernel_rfl) (by kernel_rfl) (by kernel_rfl) (fun _ _ _ h => h) (Or.inl ⟨by rfl, ?hy6⟩) hHeld ?rest6
      case hy6 => (intro W hSw; (try dsimp only at hSw); have z0 := hSw.cell0 d0; have z1 := hSw.cell0 d1; have z2 := hSw.cell0 d2; have z3 := hSw.cell0 d3; have z4 := hSw.cell0 d4; have z5 := hSw.cell0 d5; go_simp; all_goals (with_reducible rfl))
      change wpAnyH _ _ _ _ _ _ _ (Act.put _ (some 17) _) _
      simp only [Act.put, List.setIfInBounds_toArray, List.set_cons_zero, List.set_cons_succ]
      refine wpAnyH_take (i := 7) (v := ?v7) rfl (by kernel_rfl) (by kernel_rfl) (by kernel_rfl) (fun _ _ _ h => h) (Or.inl ⟨by rfl, ?hy7⟩) hHeld ?rest7
      case hy7 => (intro W hSw; (try dsimp only at hSw); have z0 := hSw.cell0 d0; have z1 := hSw.cell0 d1; have z2 := hSw.cell0 d2; have z3 := hSw.cell0 d3; have z4 := hSw.cell0 d4; have z5 := hSw.cell0 d5; go_simp; all_goals (with_reducible rfl))
      change wpAnyH _ _ _ _ _ _ _ (Act.put _ (some 18) _) _
      simp only [Act.put, List.setIfInBounds_toArray, List.set_cons_zero, List.set_cons_succ]
      refine wpAnyH_take (i := 11) (v := ?v11) rfl (by kernel_rfl) (by kernel_rfl) (by kernel_rfl) (fun _ _ _ h => h) (Or.inl ⟨by rfl, ?hy11⟩) hHeld ?rest11
      case hy11 => (intro W hSw; (try dsimp only at hSw); have z0 := hSw.cell0 d0; have z1 := hSw.cell0 d1; have z2 := hSw.cell0 d2; have z3 := hSw.cell0 d3; have z4 := hSw.cell0 d4; have z5 := hSw.cell0 d5; go_simp; all_goals (with_reducible rfl))
      change wpAnyH _ _ _ _ _ _ _ (Act.put _ (some 22) _) _
      simp only [Act.put, List.setIfInBounds_toArray, List.set_cons_zero, List.set_cons_succ]
      refine wpAnyH_take (i := 12) (v := ?v12) rfl (by kernel_rfl) (by kernel_rfl) (by kernel_rfl) (fun _ _ _ h => h) (Or.inl ⟨by rfl, ?hy12⟩) hHeld ?rest12
      case hy12 => (intro W hSw; (try dsimp only at hSw); have z0 := hSw.cell0 d0; have z1 := hSw.cell0 d1; have z2 := hSw.cell0 d2; have z3 := hSw.cell0 d3; have z4 := hSw.cell0 d4; have z5 := hSw.cell0 d5; go_simp; all_goals (with_reducible rfl))
      change wpAnyH _ _ _ _ _ _ _ (Act.put _ (some 23) _) _
      simp only [Act.put, List.setIfInBounds_toArray, List.set_cons_zero, List.set_cons_succ]
      refine wpAnyH_take (i := 16) (v := ?v16) rfl (by kernel_rfl) (by kernel_rfl) (by kernel_rfl) (fun _ _ _ h => h) (Or.inl ⟨by rfl, ?hy16⟩) hHeld ?rest16
      case hy16 => (intro W hSw; (try dsimp only at hSw); have z0 := hSw.cell0 d0; have z1 := hSw.cell0 d1; have z2 := hSw.cell0 d2; have z3 := hSw.cell0 d3; have z4 := hSw.cell0 d4; have z5 := hSw.cell0 d5; go_simp; all_goals (with_reducible rfl))
      change wpAnyH _ _ _ _ _ _ _ (Act.put _ (some 27) _) _
      simp only [Act.put, List.setIfInBounds_toArray, List.set_cons_zero, List.set_cons_succ]
      refine wpAnyH_take (i := 17) (v := ?v17) rfl (by kernel_rfl) (by kernel_rfl) (by kernel_rfl) (fun _ _ _ h => h) (Or.inl ⟨by rfl, ?hy17⟩) hHeld ?rest17
      case hy17 => (intro W hSw; (try dsimp only at hSw); have z0 := hSw.cell0 d0; have z1 := hSw.cell0 d1; have z2 := hSw.cell0 d2; have z3 := hSw.cell0 d3; have z4 := hSw.cell0 d4; have z5 := hSw.cell0 d5; go_simp; all_goals (with_reducible rfl))
      change wpAnyH _ _ _ _ _ _ _ (Act.put _ (some 28) _) _
      simp only [Act.put, List.setIfInBounds_toArray, List.set_cons_zero, List.set_cons_succ]
      refine wpAnyH_take (i := 21) (v := ?v21) rfl (by kernel_rfl) (by kernel_rfl) (by kernel_rfl) (fun _ _ _ h => h) (Or.inl ⟨by rfl, ?hy21⟩) hHeld ?rest21
      case hy21 => (intro W hSw; (try dsimp only at hSw); have z0 := hSw.cell0 d0; have z1 := hSw.cell0 d1; have z2 := hSw.cell0 d2; have z3 := hSw.cell0 d3; have z4 := hSw.cell0 d4; have z5 := hSw.cell0 d5; go_simp; all_goals (with_reducible rfl))
      change wpAnyH _ _ _ _ _ _ _ (Act.put _ (some 32) _) _
      simp only [Act.put, List.setIfInBounds_toArray, List.set_cons_zero, List.set_cons_succ]
      refine wpAnyH_take (i := 22) (v := ?v22) rfl (by kernel_rfl) (by kernel_rfl) (by kernel_rfl) (fun _ _ _ h => h) (Or.inl ⟨by rfl, ?hy22⟩) hHeld ?rest22
      case hy22 => (intro W hSw; (try dsimp only at hSw); have z0 := hSw.cell0 d0; have z1 := hSw.cell0 d1; have z2 := hSw.cell0 d2; have z3 := hSw.cell0 d3; have z4 := hSw.cell0 d4; have z5 := hSw.cell0 d5; go_simp; all_goals (with_reducible rfl))
      change wpAnyH _ _ _ _ _ _ _ (Act.put _ (some 33) _) _
      simp only [Act.put, List.setIfInBounds_toArray, List.set_cons_zero, List.set_cons_succ]
      refine wpAnyH_take (i := 26) (v := ?v26) rfl (by kernel_rfl) (by kernel_rfl) (by kernel_rfl) (fun _ _ _ h => h) (Or.inl ⟨by rfl, ?hy26⟩) hHeld ?rest26
      case hy26 => (intro W hSw; (try dsimp only at hSw); have z0 := hSw.cell0 d0; have z1 := hSw.cell0 d1; have z2 := hSw.cell0 d2; have z3 := hSw.cell0 d3; have z4 := hSw.cell0 d4; have z5 := hSw.cell0 d5; go_simp; all_goals (with_reducible rfl))
      change wpAnyH _ _ _ _ _ _ _ (Act.put _ (some 37) _) _
      simp only [Act.put, List.setIfInBounds_toArray, List.set_cons_zero, List.set_cons_succ]
      refine wpAnyH_take (i := 27) (v := ?v27) rfl (by kernel_rfl) (by kernel_rfl) (by kernel_rfl) (fun _ _ _ h => h) (Or.inl ⟨by rfl, ?hy27⟩) hHeld ?rest27
      case hy27 => (intro W hSw; (try dsimp only at hSw); have z0 := hSw.cell0 d0; have z1 := hSw.cell0 d1; have z2 := hSw.cell0 d2; have z3 := hSw.cell0 d3; have z4 := hSw.cell0 d4; have z5 := hSw.cell0 d5; go_simp; all_goals (with_reducible rfl))
      change wpAnyH _ _ _ _ _ _ _ (Act.put _ (some 38) _) _
      simp only [Act.put, List.setIfInBounds_toArray, List.set_cons_zero, List.set_cons_succ]
      refine wpAnyH_take (i := 3) (v := ?v3) rfl (by kernel_rfl) (by kernel_rfl) (by kernel_rfl) (fun _ _ _ h => h) (Or.inl ⟨by rfl, ?hy3⟩) hHeld ?rest3
      case hy3 => (intro W hSw; (try dsimp only at hSw); have z0 := hSw.cell0 d0; have z1 := hSw.cell0 d1; have z2 := hSw.cell0 d2; have z3 := hSw.cell0 d3; have z4 := hSw.cell0 d4; have z5 := hSw.cell0 d5; go_simp; all_goals (with_reducible rfl))
      change wpAnyH _ _ _ _ _ _ _ (Act.put _ (some 14) _) _
      simp only [Act.put, List.setIfInBounds_toArray, List.set_cons_zero, List.set_cons_succ]
      refine wpAnyH_take (i := 8) (v := ?v8) rfl (by kernel_rfl) (by kernel_rfl) (by kernel_rfl) (fun _ _ _ h => h) (Or.inl ⟨by rfl, ?hy8⟩) hHeld ?rest8
      case hy8 => (intro W hSw; (try dsimp only at hSw); have z0 := hSw.cell0 d0; have z1 := hSw.cell0 d1; have z2 := hSw.cell0 d2; have z3 := hSw.cell0 d3; have z4 := hSw.cell0 d4; have z5 := hSw.cell0 d5; go_simp; all_goals (with_reducible rfl))
      change wpAnyH _ _ _ _ _ _ _ (Act.put _ (some 19) _) _
      simp only [Act.put, List.setIfInBounds_toArray, List.set_cons_zero, List.set_cons_succ]
      refine wpAnyH_take (i := 13) (v := ?v13) rfl (by kernel_rfl) (by kernel_rfl) (by kernel_rfl) (fun _ _ _ h => h) (Or.inl ⟨by rfl, ?hy13⟩) hHeld ?rest13
      case hy13 => (intro W hSw; (try dsimp only at hSw); have z0 := hSw.cell0 d0; have z1 := hSw.cell0 d1; have z2 := hSw.cell0 d2; have z3 := hSw.cell0 d3; have z4 := hSw.cell0 d4; have z5 := hSw.cell0 d5; go_simp; all_goals (with_reducible rfl))
      change wpAnyH _ _ _ _ _ _ _ (Act.put _ (some 24) _) _
      simp only [Act.put, List.setIfInBounds_toArray, List.set_cons_zero, List.set_cons_succ]
      refine wpAnyH_take (i := 18) (v := ?v18) rfl (by kernel_rfl) (by kernel_rfl) (by kernel_rfl) (fun _ _ _ h => h) (Or.inl ⟨by rfl, ?hy18⟩) hHeld ?rest18
      case hy18 => (intro W hSw; (try dsimp only at hSw); have z0 := hSw.cell0 d0; have z1 := hSw.cell0 d1; have z2 := hSw.cell0 d2; have z3 := hSw.cell0 d3; have z4 := hSw.cell0 d4; have z5 := hSw.cell0 d5; go_simp; all_goals (with_reducible rfl))
      change wpAnyH _ _ _ _ _ _ _ (Act.put _ (some 29) _) _
      simp only [Act.put, List.setIfInBounds_toArray, List.set_cons_zero, List.set_cons_succ]
      refine wpAnyH_take (i := 23) (v := ?v23) rfl (by kernel_rfl) (by kernel_rfl) (by kernel_rfl) (fun _ _ _ h => h) (Or.inl ⟨by rfl, ?hy23⟩) hHeld ?rest23
      case hy23 => (intro W hSw; (try dsimp only at hSw); have z0 := hSw.cell0 d0; have z1 := hSw.cell0 d1; have z2 := hSw.cell0 d2; have z3 := hSw.cell0 d3; have z4 := hSw.cell0 d4; have z5 := hSw.cell0 d5; go_simp; all_goals (with_reducible rfl))
      change wpAnyH _ _ _ _ _ _ _ (Act.put _ (some 34) _) _
      simp only [Act.put, List.setIfInBounds_toArray, List.set_cons_zero, List.set_cons_succ]
      refine wpAnyH_take (i := 28) (v := ?v28) rfl (by kernel_rfl) (by kernel_rfl) (by kernel_rfl) (fun _ _ _ h => h) (Or.inl ⟨by rfl, ?hy28⟩) hHeld ?rest28
      case hy28 => (intro W hSw; (try dsimp only at hSw); have z0 := hSw.cell0 d0; have z1 := hSw.cell0 d1; have z2 := hSw.cell0 d2; have z3 := hSw.cell0 d3; have z4 := hSw.cell0 d4; have z5 := hSw.cell0 d5; go_simp; all_goals (with_reducible rfl))
      change wpAnyH _ _ _ _ _ _ _ (Act.put _ (some 39) _) _
      simp only [Act.put, List.setIfInBounds_toArray, List.set_cons_zero, List.set_cons_succ]
      refine wpAnyH_take (i := 4) (v := ?v4) rfl (by kernel_rfl) (by kernel_rfl) (by kernel_rfl) (fun _ _ _ h => h) (Or.inl ⟨by rfl, ?hy4⟩) hHeld ?rest4
      case hy4 => (intro W hSw; (try dsimp only at hSw); have z0 := hSw.cell0 d0; have z1 := hSw.cell0 d1; have z2 := hSw.cell0 d2; have z3 := hSw.cell0 d3; have z4 := hSw.cell0 d4; have z5 := hSw.cell0 d5; go_simp; all_goals (with_reducible rfl))
      change wpAnyH _ _ _ _ _ _ _ (Act.put _ (some 15) _) _
      simp only [Act.put, List.setIfInBounds_toArray, List.set_cons_zero, List.set_cons_succ]
      refine wpAnyH_take (i := 9) (v := ?v9) rfl (by kernel_rfl) (by kernel_rfl) (by kernel_rfl) (fun _ _ _ h => h) (Or.inl ⟨by rfl, ?hy9⟩) hHeld ?rest9
      case hy9 => (intro W hSw; (try dsimp only at hSw); have z0 := hSw.cell0 d0; have z1 := hSw.cell0 d1; have z2 := hSw.cell0 d2; have z3 := hSw.cell0 d3; have z4 := hSw.cell0 d4; have z5 := hSw.cell0 d5; go_simp; all_goals (with_reducible rfl))
      change wpAnyH _ _ _ _ _ _ _ (Act.put _ (some 20) _) _
      simp only [Act.put, List.setIfInBounds_toArray, List.set_cons_zero, List.set_cons_succ]
      refine wpAnyH_take (i := 14) (v := ?v14) rfl (by kernel_rfl) (by kernel_rfl) (by kernel_rfl) (fun _ _ _ h => h) (Or.inl ⟨by rfl, ?hy14⟩) hHeld ?rest14
      case hy14 => (intro W hSw; (try dsimp only at hSw); have z0 := hSw.cell0 d0; have z1 := hSw.cell0 d1; have z2 := hSw.cell0 d2; have z3 := hSw.cell0 d3; have z4 := hSw.cell0 d4; have z5 := hSw.cell0 d5; go_simp; all_goals (with_reducible rfl))
      change wpAnyH _ _ _ _ _ _ _ (Act.put _ (some 25) _) _
      simp only [Act.put, List.setIfInBounds_toArray, List.set_cons_zero, List.set_cons_succ]
      refine wpAnyH_take (i := 19) (v := ?v19) rfl (by kernel_rfl) (by kernel_rfl) (by kernel_rfl) (fun _ _ _ h => h) (Or.inl ⟨by rfl, ?hy19⟩) hHeld ?rest19
      case hy19 => (intro W hSw; (try dsimp only at hSw); have z0 := hSw.cell0 d0; have z1 := hSw.cell0 d1; have z2 := hSw.cell0 d2; have z3 := hSw.cell0 d3; have z4 := hSw.cell0 d4; have z5 := hSw.cell0 d5; go_simp; all_goals (with_reducible rfl))
      change wpAnyH _ _ _ _ _ _ _ (Act.put _ (some 30) _) _
      simp only [Act.put, List.setIfInBounds_toArray, List.set_cons_zero, List.set_cons_succ]
      refine wpAnyH_take (i := 24) (v := ?v24) rfl (by kernel_rfl) (by kernel_rfl) (by kernel_rfl) (fun _ _ _ h => h) (Or.inl ⟨by rfl, ?hy24⟩) hHeld ?rest24
      case hy24 => (intro W hSw; (try dsimp only at hSw); have z0 := hSw.cell0 d0; have z1 := hSw.cell0 d1; have z2 := hSw.cell0 d2; have z3 := hSw.cell0 d3; have z4 := hSw.cell0 d4; have z5 := hSw.cell0 d5; go_simp; all_goals (with_reducible rfl))
      change wpAnyH _ _ _ _ _ _ _ (Act.put _ (some 35) _) _
      simp only [Act.put, List.setIfInBounds_toArray, List.set_cons_zero, List.set_cons_succ]
      refine wpAnyH_take (i := 29) (v := ?v29) rfl (by kernel_rfl) (by kernel_rfl) (by kernel_rfl) (fun _ _ _ h => h) (Or.inl ⟨by rfl, ?hy29⟩) hHeld ?rest29
      case hy29 => (intro W hSw; (try dsimp only at hSw); have z0 := hSw.cell0 d0; have z1 := hSw.cell0 d1; have z2 := hSw.cell0 d2; have z3 := hSw.cell0 d3; have z4 := hSw.cell0 d4; have z5 := hSw.cell0 d5; go_simp; all_goals (with_reducible rfl))
      change wpAnyH _ _ _ _ _ _ _ (Act.put _ (some 40) _) _
      simp only [Act.put, List.setIfInBounds_toArray, List.set_cons_zero, List.set_cons_succ]
      refine wpAnyH_take (i := 5) (v := ?v5) rfl (by kernel_rfl) (by kernel_rfl) (by kernel_rfl) (fun _ _ _ h => h) (Or.inl ⟨by rfl, ?hy5⟩) hHeld ?rest5
      case hy5 => (intro W hSw; (try dsimp only at hSw); have z0 := hSw.cell0 d0; have z1 := hSw.cell0 d1; have z2 := hSw.cell0 d2; have z3 := hSw.cell0 d3; have z4 := hSw.cell0 d4; have z5 := hSw.cell0 d5; go_simp; all_goals (with_reducible rfl))
      change wpAnyH _ _ _ _ _ _ _ (Act.put _ (some 16) _) _
      simp only [Act.put, List.setIfInBounds_toArray, List.set_cons_zero, List.set_cons_succ]
      refine wpAnyH_take (i := 10) (v := ?v10) rfl (by kernel_rfl) (by kernel_rfl) (by kernel_rfl) (fun _ _ _ h => h) (Or.inl ⟨by rfl, ?hy10⟩) hHeld ?rest10
      case hy10 => (intro W hSw; (try dsimp only at hSw); have z0 := hSw.cell0 d0; have z1 := hSw.cell0 d1; have z2 := hSw.cell0 d2; have z3 := hSw.cell0 d3; have z4 := hSw.cell0 d4; have z5 := hSw.cell0 d5; go_simp; all_goals (with_reducible rfl))
      change wpAnyH _ _ _ _ _ _ _ (Act.put _ (some 21) _) _
      simp only [Act.put, List.setIfInBounds_toArray, List.set_cons_zero, List.set_cons_succ]
      refine wpAnyH_take (i := 15) (v := ?v15) rfl (by kernel_rfl) (by kernel_rfl) (by kernel_rfl) (fun _ _ _ h => h) (Or.inl ⟨by rfl, ?hy15⟩) hHeld ?rest15
      case hy15 => (intro W hSw; (try dsimp only at hSw); have z0 := hSw.cell0 d0; have z1 := hSw.cell0 d1; have z2 := hSw.cell0 d2; have z3 := hSw.cell0 d3; have z4 := hSw.cell0 d4; have z5 := hSw.cell0 d5; go_simp; all_goals (with_reducible rfl))
      change wpAnyH _ _ _ _ _ _ _ (Act.put _ (some 26) _) _
      simp only [Act.put, List.setIfInBounds_toArray, List.set_cons_zero, List.set_cons_succ]
      refine wpAnyH_take (i := 20) (v := ?v20) rfl (by kernel_rfl) (by kernel_rfl) (by kernel_rfl) (fun _ _ _ h => h) (Or.inl ⟨by rfl, ?hy20⟩) hHeld ?rest20
      case hy20 => (intro W hSw; (try dsimp only at hSw); have z0 := hSw.cell0 d0; have z1 := hSw.cell0 d1; have z2 := hSw.cell0 d2; have z3 := hSw.cell0 d3; have z4 := hSw.cell0 d4; have z5 := hSw.cell0 d5; go_simp; all_goals (with_reducible rfl))
      change wpAnyH _ _ _ _ _ _ _ (Act.put _ (some 31) _) _
      simp only [Act.put, List.setIfInBounds_toArray, List.set_cons_zero, List.set_cons_succ]
      refine wpAnyH_take (i := 25) (v := ?v25) rfl (by kernel_rfl) (by kernel_rfl) (by kernel_rfl) (fun _ _ _ h => h) (Or.inl ⟨by rfl, ?hy25⟩) hHeld ?rest25
      case hy25 => (intro W hSw; (try dsimp only at hSw); have z0 := hSw.cell0 d0; have z1 := hSw.cell0 d1; have z2 := hSw.cell0 d2; have z3 := hSw.cell0 d3; have z4 := hSw.cell0 d4; have z5 := hSw.cell0 d5; go_simp; all_goals (with_reducible rfl))
      change wpAnyH _ _ _ _ _ _ _ (Act.put _ (some 36) _) _
      simp only [Act.put, List.setIfInBounds_toArray, List.set_cons_zero, List.set_cons_succ]
      refine wpAnyH_take (i := 30) (v := ?v30) rfl (by kernel_rfl) (by kernel_rfl) (by kernel_rfl) (fun _ _ _ h => h) (Or.inl ⟨by rfl, ?hy30⟩) hHeld ?rest30
      case hy30 => (intro W hSw; (try dsimp only at hSw); have z0 := hSw.cell0 d0; have z1 := hSw.cell0 d1; have z2 := hSw.cell0 d2; have z3 := hSw.cell0 d3; have z4 := hSw.cell0 d4; have z5 := hSw.cell0 d5; go_simp; all_goals (with_reducible rfl))
      change wpAnyH _ _ _ _ _ _ _ (Act.put _ (some 41) _) _
      simp only [Act.put, List.setIfInBounds_toArray, List.set_cons_zero, List.set_cons_succ]
      refine wpAnyH_take (i := 31) (v := ?v31) rfl (by kernel_rfl) (by kernel_rfl) (by kernel_rfl) (fun _ _ _ h => h) (Or.inl ⟨by rfl, ?hy31⟩) hHeld ?rest31
      case hy31 => (intro W hSw; (try dsimp only at hSw); have z0 := hSw.cell0 d0; have z1 := hSw.cell0 d1; have z2 := hSw.cell0 d2; have z3 := hSw.cell0 d3; have z4 := hSw.cell0 d4; have z5 := hSw.cell0 d5; go_simp; all_goals (with_reducible rfl))
      change wpAnyH _ _ _ _ _ _ _ (Act.put _ (some 42) _) _
      simp only [Act.put, List.setIfInBounds_toArray, List.set_cons_zero, List.set_cons_succ]
      refine wpAnyH_ready (rs := [32]) (by kernel_rfl) (by simp) ?_
      refine AllReadyH.cons rfl (fun K hK => ?_) AllReadyH.nil
      try simp only [List.getElem_toArray, List.getElem_cons_succ, List.getElem_cons_zero]
      go_simp
      refine hK.out _ _ HF2.out (fun hHeld => ?_)
      clear hK K
      refine wpAnyH_ready (rs := [33]) (by kernel_rfl) (by simp) ?_
      refine AllReadyH.cons rfl (fun K hK => ?_) AllReadyH.nil
      try simp only [List.getElem_toArray, List.getElem_cons_succ, List.getElem_cons_zero]
      rw [if_pos (by rfl)]
      refine wp_appP 40 24 _ _ Tryd.underlying24 Tryd.info40 rfl w.heap.size _ (l.take k) rfl HO2.out wr.heap.size 1 ⟨x, y, dx, dy, pw, ph⟩ rfl HA2.out hl1.out HF2.out.size ?_
      rintro a7 c7 w7 ho7 hf7
      have HF7 := hide (fr_ownP HF2.out HO2.out (Nat.le_refl _) hf7)
      refine hK.out _ _ HF7.out (fun hHeld => ?_)
      clear hK K
      refine wpAnyH_take (i := 34) (v := ?v34) rfl (by kernel_rfl) (by kernel_rfl) (by kernel_rfl) (fun _ _ _ h => h) (Or.inl ⟨by rfl, ?hy34⟩) hHeld ?rest34
      case hy34 => (intro W hSw; (try dsimp only at hSw); have z0 := hSw.cell0 d0; have z1 := hSw.cell0 d1; have z2 := hSw.cell0 d2; have z3 := hSw.cell0 d3; have z4 := hSw.cell0 d4; have z5 := hSw.cell0 d5; go_simp; all_goals (with_reducible rfl))
      change wpAnyH _ _ _ _ _ _ _ (Act.put _ (some 3) _) _
      simp only [Act.put, List.setIfInBounds_toArray, List.set_cons_zero, List.set_cons_succ]
      refine wpAnyH_done (by kernel_rfl) ?_ _
      rw [← HTS.out, HLK.out] at ho7
      have HO7 := hide ho7
      clear HO HF hf7 hHeld ho7
      go_wp2
      go_roundw
      case rel => exact ⟨k + 1, a7, c7, hlt, by go_num, rfl, HO7.out, HF7.out⟩
      case measure => simp [intOf]; omega
    · have hke : k = l.length := by omega
      subst hke
      rw [List.take_length] at HO
      go_wp2
      go_ret
      exact ⟨_, rfl, HO.out, HF.out⟩

set_option maxHeartbeats 1600000 in
theorem lback_c (a : Option Addr) (c : Nat) (l : List Pz) (w : World) (hl : LiesP w a l) (hlen : l.length ≤ 100000) :
    Calls Tryd.prog 15 #[.slice a l.length c] w fun e w' => ∃ v, e = .returned v ∧ OwnP 32 w' w.heap.size v l ∧ Fr (fun _ => False) w w' := by
  have Hl := hide hl
  clear hl
  go_enter Tryd.func15, Tryd.ntmps15
  go_wp2
  go_loopw [3, 4] (fun ov iv wr => ∃ (k : Nat) (va : Option Addr) (vc : Nat), k ≤ l.length ∧ iv = .int .i64 k ∧ ov = .slice va k vc ∧ Hid (OwnP 32 wr w.heap.size (.slice va k vc) (l.take k)) ∧ Hid (Fr (fun _ => False) w wr)) (fun _ iv _ => l.length - (intOf iv).toNat)
  case atStart => exact ⟨0, none, 0, by omega, rfl, rfl, OwnP.nil _ _ _, Fr.refl _ _⟩
  case round =>
    obtain ⟨k, va, vc, hkl, rfl, rfl, HO, HF⟩ := hrel
    by_cases hlt : k < l.length
    · obtain ⟨g, o, rfl, hA⟩ := Hl.out k hlt
      have h0 : (0 : Int) ≤ (k : Int) := by omega
      have h1 : (k : Int) < (l.length : Int) := by omega
      have HTS := hide (take_snocP l k hlt)
      generalize l.getD k default = q at *
      have HA := hide hA
      clear hA
      have hA2 := heap_alloc_new wr.drew (Obj.cells q.arr 32)
      have HF2 := hide (HF.out.join ((Fr.drew1 _ wr).join (Fr.of_alloc wr.drew (Obj.cells q.arr 32))))
      have HO2 := hide (HO.out.keep0 ((Fr.drew1 (fun _ => False) wr).join (Fr.of_alloc wr.drew (Obj.cells q.arr 32))))
      have HA2 := hide (At6.of hA2)
      have hl1 : Hid ((l.take k).length ≤ 100000) := by show _ ≤ _; rw [List.length_take]; omega
      have hlk : (l.take k).length = k := by rw [List.length_take]; omega
      have HLK := hide hlk
      obtain ⟨x, y, dx, dy, pw, ph⟩ := q
      obtain ⟨d0, d1, d2, d3, d4, d5⟩ := HA.out
      simp only [] at d0 d1 d2 d3 d4 d5
      clear hA2 hlk
      go_upto_region 5 with fail
      refine wp_region_held_drew (S := fun W' => Fr (fun _ => False) w W') (by kernel_rfl) (by exact HF.out.join (Fr.drew1 _ wr)) (fun hHeld => ?_)
      refine wpAnyH_take (i := 0) (v := ?v0) rfl (by kernel_rfl) (by kernel_rfl) (by kernel_rfl) (fun _ _ _ h => h) (Or.inl ⟨by rfl, ?hy0⟩) hHeld ?rest0
      case hy0 => (intro W hSw; (try dsimp only at hSw); have z0 := hSw.cell0 d0; have z1 := hSw.cell0 d1; have z2 := hSw.cell0 d2; have z3 := hSw.cell0 d3; have z4 := hSw.cell0 d4; have z5 := hSw.cell0 d5; go_simp; all_goals (with_reducible rfl))
      change wpAnyH _ _ _ _ _ _ _ (Act.put _ (some 11) _) _
      simp only [Act.put, List.setIfInBounds_toArray, List.set_cons_zero, List.set_cons_succ]
      refine wpAnyH_take (i := 1) (v := ?v1) rfl (by kernel_rfl) (by kernel_rfl) (by kernel_rfl) (fun _ _ _ h => h) (Or.inl ⟨by rfl, ?hy1⟩) hHeld ?rest1
      case hy1 => (intro W hSw; (try dsimp only at hSw); have z0 := hSw.cell0 d0; have z1 := hSw.cell0 d1; have z2 := hSw.cell0 d2; have z3 := hSw.cell0 d3; have z4 := hSw.cell0 d4; have z5 := hSw.cell0 d5; go_simp; all_goals (with_reducible rfl))
      change wpAnyH _ _ _ _ _ _ _ (Act.put _ (some 12) _) _
      simp only [Act.put, List.setIfInBounds_toArray, List.set_cons_zero, List.set_cons_succ]
      refine wpAnyH_take (i := 2) (v := ?v2) rfl (by kernel_rfl) (by kernel_rfl) (by kernel_rfl) (fun _ _ _ h => h) (Or.inl ⟨by rfl, ?hy2⟩) hHeld ?rest2
      case hy2 => (intro W hSw; (try dsimp only at hSw); have z0 := hSw.cell0 d0; have z1 := hSw.cell0 d1; have z2 := hSw.cell0 d2; have z3 := hSw.cell0 d3; have z4 := hSw.cell0 d4; have z5 := hSw.cell0 d5; go_simp; all_goals (with_reducible rfl))
      change wpAnyH _ _ _ _ _ _ _ (Act.put _ (some 13) _) _
      simp only [Act.put, List.setIfInBounds_toArray, List.set_cons_zero, List.set_cons_succ]
      refine wpAnyH_take (i := 6) (v := ?v6) rfl (by kernel_rfl) (by kernel_rfl) (by kernel_rfl) (fun _ _ _ h => h) (Or.inl ⟨by rfl, ?hy6⟩) hHeld ?rest6
      case hy6 => (intro W hSw; (try dsimp only at hSw); have z0 := hSw.cell0 d0; have z1 := hSw.cell0 d1; have z2 := hSw.cell0 d2; have z3 := hSw.cell0 d3; have z4 := hSw.cell0 d4; have z5 := hSw.cell0 d5; go_simp; all_goals (with_reducible rfl))
      change wpAnyH _ _ _ _ _ _ _ (Act.put _ (some 17) _) _
      simp only [Act.put, List.setIfInBounds_toArray, List.set_cons_zero, List.set_cons_succ]
      refine wpAnyH_take (i := 7) (v := ?v7) rfl (by kernel_rfl) (by kernel_rfl) (by kernel_rfl) (fun _ _ _ h => h) (Or.inl ⟨by rfl, ?hy7⟩) hHeld ?rest7
      case hy7 => (intro W hSw; (try dsimp only at hSw); have z0 := hSw.cell0 d0; have z1 := hSw.cell0 d1; have z2 := hSw.cell0 d2; have z3 := hSw.cell0 d3; have z4 := hSw.cell0 d4; have z5 := hSw.cell0 d5; go_simp; all_goals (with_reducible rfl))
      change wpAnyH _ _ _ _ _ _ _ (Act.put _ (some 18) _) _
      simp only [Act.put, List.setIfInBounds_toArray, List.set_cons_zero, List.set_cons_succ]
      refine wpAnyH_take (i := 11) (v := ?v11) rfl (by kernel_rfl) (by kernel_rfl) (by kernel_rfl) (fun _ _ _ h => h) (Or.inl ⟨by rfl, ?hy11⟩) hHeld ?rest11
      case hy11 => (intro W hSw; (try dsimp only at hSw); have z0 := hSw.cell0 d0; have z1 := hSw.cell0 d1; have z2 := hSw.cell0 d2; have z3 := hSw.cell0 d3; have z4 := hSw.cell0 d4; have z5 := hSw.cell0 d5; go_simp; all_goals (with_reducible rfl))
      change wpAnyH _ _ _ _ _ _ _ (Act.put _ (some 22) _) _
      simp only [Act.put, List.setIfInBounds_toArray, List.set_cons_zero, List.set_cons_succ]
      refine wpAnyH_take (i := 12) (v := ?v12) rfl (by kernel_rfl) (by kernel_rfl) (by kernel_rfl) (fun _ _ _ h => h) (Or.inl ⟨by rfl, ?hy12⟩) hHeld ?rest12
      case hy12 => (intro W hSw; (try dsimp only at hSw); have z0 := hSw.cell0 d0; have z1 := hSw.cell0 d1; have z2 := hSw.cell0 d2; have z3 := hSw.cell0 d3; have z4 := hSw.cell0 d4; have z5 := hSw.cell0 d5; go_simp; all_goals (with_reducible rfl))
      change wpAnyH _ _ _ _ _ _ _ (Act.put _ (some 23) _) _
      simp only [Act.put, List.setIfInBounds_toArray, List.set_cons_zero, List.set_cons_succ]
      refine wpAnyH_take (i := 16) (v := ?v16) rfl (by kernel_rfl) (by kernel_rfl) (by kernel_rfl) (fun _ _ _ h => h) (Or.inl ⟨by rfl, ?hy16⟩) hHeld ?rest16
      case hy16 => (intro W hSw; (try dsimp only at hSw); have z0 := hSw.cell0 d0; have z1 := hSw.cell0 d1; have z2 := hSw.cell0 d2; have z3 := hSw.cell0 d3; have z4 := hSw.cell0 d4; have z5 := hSw.cell0 d5; go_simp; all_goals (with_reducible rfl))
      change wpAnyH _ _ _ _ _ _ _ (Act.put _ (some 27) _) _
      simp only [Act.put, List.setIfInBounds_toArray, List.set_cons_zero, List.set_cons_succ]
      refine wpAnyH_take (i := 17) (v := ?v17) rfl (by kernel_rfl) (by kernel_rfl) (by kernel_rfl) (fun _ _ _ h => h) (Or.inl ⟨by rfl, ?hy17⟩) hHeld ?rest17
      case hy17 => (intro W hSw; (try dsimp only at hSw); have z0 := hSw.cell0 d0; have z1 := hSw.cell0 d1; have z2 := hSw.cell0 d2; have z3 := hSw.cell0 d3; have z4 := hSw.cell0 d4; have z5 := hSw.cell0 d5; go_simp; all_goals (with_reducible rfl))
      change wpAnyH _ _ _ _ _ _ _ (Act.put _ (some 28) _) _
      simp only [Act.put, List.setIfInBounds_toArray, List.set_cons_zero, List.set_cons_succ]
      refine wpAnyH_take (i := 21) (v := ?v21) rfl (by kernel_rfl) (by kernel_rfl) (by kernel_rfl) (fun _ _ _ h => h) (Or.inl ⟨by rfl, ?hy21⟩) hHeld ?rest21
      case hy21 => (intro W hSw; (try dsimp only at hSw); have z0 := hSw.cell0 d0; have z1 := hSw.cell0 d1; have z2 := hSw.cell0 d2; have z3 := hSw.cell0 d3; have z4 := hSw.cell0 d4; have z5 := hSw.cell0 d5; go_simp; all_goals (with_reducible rfl))
      change wpAnyH _ _ _ _ _ _ _ (Act.put _ (some 32) _) _
      simp only [Act.put, List.setIfInBounds_toArray, List.set_cons_zero, List.set_cons_succ]
      refine wpAnyH_take (i := 22) (v := ?v22) rfl (by kernel_rfl) (by kernel_rfl) (by kernel_rfl) (fun _ _ _ h => h) (Or.inl ⟨by rfl, ?hy22⟩) hHeld ?rest22
      case hy22 => (intro W hSw; (try dsimp only at hSw); have z0 := hSw.cell0 d0; have z1 := hSw.cell0 d1; have z2 := hSw.cell0 d2; have z3 := hSw.cell0 d3; have z4 := hSw.cell0 d4; have z5 := hSw.cell0 d5; go_simp; all_goals (with_reducible rfl))
      change wpAnyH _ _ _ _ _ _ _ (Act.put _ (some 33) _) _
      simp only [Act.put, List.setIfInBounds_toArray, List.set_cons_zero, List.set_cons_succ]
      refine wpAnyH_take (i := 26) (v := ?v26) rfl (by kernel_rfl) (by kernel_rfl) (by kernel_rfl) (fun _ _ _ h => h) (Or.inl ⟨by rfl, ?hy26⟩) hHeld ?rest26
      case hy26 => (intro W hSw; (try dsimp only at hSw); have z0 := hSw.cell0 d0; have z1 := hSw.cell0 d1; have z2 := hSw.cell0 d2; have z3 := hSw.cell0 d3; have z4 := hSw.cell0 d4; have z5 := hSw.cell0 d5; go_simp; all_goals (with_reducible rfl))
      change wpAnyH _ _ _ _ _ _ _ (Act.put _ (some 37) _) _
      simp only [Act.put, List.setIfInBounds_toArray, List.set_cons_zero, List.set_cons_succ]
      refine wpAnyH_take (i := 27) (v := ?v27) rfl (by kernel_rfl) (by kernel_rfl) (by kernel_rfl) (fun _ _ _ h => h) (Or.inl ⟨by rfl, ?hy27⟩) hHeld ?rest27
      case hy27 => (intro W hSw; (try dsimp only at hSw); have z0 := hSw.cell0 d0; have z1 := hSw.cell0 d1; have z2 := hSw.cell0 d2; have z3 := hSw.cell0 d3; have z4 := hSw.cell0 d4; have z5 := hSw.cell0 d5; go_simp; all_goals (with_reducible rfl))
      change wpAnyH _ _ _ _ _ _ _ (Act.put _ (some 38) _) _
      simp only [Act.put, List.setIfInBounds_toArray, List.set_cons_zero, List.set_cons_succ]
      refine wpAnyH_take (i := 3) (v := ?v3) rfl (by kernel_rfl) (by kernel_rfl) (by kernel_rfl) (fun _ _ _ h => h) (Or.inl ⟨by rfl, ?hy3⟩) hHeld ?rest3
      case hy3 => (intro W hSw; (try dsimp only at hSw); have z0 := hSw.cell0 d0; have z1 := hSw.cell0 d1; have z2 := hSw.cell0 d2; have z3 := hSw.cell0 d3; have z4 := hSw.cell0 d4; have z5 := hSw.cell0 d5; go_simp; all_goals (with_reducible rfl))
      change wpAnyH _ _ _ _ _ _ _ (Act.put _ (some 14) _) _
      simp only [Act.put, List.setIfInBounds_toArray, List.set_cons_zero, List.set_cons_succ]
      refine wpAnyH_take (i := 8) (v := ?v8) rfl (by kernel_rfl) (by kernel_rfl) (by kernel_rfl) (fun _ _ _ h => h) (Or.inl ⟨by rfl, ?hy8⟩) hHeld ?rest8
      case hy8 => (intro W hSw; (try dsimp only at hSw); have z0 := hSw.cell0 d0; have z1 := hSw.cell0 d1; have z2 := hSw.cell0 d2; have z3 := hSw.cell0 d3; have z4 := hSw.cell0 d4; have z5 := hSw.cell0 d5; go_simp; all_goals (with_reducible rfl))
      change wpAnyH _ _ _ _ _ _ _ (Act.put _ (some 19) _) _
      simp only [Act.put, List.setIfInBounds_toArray, List.set_cons_zero, List.set_cons_succ]
      refine wpAnyH_take (i := 13) (v := ?v13) rfl (by kernel_rfl) (by kernel_rfl) (by kernel_rfl) (fun _ _ _ h => h) (Or.inl ⟨by rfl, ?hy13⟩) hHeld ?rest13
      case hy13 => (intro W hSw; (try dsimp only at hSw); have z0 := hSw.cell0 d0; have z1 := hSw.cell0 d1; have z2 := hSw.cell0 d2; have z3 := hSw.cell0 d3; have z4 := hSw.cell0 d4; have z5 := hSw.cell0 d5; go_simp; all_goals (with_reducible rfl))
      change wpAnyH _ _ _ _ _ _ _ (Act.put _ (some 24) _) _
      simp only [Act.put, List.setIfInBounds_toArray, List.set_cons_zero, List.set_cons_succ]
      refine wpAnyH_take (i := 18) (v := ?v18) rfl (by kernel_rfl) (by kernel_rfl) (by kernel_rfl) (fun _ _ _ h => h) (Or.inl ⟨by rfl, ?hy18⟩) hHeld ?rest18
      case hy18 => (intro W hSw; (try dsimp only at hSw); have z0 := hSw.cell0 d0; have z1 := hSw.cell0 d1; have z2 := hSw.cell0 d2; have z3 := hSw.cell0 d3; have z4 := hSw.cell0 d4; have z5 := hSw.cell0 d5; go_simp; all_goals (with_reducible rfl))
      change wpAnyH _ _ _ _ _ _ _ (Act.put _ (some 29) _) _
      simp only [Act.put, List.setIfInBounds_toArray, List.set_cons_zero, List.set_cons_succ]
      refine wpAnyH_take (i := 23) (v := ?v23) rfl (by kernel_rfl) (by kernel_rfl) (by kernel_rfl) (fun _ _ _ h => h) (Or.inl ⟨by rfl, ?hy23⟩) hHeld ?rest23
      case hy23 => (intro W hSw; (try dsimp only at hSw); have z0 := hSw.cell0 d0; have z1 := hSw.cell0 d1; have z2 := hSw.cell0 d2; have z3 := hSw.cell0 d3; have z4 := hSw.cell0 d4; have z5 := hSw.cell0 d5; go_simp; all_goals (with_reducible rfl))
      change wpAnyH _ _ _ _ _ _ _ (Act.put _ (some 34) _) _
      simp only [Act.put, List.setIfInBounds_toArray, List.set_cons_zero, List.set_cons_succ]
      refine wpAnyH_take (i := 28) (v := ?v28) rfl (by kernel_rfl) (by kernel_rfl) (by kernel_rfl) (fun _ _ _ h => h) (Or.inl ⟨by rfl, ?hy28⟩) hHeld ?rest28
      case hy28 => (intro W hSw; (try dsimp only at hSw); have z0 := hSw.cell0 d0; have z1 := hSw.cell0 d1; have z2 := hSw.cell0 d2; have z3 := hSw.cell0 d3; have z4 := hSw.cell0 d4; have z5 := hSw.cell0 d5; go_simp; all_goals (with_reducible rfl))
      change wpAnyH _ _ _ _ _ _ _ (Act.put _ (some 39) _) _
      simp only [Act.put, List.setIfInBounds_toArray, List.set_cons_zero, List.set_cons_succ]
      refine wpAnyH_take (i := 4) (v := ?v4) rfl (by kernel_rfl) (by kernel_rfl) (by kernel_rfl) (fun _ _ _ h => h) (Or.inl ⟨by rfl, ?hy4⟩) hHeld ?rest4
      case hy4 => (intro W hSw; (try dsimp only at hSw); have z0 := hSw.cell0 d0; have z1 := hSw.cell0 d1; have z2 := hSw.cell0 d2; have z3 := hSw.cell0 d3; have z4 := hSw.cell0 d4; have z5 := hSw.cell0 d5; go_simp; all_goals (with_reducible rfl))
      change wpAnyH _ _ _ _ _ _ _ (Act.put _ (some 15) _) _
      simp only [Act.put, List.setIfInBounds_toArray, List.set_cons_zero, List.set_cons_succ]
      refine wpAnyH_take (i := 9) (v := ?v9) rfl (by kernel_rfl) (by kernel_rfl) (by kernel_rfl) (fun _ _ _ h => h) (Or.inl ⟨by rfl, ?hy9⟩) hHeld ?rest9
      case hy9 => (intro W hSw; (try dsimp only at hSw); have z0 := hSw.cell0 d0; have z1 := hSw.cell0 d1; have z2 := hSw.cell0 d2; have z3 := hSw.cell0 d3; have z4 := hSw.cell0 d4; have z5 := hSw.cell0 d5; go_simp; all_goals (with_reducible rfl))
      change wpAnyH _ _ _ _ _ _ _ (Act.put _ (some 20) _) _
      simp only [Act.put, List.setIfInBounds_toArray, List.set_cons_zero, List.set_cons_succ]
      refine wpAnyH_take (i := 14) (v := ?v14) rfl (by kernel_rfl) (by kernel_rfl) (by kernel_rfl) (fun _ _ _ h => h) (Or.inl ⟨by rfl, ?hy14⟩) hHeld ?rest14
      case hy14 => (intro W hSw; (try dsimp only at hSw); have z0 := hSw.cell0 d0; have z1 := hSw.cell0 d1; have z2 := hSw.cell0 d2; have z3 := hSw.cell0 d3; have z4 := hSw.cell0 d4; have z5 := hSw.cell0 d5; go_simp; all_goals (with_reducible rfl))
      change wpAnyH _ _ _ _ _ _ _ (Act.put _ (some 25) _) _
      simp only [Act.put, List.setIfInBounds_toArray, List.set_cons_zero, List.set_cons_succ]
      refine wpAnyH_take (i := 19) (v := ?v19) rfl (by kernel_rfl) (by kernel_rfl) (by kernel_rfl) (fun _ _ _ h => h) (Or.inl ⟨by rfl, ?hy19⟩) hHeld ?rest19
      case hy19 => (intro W hSw; (try dsimp only at hSw); have z0 := hSw.cell0 d0; have z1 := hSw.cell0 d1; have z2 := hSw.cell0 d2; have z3 := hSw.cell0 d3; have z4 := hSw.cell0 d4; have z5 := hSw.cell0 d5; go_simp; all_goals (with_reducible rfl))
      change wpAnyH _ _ _ _ _ _ _ (Act.put _ (some 30) _) _
      simp only [Act.put, List.setIfInBounds_toArray, List.set_cons_zero, List.set_cons_succ]
      refine wpAnyH_take (i := 24) (v := ?v24) rfl (by kernel_rfl) (by kernel_rfl) (by kernel_rfl) (fun _ _ _ h => h) (Or.inl ⟨by rfl, ?hy24⟩) hHeld ?rest24
      case hy24 => (intro W hSw; (try dsimp only at hSw); have z0 := hSw.cell0 d0; have z1 := hSw.cell0 d1; have z2 := hSw.cell0 d2; have z3 := hSw.cell0 d3; have z4 := hSw.cell0 d4; have z5 := hSw.cell0 d5; go_simp; all_goals (with_reducible rfl))
      change wpAnyH _ _ _ _ _ _ _ (Act.put _ (some 35) _) _
      simp only [Act.put, List.setIfInBounds_toArray, List.set_cons_zero, List.set_cons_succ]
      refine wpAnyH_take (i := 29) (v := ?v29) rfl (by kernel_rfl) (by kernel_rfl) (by kernel_rfl) (fun _ _ _ h => h) (Or.inl ⟨by rfl, ?hy29⟩) hHeld ?rest29
      case hy29 => (intro W hSw; (try dsimp only at hSw); have z0 := hSw.cell0 d0; have z1 := hSw.cell0 d1; have z2 := hSw.cell0 d2; have z3 := hSw.cell0 d3; have z4 := hSw.cell0 d4; have z5 := hSw.cell0 d5; go_simp; all_goals (with_reducible rfl))
      change wpAnyH _ _ _ _ _ _ _ (Act.put _ (some 40) _) _
      simp only [Act.put, List.setIfInBounds_toArray, List.set_cons_zero, List.set_cons_succ]
      refine wpAnyH_take (i := 5) (v := ?v5) rfl (by kernel_rfl) (by kernel_rfl) (by kernel_rfl) (fun _ _ _ h => h) (Or.inl ⟨by rfl, ?hy5⟩) hHeld ?rest5
      case hy5 => (intro W hSw; (try dsimp only at hSw); have z0 := hSw.cell0 d0; have z1 := hSw.cell0 d1; have z2 := hSw.cell0 d2; have z3 := hSw.cell0 d3; have z4 := hSw.cell0 d4; have z5 := hSw.cell0 d5; go_simp; all_goals (with_reducible rfl))
      change wpAnyH _ _ _ _ _ _ _ (Act.put _ (some 16) _) _
      simp only [Act.put, List.setIfInBounds_toArray, List.set_cons_zero, List.set_cons_succ]
      refine wpAnyH_take (i := 10) (v := ?v10) rfl (by kernel_rfl) (by kernel_rfl) (by kernel_rfl) (fun _ _ _ h => h) (Or.inl ⟨by rfl, ?hy10⟩) hHeld ?rest10
      case hy10 => (intro W hSw; (try dsimp only at hSw); have z0 := hSw.cell0 d0; have z1 := hSw.cell0 d1; have z2 := hSw.cell0 d2; have z3 := hSw.cell0 d3; have z4 := hSw.cell0 d4; have z5 := hSw.cell0 d5; go_simp; all_goals (with_reducible rfl))
      change wpAnyH _ _ _ _ _ _ _ (Act.put _ (some 21) _) _
      simp only [Act.put, List.setIfInBounds_toArray, List.set_cons_zero, List.set_cons_succ]
      refine wpAnyH_take (i := 15) (v := ?v15) rfl (by kernel_rfl) (by kernel_rfl) (by kernel_rfl) (fun _ _ _ h => h) (Or.inl ⟨by rfl, ?hy15⟩) hHeld ?rest15
      case hy15 => (intro W hSw; (try dsimp only at hSw); have z0 := hSw.cell0 d0; have z1 := hSw.cell0 d1; have z2 := hSw.cell0 d2; have z3 := hSw.cell0 d3; have z4 := hSw.cell0 d4; have z5 := hSw.cell0 d5; go_simp; all_goals (with_reducible rfl))
      change wpAnyH _ _ _ _ _ _ _ (Act.put _ (some 26) _) _
      simp only [Act.put, List.setIfInBounds_toArray, List.set_cons_zero, List.set_cons_succ]
      refine wpAnyH_take (i := 20) (v := ?v20) rfl (by kernel_rfl) (by kernel_rfl) (by kernel_rfl) (fun _ _ _ h => h) (Or.inl ⟨by rfl, ?hy20⟩) hHeld ?rest20
      case hy20 => (intro W hSw; (try dsimp only at hSw); have z0 := hSw.cell0 d0; have z1 := hSw.cell0 d1; have z2 := hSw.cell0 d2; have z3 := hSw.cell0 d3; have z4 := hSw.cell0 d4; have z5 := hSw.cell0 d5; go_simp; all_goals (with_reducible rfl))
      change wpAnyH _ _ _ _ _ _ _ (Act.put _ (some 31) _) _
      simp only [Act.put, List.setIfInBounds_toArray, List.set_cons_zero, List.set_cons_succ]
      refine wpAnyH_take (i := 25) (v := ?v25) rfl (by kernel_rfl) (by kernel_rfl) (by kernel_rfl) (fun _ _ _ h => h) (Or.inl ⟨by rfl, ?hy25⟩) hHeld ?rest25
      case hy25 => (intro W hSw; (try dsimp only at hSw); have z0 := hSw.cell0 d0; have z1 := hSw.cell0 d1; have z2 := hSw.cell0 d2; have z3 := hSw.cell0 d3; have z4 := hSw.cell0 d4; have z5 := hSw.cell0 d5; go_simp; all_goals (with_reducible rfl))
      change wpAnyH _ _ _ _ _ _ _ (Act.put _ (some 36) _) _
      simp only [Act.put, List.setIfInBounds_toArray, List.set_cons_zero, List.set_cons_succ]
      refine wpAnyH_take (i := 30) (v := ?v30) rfl (by kernel_rfl) (by kernel_rfl) (by kernel_rfl) (fun _ _ _ h => h) (Or.inl ⟨by rfl, ?hy30⟩) hHeld ?rest30
      case hy30 => (intro W hSw; (try dsimp only at hSw); have z0 := hSw.cell0 d0; have z1 := hSw.cell0 d1; have z2 := hSw.cell0 d2; have z3 := hSw.cell0 d3; have z4 := hSw.cell0 d4; have z5 := hSw.cell0 d5; go_simp; all_goals (with_reducible rfl))
      change wpAnyH _ _ _ _ _ _ _ (Act.put _ (some 41) _) _
      simp only [Act.put, List.setIfInBounds_toArray, List.set_cons_zero, List.set_cons_succ]
      refine wpAnyH_take (i := 31) (v := ?v31) rfl (by kernel_rfl) (by kernel_rfl) (by kernel_rfl) (fun _ _ _ h => h) (Or.inl ⟨by rfl, ?hy31⟩) hHeld ?rest31
      case hy31 => (intro W hSw; (try dsimp only at hSw); have z0 := hSw.cell0 d0; have z1 := hSw.cell0 d1; have z2 := hSw.cell0 d2; have z3 := hSw.cell0 d3; have z4 := hSw.cell0 d4; have z5 := hSw.cell0 d5; go_simp; all_goals (with_reducible rfl))
      change wpAnyH _ _ _ _ _ _ _ (Act.put _ (some 42) _) _
      simp only [Act.put, List.setIfInBounds_toArray, List.set_cons_zero, List.set_cons_succ]
      refine wpAnyH_ready (rs := [32]) (by kernel_rfl) (by simp) ?_
      refine AllReadyH.cons rfl (fun K hK => ?_) AllReadyH.nil
      try simp only [List.getElem_toArray, List.getElem_cons_succ, List.getElem_cons_zero]
      go_simp
      refine hK.out _ _ HF2.out (fun hHeld => ?_)
      clear hK K
      refine wpAnyH_ready (rs := [33]) (by kernel_rfl) (by simp) ?_
      refine AllReadyH.cons rfl (fun K hK => ?_) AllReadyH.nil
      try simp only [List.getElem_toArray, List.getElem_cons_succ, List.getElem_cons_zero]
      rw [if_pos (by rfl)]
      refine wp_appP 32 26 _ _ Tryd.underlying26 Tryd.info32 rfl w.heap.size _ (l.take k) rfl HO2.out wr.heap.size 1 ⟨x, y, dx, dy, pw, ph⟩ rfl HA2.out hl1.out HF2.out.size ?_
      rintro a7 c7 w7 ho7 hf7
      have HF7 := hide (fr_ownP HF2.out HO2.out (Nat.le_refl _) hf7)
      refine hK.out _ _ HF7.out (fun hHeld => ?_)
      clear hK K
      refine wpAnyH_take (i := 34) (v := ?v34) rfl (by kernel_rfl) (by kernel_rfl) (by kernel_rfl) (fun _ _ _ h => h) (Or.inl ⟨by rfl, ?hy34⟩) hHeld ?rest34
      case hy34 => (intro W hSw; (try dsimp only at hSw); have z0 := hSw.cell0 d0; have z1 := hSw.cell0 d1; have z2 := hSw.cell0 d2; have z3 := hSw.cell0 d3; have z4 := hSw.cell0 d4; have z5 := hSw.cell0 d5; go_simp; all_goals (with_reducible rfl))
      change wpAnyH _ _ _ _ _ _ _ (Act.put _ (some 3) _) _
      simp only [Act.put, List.setIfInBounds_toArray, List.set_cons_zero, List.set_cons_succ]
      refine wpAnyH_done (by kernel_rfl) ?_ _
      rw [← HTS.out, HLK.out] at ho7
      have HO7 := hide ho7
      clear HO HF hf7 hHeld ho7
      go_wp2
      go_roundw
      case rel => exact ⟨k + 1, a7, c7, hlt, by go_num, rfl, HO7.out, HF7.out⟩
      case measure => simp [intOf]; omega
    · have hke : k = l.length := by omega
      subst hke
      rw [List.take_length] at HO
      go_wp2
      go_ret
      exact ⟨_, rfl, HO.out, HF.out⟩
end Go.Proofs.YtdnhndiaiejkoaaDoor
