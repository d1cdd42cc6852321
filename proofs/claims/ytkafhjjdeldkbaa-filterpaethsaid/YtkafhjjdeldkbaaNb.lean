/-
  filter: FilterPaeth, walked: the first is nearest.
-/
import Derived.Test.YtkafhjjdeldkbaaNa
namespace Go.Proofs.Ytkafhjjdeldkbaa
open Go.RowKit Go.Lib
set_option linter.unusedVariables false

set_option maxHeartbeats 3200000 in
theorem paeth_a (a b c : Nat) (w : World) (ha : a < 256) (hb : b < 256) (hc : c < 256) (hnear : paethV a b c = a ∧ dist ((a : Int) + b - c) a ≤ dist ((a : Int) + b - c) b ∧ dist ((a : Int) + b - c) a ≤ dist ((a : Int) + b - c) c) :
    Calls Try.prog 5 #[.int .u8 (a : Int), .int .u8 (b : Int), .int .u8 (c : Int)] w fun e w' => e = .returned (.bool true) ∧ Fr (fun _ => False) w w' := by
  obtain ⟨x1, x2, x3⟩ := box3 w a b c
  have X1 := hide x1
  have X2 := hide x2
  have X3 := hide x3
  have HF := hide (((Fr.of_alloc w (.cells #[.int .u8 (a : Int)] 5)).join (Fr.of_alloc _ (.cells #[.int .u8 (b : Int)] 5))).join (Fr.of_alloc _ (.cells #[.int .u8 (c : Int)] 5)))
  have HPC := hide (fun w => paeth_c a b c w ha hb hc)
  have HRC := hide (fun w => rpaeth_c a b c w ha hb hc)
  have HN := hide hnear
  have HCL := hide (fun (w : World) (x p q r : Nat) (hx : x < 256) h1 h2 h3 => clos_c x a b c p q r w hx ha hb hc h1 h2 h3)
  have hP := paeth_lt ha hb hc
  clear x1 x2 x3 hnear
  generalize paethV a b c = P at *
  generalize (a : Int) + b - c = s at *
  go_enter Try.func5, Try.ntmps5
  go_wp2_with fail
  refine (awake_c _).mono ?_
  rintro e w1 ⟨rfl, hf1⟩
  have HF1 := hide (HF.out.join hf1)
  have hc1 : w1.cell? ⟨w.heap.size, 0, none⟩ = some (.int .u8 (a : Int)) := by
    simp only [World.cell?, (hf1.block _ (lt_of X1.out) (fun h => h)).trans X1.out]; rfl
  have hc2 : w1.cell? ⟨w.heap.size + 1, 0, none⟩ = some (.int .u8 (b : Int)) := by
    simp only [World.cell?, (hf1.block _ (lt_of X2.out) (fun h => h)).trans X2.out]; rfl
  have hc3 : w1.cell? ⟨w.heap.size + 1 + 1, 0, none⟩ = some (.int .u8 (c : Int)) := by
    simp only [World.cell?, (hf1.block _ (lt_of X3.out) (fun h => h)).trans X3.out]; rfl
  clear hf1 HF X1 X2 X3
  have HA := hide (fun W (h : Fr (fun _ => False) w1 W) => HCL.out W a _ _ _ ha (cell_fr h hc1 (fun h => h)) (cell_fr h hc2 (fun h => h)) (cell_fr h hc3 (fun h => h)))
  have HB := hide (fun W (h : Fr (fun _ => False) w1 W) => HCL.out W b _ _ _ hb (cell_fr h hc1 (fun h => h)) (cell_fr h hc2 (fun h => h)) (cell_fr h hc3 (fun h => h)))
  have HC := hide (fun W (h : Fr (fun _ => False) w1 W) => HCL.out W c _ _ _ hc (cell_fr h hc1 (fun h => h)) (cell_fr h hc2 (fun h => h)) (cell_fr h hc3 (fun h => h)))
  have HP := hide (fun W (h : Fr (fun _ => False) w1 W) => HCL.out W P _ _ _ hP (cell_fr h hc1 (fun h => h)) (cell_fr h hc2 (fun h => h)) (cell_fr h hc3 (fun h => h)))
  have hn := HN.out
  clear HN HCL
  obtain ⟨hPe, n1, n2⟩ := hn
  subst hPe
  clear HA hP
  have HA := HP
  generalize dist s P = dp at *
  generalize dist s b = db at *
  generalize dist s c = dc at *
  go_wp2_with fail
  refine (HPC.out w1).mono ?_
  rintro e w' ⟨rfl, rfl⟩
  go_wp2
  refine wp_region_held_drew (S := fun W' => Fr (fun _ => False) w1 W') (by kernel_rfl) (by exact Fr.of_drewN _ 1) (fun hHeld => ?_)
  refine wpAnyH_take (i := 0) (v := ?v0a) rfl (by kernel_rfl) (by kernel_rfl) (by kernel_rfl) (fun _ _ _ h => h) (Or.inl ⟨by rfl, ?hy0a⟩) hHeld ?rest0a
  case hy0a => (intro W hSw; (try dsimp only at hSw); have k0 := cell_fr hSw hc1 (fun h => h); have k1 := cell_fr hSw hc2 (fun h => h); have k2 := cell_fr hSw hc3 (fun h => h); go_simp; all_goals (with_reducible rfl))
  change wpAnyH _ _ _ _ _ _ _ (Act.put _ (some 16) _) _
  simp only [Act.put, List.setIfInBounds_toArray, List.set_cons_zero, List.set_cons_succ]
  refine wpAnyH_take (i := 1) (v := ?v1a) rfl (by kernel_rfl) (by kernel_rfl) (by kernel_rfl) (fun _ _ _ h => h) (Or.inl ⟨by rfl, ?hy1a⟩) hHeld ?rest1a
  case hy1a => (intro W hSw; (try dsimp only at hSw); have k0 := cell_fr hSw hc1 (fun h => h); have k1 := cell_fr hSw hc2 (fun h => h); have k2 := cell_fr hSw hc3 (fun h => h); go_simp; all_goals (with_reducible rfl))
  change wpAnyH _ _ _ _ _ _ _ (Act.put _ (some 17) _) _
  simp only [Act.put, List.setIfInBounds_toArray, List.set_cons_zero, List.set_cons_succ]
  refine wpAnyH_take (i := 2) (v := ?v2a) rfl (by kernel_rfl) (by kernel_rfl) (by kernel_rfl) (fun _ _ _ h => h) (Or.inl ⟨by rfl, ?hy2a⟩) hHeld ?rest2a
  case hy2a => (intro W hSw; (try dsimp only at hSw); have k0 := cell_fr hSw hc1 (fun h => h); have k1 := cell_fr hSw hc2 (fun h => h); have k2 := cell_fr hSw hc3 (fun h => h); go_simp; all_goals (with_reducible rfl))
  change wpAnyH _ _ _ _ _ _ _ (Act.put _ (some 18) _) _
  simp only [Act.put, List.setIfInBounds_toArray, List.set_cons_zero, List.set_cons_succ]
  refine wpAnyH_take (i := 3) (v := ?v3a) rfl (by kernel_rfl) (by kernel_rfl) (by kernel_rfl) (fun _ _ _ h => h) (Or.inl ⟨by rfl, ?hy3a⟩) hHeld ?rest3a
  case hy3a => (intro W hSw; (try dsimp only at hSw); have k0 := cell_fr hSw hc1 (fun h => h); have k1 := cell_fr hSw hc2 (fun h => h); have k2 := cell_fr hSw hc3 (fun h => h); go_simp; all_goals (with_reducible rfl))
  change wpAnyH _ _ _ _ _ _ _ (Act.put _ (some 19) _) _
  simp only [Act.put, List.setIfInBounds_toArray, List.set_cons_zero, List.set_cons_succ]
  refine wpAnyH_ready (rs := [4]) (by kernel_rfl) (by simp) ?_
  refine AllReadyH.cons rfl (fun K hK => ?_) AllReadyH.nil
  try simp only [List.getElem_toArray, List.getElem_cons_succ, List.getElem_cons_zero]
  go_simp
  refine (HRC.out _).mono ?_
  rintro e v ⟨rfl, rfl⟩
  refine hK.out _ _ hHeld (fun hHeld => ?_)
  clear hK K
  refine wpAnyH_take (i := 5) (v := ?v5a) rfl (by kernel_rfl) (by kernel_rfl) (by kernel_rfl) (fun _ _ _ h => h) (Or.inl ⟨by rfl, ?hy5a⟩) hHeld ?rest5a
  case hy5a => (intro W hSw; (try dsimp only at hSw); have k0 := cell_fr hSw hc1 (fun h => h); have k1 := cell_fr hSw hc2 (fun h => h); have k2 := cell_fr hSw hc3 (fun h => h); go_simp; all_goals (with_reducible rfl))
  change wpAnyH _ _ _ _ _ _ _ (Act.put _ (some 21) _) _
  simp only [Act.put, List.setIfInBounds_toArray, List.set_cons_zero, List.set_cons_succ]
  refine wpAnyH_take (i := 6) (v := ?v6a) rfl (by kernel_rfl) (by kernel_rfl) (by kernel_rfl) (fun _ _ _ h => h) (Or.inl ⟨by rfl, ?hy6a⟩) hHeld ?rest6a
  case hy6a => (intro W hSw; (try dsimp only at hSw); have k0 := cell_fr hSw hc1 (fun h => h); have k1 := cell_fr hSw hc2 (fun h => h); have k2 := cell_fr hSw hc3 (fun h => h); go_simp; all_goals (with_reducible rfl))
  change wpAnyH _ _ _ _ _ _ _ (Act.put _ (some 22) _) _
  simp only [Act.put, List.setIfInBounds_toArray, List.set_cons_zero, List.set_cons_succ]
  refine wpAnyH_take (i := 7) (v := ?v7a) rfl (by kernel_rfl) (by kernel_rfl) (by kernel_rfl) (fun _ _ _ h => h) (Or.inl ⟨by rfl, ?hy7a⟩) hHeld ?rest7a
  case hy7a => (intro W hSw; (try dsimp only at hSw); have k0 := cell_fr hSw hc1 (fun h => h); have k1 := cell_fr hSw hc2 (fun h => h); have k2 := cell_fr hSw hc3 (fun h => h); go_simp; all_goals (with_reducible rfl))
  change wpAnyH _ _ _ _ _ _ _ (Act.put _ (some 23) _) _
  simp only [Act.put, List.setIfInBounds_toArray, List.set_cons_zero, List.set_cons_succ]
  refine wpAnyH_take (i := 8) (v := ?v8a) rfl (by kernel_rfl) (by kernel_rfl) (by kernel_rfl) (fun _ _ _ h => h) (Or.inl ⟨by rfl, ?hy8a⟩) hHeld ?rest8a
  case hy8a => (intro W hSw; (try dsimp only at hSw); have k0 := cell_fr hSw hc1 (fun h => h); have k1 := cell_fr hSw hc2 (fun h => h); have k2 := cell_fr hSw hc3 (fun h => h); go_simp; all_goals (with_reducible rfl))
  change wpAnyH _ _ _ _ _ _ _ (Act.put _ (some 24) _) _
  simp only [Act.put, List.setIfInBounds_toArray, List.set_cons_zero, List.set_cons_succ]
  refine wpAnyH_take (i := 9) (v := ?v9a) rfl (by kernel_rfl) (by kernel_rfl) (by kernel_rfl) (fun _ _ _ h => h) (Or.inl ⟨by rfl, ?hy9a⟩) hHeld ?rest9a
  case hy9a => (intro W hSw; (try dsimp only at hSw); have k0 := cell_fr hSw hc1 (fun h => h); have k1 := cell_fr hSw hc2 (fun h => h); have k2 := cell_fr hSw hc3 (fun h => h); go_simp; all_goals (with_reducible rfl))
  change wpAnyH _ _ _ _ _ _ _ (Act.put _ (some 25) _) _
  simp only [Act.put, List.setIfInBounds_toArray, List.set_cons_zero, List.set_cons_succ]
  refine wpAnyH_take (i := 10) (v := ?v10a) rfl (by kernel_rfl) (by kernel_rfl) (by kernel_rfl) (fun _ _ _ h => h) (Or.inl ⟨by rfl, ?hy10a⟩) hHeld ?rest10a
  case hy10a => (intro W hSw; (try dsimp only at hSw); have k0 := cell_fr hSw hc1 (fun h => h); have k1 := cell_fr hSw hc2 (fun h => h); have k2 := cell_fr hSw hc3 (fun h => h); go_simp; all_goals (with_reducible rfl))
  change wpAnyH _ _ _ _ _ _ _ (Act.put _ (some 26) _) _
  simp only [Act.put, List.setIfInBounds_toArray, List.set_cons_zero, List.set_cons_succ]
  refine wpAnyH_take (i := 11) (v := undef) rfl (by kernel_rfl) (by kernel_rfl) (by kernel_rfl) (fun _ _ _ h => h) (Or.inr ⟨by rfl, rfl⟩) hHeld ?rest11a
  change wpAnyH _ _ _ _ _ _ _ (Act.put _ (some 27) _) _
  simp only [Act.put, List.setIfInBounds_toArray, List.set_cons_zero, List.set_cons_succ]
  refine wpAnyH_take (i := 12) (v := undef) rfl (by kernel_rfl) (by kernel_rfl) (by kernel_rfl) (fun _ _ _ h => h) (Or.inr ⟨by rfl, rfl⟩) hHeld ?rest12a
  change wpAnyH _ _ _ _ _ _ _ (Act.put _ (some 28) _) _
  simp only [Act.put, List.setIfInBounds_toArray, List.set_cons_zero, List.set_cons_succ]
  refine wpAnyH_take (i := 13) (v := undef) rfl (by kernel_rfl) (by kernel_rfl) (by kernel_rfl) (fun _ _ _ h => h) (Or.inr ⟨by rfl, rfl⟩) hHeld ?rest13a
  change wpAnyH _ _ _ _ _ _ _ (Act.put _ (some 29) _) _
  simp only [Act.put, List.setIfInBounds_toArray, List.set_cons_zero, List.set_cons_succ]
  refine wpAnyH_take (i := 14) (v := ?v14a) rfl (by kernel_rfl) (by kernel_rfl) (by kernel_rfl) (fun _ _ _ h => h) (Or.inl ⟨by rfl, ?hy14a⟩) hHeld ?rest14a
  case hy14a => (intro W hSw; (try dsimp only at hSw); have k0 := cell_fr hSw hc1 (fun h => h); have k1 := cell_fr hSw hc2 (fun h => h); have k2 := cell_fr hSw hc3 (fun h => h); go_simp; all_goals (with_reducible rfl))
  change wpAnyH _ _ _ _ _ _ _ (Act.put _ (some 30) _) _
  simp only [Act.put, List.setIfInBounds_toArray, List.set_cons_zero, List.set_cons_succ]
  refine wpAnyH_take (i := 15) (v := ?v15a) rfl (by kernel_rfl) (by kernel_rfl) (by kernel_rfl) (fun _ _ _ h => h) (Or.inl ⟨by rfl, ?hy15a⟩) hHeld ?rest15a
  case hy15a => (intro W hSw; (try dsimp only at hSw); have k0 := cell_fr hSw hc1 (fun h => h); have k1 := cell_fr hSw hc2 (fun h => h); have k2 := cell_fr hSw hc3 (fun h => h); go_simp; all_goals (with_reducible rfl))
  change wpAnyH _ _ _ _ _ _ _ (Act.put _ (some 31) _) _
  simp only [Act.put, List.setIfInBounds_toArray, List.set_cons_zero, List.set_cons_succ]
  refine wpAnyH_take (i := 16) (v := undef) rfl (by kernel_rfl) (by kernel_rfl) (by kernel_rfl) (fun _ _ _ h => h) (Or.inr ⟨by rfl, rfl⟩) hHeld ?rest16a
  change wpAnyH _ _ _ _ _ _ _ (Act.put _ (some 32) _) _
  simp only [Act.put, List.setIfInBounds_toArray, List.set_cons_zero, List.set_cons_succ]
  refine wpAnyH_take (i := 17) (v := undef) rfl (by kernel_rfl) (by kernel_rfl) (by kernel_rfl) (fun _ _ _ h => h) (Or.inr ⟨by rfl, rfl⟩) hHeld ?rest17a
  change wpAnyH _ _ _ _ _ _ _ (Act.put _ (some 33) _) _
  simp only [Act.put, List.setIfInBounds_toArray, List.set_cons_zero, List.set_cons_succ]
  refine wpAnyH_take (i := 18) (v := undef) rfl (by kernel_rfl) (by kernel_rfl) (by kernel_rfl) (fun _ _ _ h => h) (Or.inr ⟨by rfl, rfl⟩) hHeld ?rest18a
  change wpAnyH _ _ _ _ _ _ _ (Act.put _ (some 34) _) _
  simp only [Act.put, List.setIfInBounds_toArray, List.set_cons_zero, List.set_cons_succ]
  refine wpAnyH_take (i := 19) (v := ?v19a) rfl (by kernel_rfl) (by kernel_rfl) (by kernel_rfl) (fun _ _ _ h => h) (Or.inl ⟨by rfl, ?hy19a⟩) hHeld ?rest19a
  case hy19a => (intro W hSw; (try dsimp only at hSw); have k0 := cell_fr hSw hc1 (fun h => h); have k1 := cell_fr hSw hc2 (fun h => h); have k2 := cell_fr hSw hc3 (fun h => h); go_simp; all_goals (with_reducible rfl))
  change wpAnyH _ _ _ _ _ _ _ (Act.put _ (some 35) _) _
  simp only [Act.put, List.setIfInBounds_toArray, List.set_cons_zero, List.set_cons_succ]
  refine wpAnyH_take (i := 20) (v := ?v20a) rfl (by kernel_rfl) (by kernel_rfl) (by kernel_rfl) (fun _ _ _ h => h) (Or.inl ⟨by rfl, ?hy20a⟩) hHeld ?rest20a
  case hy20a => (intro W hSw; (try dsimp only at hSw); have k0 := cell_fr hSw hc1 (fun h => h); have k1 := cell_fr hSw hc2 (fun h => h); have k2 := cell_fr hSw hc3 (fun h => h); go_simp; all_goals (with_reducible rfl))
  change wpAnyH _ _ _ _ _ _ _ (Act.put _ (some 36) _) _
  simp only [Act.put, List.setIfInBounds_toArray, List.set_cons_zero, List.set_cons_succ]
  refine wpAnyH_take (i := 21) (v := ?v21a) rfl (by kernel_rfl) (by kernel_rfl) (by kernel_rfl) (fun _ _ _ h => h) (Or.inl ⟨by rfl, ?hy21a⟩) hHeld ?rest21a
  case hy21a => (intro W hSw; (try dsimp only at hSw); have k0 := cell_fr hSw hc1 (fun h => h); have k1 := cell_fr hSw hc2 (fun h => h); have k2 := cell_fr hSw hc3 (fun h => h); go_simp; all_goals (with_reducible rfl))
  change wpAnyH _ _ _ _ _ _ _ (Act.put _ (some 37) _) _
  simp only [Act.put, List.setIfInBounds_toArray, List.set_cons_zero, List.set_cons_succ]
  refine wpAnyH_take (i := 22) (v := ?v22a) rfl (by kernel_rfl) (by kernel_rfl) (by kernel_rfl) (fun _ _ _ h => h) (Or.inl ⟨by rfl, ?hy22a⟩) hHeld ?rest22a
  case hy22a => (intro W hSw; (try dsimp only at hSw); have k0 := cell_fr hSw hc1 (fun h => h); have k1 := cell_fr hSw hc2 (fun h => h); have k2 := cell_fr hSw hc3 (fun h => h); go_simp; all_goals (with_reducible rfl))
  change wpAnyH _ _ _ _ _ _ _ (Act.put _ (some 38) _) _
  simp only [Act.put, List.setIfInBounds_toArray, List.set_cons_zero, List.set_cons_succ]
  refine wpAnyH_take (i := 23) (v := ?v23a) rfl (by kernel_rfl) (by kernel_rfl) (by kernel_rfl) (fun _ _ _ h => h) (Or.inl ⟨by rfl, ?hy23a⟩) hHeld ?rest23a
  case hy23a => (intro W hSw; (try dsimp only at hSw); have k0 := cell_fr hSw hc1 (fun h => h); have k1 := cell_fr hSw hc2 (fun h => h); have k2 := cell_fr hSw hc3 (fun h => h); go_simp; all_goals (with_reducible rfl))
  change wpAnyH _ _ _ _ _ _ _ (Act.put _ (some 39) _) _
  simp only [Act.put, List.setIfInBounds_toArray, List.set_cons_zero, List.set_cons_succ]
  refine wpAnyH_take (i := 25) (v := ?v25a) rfl (by kernel_rfl) (by kernel_rfl) (by kernel_rfl) (fun _ _ _ h => h) (Or.inl ⟨by rfl, ?hy25a⟩) hHeld ?rest25a
  case hy25a => (intro W hSw; (try dsimp only at hSw); have k0 := cell_fr hSw hc1 (fun h => h); have k1 := cell_fr hSw hc2 (fun h => h); have k2 := cell_fr hSw hc3 (fun h => h); go_simp; all_goals (with_reducible rfl))
  change wpAnyH _ _ _ _ _ _ _ (Act.put _ (some 41) _) _
  simp only [Act.put, List.setIfInBounds_toArray, List.set_cons_zero, List.set_cons_succ]
  refine wpAnyH_take (i := 26) (v := ?v26a) rfl (by kernel_rfl) (by kernel_rfl) (by kernel_rfl) (fun _ _ _ h => h) (Or.inl ⟨by rfl, ?hy26a⟩) hHeld ?rest26a
  case hy26a => (intro W hSw; (try dsimp only at hSw); have k0 := cell_fr hSw hc1 (fun h => h); have k1 := cell_fr hSw hc2 (fun h => h); have k2 := cell_fr hSw hc3 (fun h => h); go_simp; all_goals (with_reducible rfl))
  change wpAnyH _ _ _ _ _ _ _ (Act.put _ (some 42) _) _
  simp only [Act.put, List.setIfInBounds_toArray, List.set_cons_zero, List.set_cons_succ]
  refine wpAnyH_ready (rs := [24]) (by kernel_rfl) (by simp) ?_
  refine AllReadyH.cons rfl (fun K hK => ?_) AllReadyH.nil
  try simp only [List.getElem_toArray, List.getElem_cons_succ, List.getElem_cons_zero]
  go_simp
  refine (HP.out _ hHeld).mono ?_
  rintro e v ⟨rfl, rfl⟩
  refine hK.out _ _ hHeld (fun hHeld => ?_)
  clear hK K
  refine wpAnyH_ready (rs := [27]) (by kernel_rfl) (by simp) ?_
  refine AllReadyH.cons rfl (fun K hK => ?_) AllReadyH.nil
  try simp only [List.getElem_toArray, List.getElem_cons_succ, List.getElem_cons_zero]
  go_simp
  refine (HA.out _ hHeld).mono ?_
  rintro e v ⟨rfl, rfl⟩
  refine hK.out _ _ hHeld (fun hHeld => ?_)
  clear hK K
  refine wpAnyH_take (i := 28) (v := ?v28a) rfl (by kernel_rfl) (by kernel_rfl) (by kernel_rfl) (fun _ _ _ h => h) (Or.inl ⟨by rfl, ?hy28a⟩) hHeld ?rest28a
  case hy28a => (intro W hSw; (try dsimp only at hSw); have k0 := cell_fr hSw hc1 (fun h => h); have k1 := cell_fr hSw hc2 (fun h => h); have k2 := cell_fr hSw hc3 (fun h => h); go_simp; all_goals (with_reducible rfl))
  change wpAnyH _ _ _ _ _ _ _ (Act.put _ (some 44) _) _
  simp only [Act.put, List.setIfInBounds_toArray, List.set_cons_zero, List.set_cons_succ]
  refine wpAnyH_take (i := 29) (v := ?v29a) rfl (by kernel_rfl) (by kernel_rfl) (by kernel_rfl) (fun _ _ _ h => h) (Or.inl ⟨by rfl, ?hy29a⟩) hHeld ?rest29a
  case hy29a => (intro W hSw; (try dsimp only at hSw); have k0 := cell_fr hSw hc1 (fun h => h); have k1 := cell_fr hSw hc2 (fun h => h); have k2 := cell_fr hSw hc3 (fun h => h); go_simp; all_goals (with_reducible rfl))
  change wpAnyH _ _ _ _ _ _ _ (Act.put _ (some 45) _) _
  simp only [Act.put, List.setIfInBounds_toArray, List.set_cons_zero, List.set_cons_succ]
  refine wpAnyH_take (i := 30) (v := ?v30a) rfl (by kernel_rfl) (by kernel_rfl) (by kernel_rfl) (fun _ _ _ h => h) (Or.inl ⟨by rfl, ?hy30a⟩) hHeld ?rest30a
  case hy30a => (intro W hSw; (try dsimp only at hSw); have k0 := cell_fr hSw hc1 (fun h => h); have k1 := cell_fr hSw hc2 (fun h => h); have k2 := cell_fr hSw hc3 (fun h => h); go_simp; all_goals (with_reducible rfl))
  change wpAnyH _ _ _ _ _ _ _ (Act.put _ (some 46) _) _
  simp only [Act.put, List.setIfInBounds_toArray, List.set_cons_zero, List.set_cons_succ]
  refine wpAnyH_take (i := 31) (v := ?v31a) rfl (by kernel_rfl) (by kernel_rfl) (by kernel_rfl) (fun _ _ _ h => h) (Or.inl ⟨by rfl, ?hy31a⟩) hHeld ?rest31a
  case hy31a => (intro W hSw; (try dsimp only at hSw); have k0 := cell_fr hSw hc1 (fun h => h); have k1 := cell_fr hSw hc2 (fun h => h); have k2 := cell_fr hSw hc3 (fun h => h); go_simp; all_goals (with_reducible rfl))
  change wpAnyH _ _ _ _ _ _ _ (Act.put _ (some 47) _) _
  simp only [Act.put, List.setIfInBounds_toArray, List.set_cons_zero, List.set_cons_succ]
  refine wpAnyH_take (i := 32) (v := ?v32a) rfl (by kernel_rfl) (by kernel_rfl) (by kernel_rfl) (fun _ _ _ h => h) (Or.inl ⟨by rfl, ?hy32a⟩) hHeld ?rest32a
  case hy32a => (intro W hSw; (try dsimp only at hSw); have k0 := cell_fr hSw hc1 (fun h => h); have k1 := cell_fr hSw hc2 (fun h => h); have k2 := cell_fr hSw hc3 (fun h => h); go_simp; all_goals (with_reducible rfl))
  change wpAnyH _ _ _ _ _ _ _ (Act.put _ (some 48) _) _
  simp only [Act.put, List.setIfInBounds_toArray, List.set_cons_zero, List.set_cons_succ]
  refine wpAnyH_take (i := 34) (v := ?v34a) rfl (by kernel_rfl) (by kernel_rfl) (by kernel_rfl) (fun _ _ _ h => h) (Or.inl ⟨by rfl, ?hy34a⟩) hHeld ?rest34a
  case hy34a => (intro W hSw; (try dsimp only at hSw); have k0 := cell_fr hSw hc1 (fun h => h); have k1 := cell_fr hSw hc2 (fun h => h); have k2 := cell_fr hSw hc3 (fun h => h); go_simp; all_goals (with_reducible rfl))
  change wpAnyH _ _ _ _ _ _ _ (Act.put _ (some 50) _) _
  simp only [Act.put, List.setIfInBounds_toArray, List.set_cons_zero, List.set_cons_succ]
  refine wpAnyH_take (i := 35) (v := ?v35a) rfl (by kernel_rfl) (by kernel_rfl) (by kernel_rfl) (fun _ _ _ h => h) (Or.inl ⟨by rfl, ?hy35a⟩) hHeld ?rest35a
  case hy35a => (intro W hSw; (try dsimp only at hSw); have k0 := cell_fr hSw hc1 (fun h => h); have k1 := cell_fr hSw hc2 (fun h => h); have k2 := cell_fr hSw hc3 (fun h => h); go_simp; all_goals (with_reducible rfl))
  change wpAnyH _ _ _ _ _ _ _ (Act.put _ (some 51) _) _
  simp only [Act.put, List.setIfInBounds_toArray, List.set_cons_zero, List.set_cons_succ]
  refine wpAnyH_ready (rs := [33]) (by kernel_rfl) (by simp) ?_
  refine AllReadyH.cons rfl (fun K hK => ?_) AllReadyH.nil
  try simp only [List.getElem_toArray, List.getElem_cons_succ, List.getElem_cons_zero]
  go_simp
  refine (HP.out _ hHeld).mono ?_
  rintro e v ⟨rfl, rfl⟩
  refine hK.out _ _ hHeld (fun hHeld => ?_)
  clear hK K
  refine wpAnyH_ready (rs := [36]) (by kernel_rfl) (by simp) ?_
  refine AllReadyH.cons rfl (fun K hK => ?_) AllReadyH.nil
  try simp only [List.getElem_toArray, List.getElem_cons_succ, List.getElem_cons_zero]
  go_simp
  refine (HB.out _ hHeld).mono ?_
  rintro e v ⟨rfl, rfl⟩
  refine hK.out _ _ hHeld (fun hHeld => ?_)
  clear hK K
  refine wpAnyH_take (i := 37) (v := ?v37a) rfl (by kernel_rfl) (by kernel_rfl) (by kernel_rfl) (fun _ _ _ h => h) (Or.inl ⟨by rfl, ?hy37a⟩) hHeld ?rest37a
  case hy37a => (intro W hSw; (try dsimp only at hSw); have k0 := cell_fr hSw hc1 (fun h => h); have k1 := cell_fr hSw hc2 (fun h => h); have k2 := cell_fr hSw hc3 (fun h => h); go_simp; all_goals (with_reducible rfl))
  change wpAnyH _ _ _ _ _ _ _ (Act.put _ (some 53) _) _
  simp only [Act.put, List.setIfInBounds_toArray, List.set_cons_zero, List.set_cons_succ]
  refine wpAnyH_take (i := 38) (v := ?v38a) rfl (by kernel_rfl) (by kernel_rfl) (by kernel_rfl) (fun _ _ _ h => h) (Or.inl ⟨by rfl, ?hy38a⟩) hHeld ?rest38a
  case hy38a => (intro W hSw; (try dsimp only at hSw); have k0 := cell_fr hSw hc1 (fun h => h); have k1 := cell_fr hSw hc2 (fun h => h); have k2 := cell_fr hSw hc3 (fun h => h); go_simp; all_goals (with_reducible rfl))
  change wpAnyH _ _ _ _ _ _ _ (Act.put _ (some 54) _) _
  simp only [Act.put, List.setIfInBounds_toArray, List.set_cons_zero, List.set_cons_succ]
  refine wpAnyH_take (i := 39) (v := ?v39a) rfl (by kernel_rfl) (by kernel_rfl) (by kernel_rfl) (fun _ _ _ h => h) (Or.inl ⟨by rfl, ?hy39a⟩) hHeld ?rest39a
  case hy39a => (intro W hSw; (try dsimp only at hSw); have k0 := cell_fr hSw hc1 (fun h => h); have k1 := cell_fr hSw hc2 (fun h => h); have k2 := cell_fr hSw hc3 (fun h => h); go_simp; all_goals (with_reducible rfl))
  change wpAnyH _ _ _ _ _ _ _ (Act.put _ (some 55) _) _
  simp only [Act.put, List.setIfInBounds_toArray, List.set_cons_zero, List.set_cons_succ]
  refine wpAnyH_take (i := 40) (v := ?v40a) rfl (by kernel_rfl) (by kernel_rfl) (by kernel_rfl) (fun _ _ _ h => h) (Or.inl ⟨by rfl, ?hy40a⟩) hHeld ?rest40a
  case hy40a => (intro W hSw; (try dsimp only at hSw); have k0 := cell_fr hSw hc1 (fun h => h); have k1 := cell_fr hSw hc2 (fun h => h); have k2 := cell_fr hSw hc3 (fun h => h); go_simp; all_goals (with_reducible rfl))
  change wpAnyH _ _ _ _ _ _ _ (Act.put _ (some 56) _) _
  simp only [Act.put, List.setIfInBounds_toArray, List.set_cons_zero, List.set_cons_succ]
  refine wpAnyH_take (i := 41) (v := ?v41a) rfl (by kernel_rfl) (by kernel_rfl) (by kernel_rfl) (fun _ _ _ h => h) (Or.inl ⟨by rfl, ?hy41a⟩) hHeld ?rest41a
  case hy41a => (intro W hSw; (try dsimp only at hSw); have k0 := cell_fr hSw hc1 (fun h => h); have k1 := cell_fr hSw hc2 (fun h => h); have k2 := cell_fr hSw hc3 (fun h => h); go_simp; all_goals (with_reducible rfl))
  change wpAnyH _ _ _ _ _ _ _ (Act.put _ (some 57) _) _
  simp only [Act.put, List.setIfInBounds_toArray, List.set_cons_zero, List.set_cons_succ]
  refine wpAnyH_take (i := 43) (v := ?v43a) rfl (by kernel_rfl) (by kernel_rfl) (by kernel_rfl) (fun _ _ _ h => h) (Or.inl ⟨by rfl, ?hy43a⟩) hHeld ?rest43a
  case hy43a => (intro W hSw; (try dsimp only at hSw); have k0 := cell_fr hSw hc1 (fun h => h); have k1 := cell_fr hSw hc2 (fun h => h); have k2 := cell_fr hSw hc3 (fun h => h); go_simp; all_goals (with_reducible rfl))
  change wpAnyH _ _ _ _ _ _ _ (Act.put _ (some 59) _) _
  simp only [Act.put, List.setIfInBounds_toArray, List.set_cons_zero, List.set_cons_succ]
  refine wpAnyH_take (i := 44) (v := ?v44a) rfl (by kernel_rfl) (by kernel_rfl) (by kernel_rfl) (fun _ _ _ h => h) (Or.inl ⟨by rfl, ?hy44a⟩) hHeld ?rest44a
  case hy44a => (intro W hSw; (try dsimp only at hSw); have k0 := cell_fr hSw hc1 (fun h => h); have k1 := cell_fr hSw hc2 (fun h => h); have k2 := cell_fr hSw hc3 (fun h => h); go_simp; all_goals (with_reducible rfl))
  change wpAnyH _ _ _ _ _ _ _ (Act.put _ (some 60) _) _
  simp only [Act.put, List.setIfInBounds_toArray, List.set_cons_zero, List.set_cons_succ]
  refine wpAnyH_ready (rs := [42]) (by kernel_rfl) (by simp) ?_
  refine AllReadyH.cons rfl (fun K hK => ?_) AllReadyH.nil
  try simp only [List.getElem_toArray, List.getElem_cons_succ, List.getElem_cons_zero]
  go_simp
  refine (HP.out _ hHeld).mono ?_
  rintro e v ⟨rfl, rfl⟩
  refine hK.out _ _ hHeld (fun hHeld => ?_)
  clear hK K
  refine wpAnyH_ready (rs := [45]) (by kernel_rfl) (by simp) ?_
  refine AllReadyH.cons rfl (fun K hK => ?_) AllReadyH.nil
  try simp only [List.getElem_toArray, List.getElem_cons_succ, List.getElem_cons_zero]
  go_simp
  refine (HC.out _ hHeld).mono ?_
  rintro e v ⟨rfl, rfl⟩
  refine hK.out _ _ hHeld (fun hHeld => ?_)
  clear hK K
  refine wpAnyH_take (i := 46) (v := ?v46a) rfl (by kernel_rfl) (by kernel_rfl) (by kernel_rfl) (fun _ _ _ h => h) (Or.inl ⟨by rfl, ?hy46a⟩) hHeld ?rest46a
  case hy46a => (intro W hSw; (try dsimp only at hSw); have k0 := cell_fr hSw hc1 (fun h => h); have k1 := cell_fr hSw hc2 (fun h => h); have k2 := cell_fr hSw hc3 (fun h => h); go_simp; all_goals (with_reducible rfl))
  change wpAnyH _ _ _ _ _ _ _ (Act.put _ (some 62) _) _
  simp only [Act.put, List.setIfInBounds_toArray, List.set_cons_zero, List.set_cons_succ]
  refine wpAnyH_take (i := 47) (v := ?v47a) rfl (by kernel_rfl) (by kernel_rfl) (by kernel_rfl) (fun _ _ _ h => h) (Or.inl ⟨by rfl, ?hy47a⟩) hHeld ?rest47a
  case hy47a => (intro W hSw; (try dsimp only at hSw); have k0 := cell_fr hSw hc1 (fun h => h); have k1 := cell_fr hSw hc2 (fun h => h); have k2 := cell_fr hSw hc3 (fun h => h); go_simp; all_goals (with_reducible rfl))
  change wpAnyH _ _ _ _ _ _ _ (Act.put _ (some 63) _) _
  simp only [Act.put, List.setIfInBounds_toArray, List.set_cons_zero, List.set_cons_succ]
  refine wpAnyH_take (i := 48) (v := ?v48a) rfl (by kernel_rfl) (by kernel_rfl) (by kernel_rfl) (fun _ _ _ h => h) (Or.inl ⟨by rfl, ?hy48a⟩) hHeld ?rest48a
  case hy48a => (intro W hSw; (try dsimp only at hSw); have k0 := cell_fr hSw hc1 (fun h => h); have k1 := cell_fr hSw hc2 (fun h => h); have k2 := cell_fr hSw hc3 (fun h => h); go_simp; all_goals (with_reducible rfl))
  change wpAnyH _ _ _ _ _ _ _ (Act.put _ (some 64) _) _
  simp only [Act.put, List.setIfInBounds_toArray, List.set_cons_zero, List.set_cons_succ]
  refine wpAnyH_take (i := 49) (v := ?v49a) rfl (by kernel_rfl) (by kernel_rfl) (by kernel_rfl) (fun _ _ _ h => h) (Or.inl ⟨by rfl, ?hy49a⟩) hHeld ?rest49a
  case hy49a => (intro W hSw; (try dsimp only at hSw); have k0 := cell_fr hSw hc1 (fun h => h); have k1 := cell_fr hSw hc2 (fun h => h); have k2 := cell_fr hSw hc3 (fun h => h); go_simp; all_goals (with_reducible rfl))
  change wpAnyH _ _ _ _ _ _ _ (Act.put _ (some 65) _) _
  simp only [Act.put, List.setIfInBounds_toArray, List.set_cons_zero, List.set_cons_succ]
  refine wpAnyH_take (i := 50) (v := ?v50a) rfl (by kernel_rfl) (by kernel_rfl) (by kernel_rfl) (fun _ _ _ h => h) (Or.inl ⟨by rfl, ?hy50a⟩) hHeld ?rest50a
  case hy50a => (intro W hSw; (try dsimp only at hSw); have k0 := cell_fr hSw hc1 (fun h => h); have k1 := cell_fr hSw hc2 (fun h => h); have k2 := cell_fr hSw hc3 (fun h => h); go_simp; all_goals (with_reducible rfl))
  change wpAnyH _ _ _ _ _ _ _ (Act.put _ (some 66) _) _
  simp only [Act.put, List.setIfInBounds_toArray, List.set_cons_zero, List.set_cons_succ]
  refine wpAnyH_take (i := 52) (v := ?v52a) rfl (by kernel_rfl) (by kernel_rfl) (by kernel_rfl) (fun _ _ _ h => h) (Or.inl ⟨by rfl, ?hy52a⟩) hHeld ?rest52a
  case hy52a => (intro W hSw; (try dsimp only at hSw); have k0 := cell_fr hSw hc1 (fun h => h); have k1 := cell_fr hSw hc2 (fun h => h); have k2 := cell_fr hSw hc3 (fun h => h); go_simp; all_goals (with_reducible rfl))
  change wpAnyH _ _ _ _ _ _ _ (Act.put _ (some 68) _) _
  simp only [Act.put, List.setIfInBounds_toArray, List.set_cons_zero, List.set_cons_succ]
  refine wpAnyH_take (i := 53) (v := ?v53a) rfl (by kernel_rfl) (by kernel_rfl) (by kernel_rfl) (fun _ _ _ h => h) (Or.inl ⟨by rfl, ?hy53a⟩) hHeld ?rest53a
  case hy53a => (intro W hSw; (try dsimp only at hSw); have k0 := cell_fr hSw hc1 (fun h => h); have k1 := cell_fr hSw hc2 (fun h => h); have k2 := cell_fr hSw hc3 (fun h => h); go_simp; all_goals (with_reducible rfl))
  change wpAnyH _ _ _ _ _ _ _ (Act.put _ (some 69) _) _
  simp only [Act.put, List.setIfInBounds_toArray, List.set_cons_zero, List.set_cons_succ]
  refine wpAnyH_ready (rs := [51]) (by kernel_rfl) (by simp) ?_
  refine AllReadyH.cons rfl (fun K hK => ?_) AllReadyH.nil
  try simp only [List.getElem_toArray, List.getElem_cons_succ, List.getElem_cons_zero]
  go_simp
  refine (HP.out _ hHeld).mono ?_
  rintro e v ⟨rfl, rfl⟩
  refine hK.out _ _ hHeld (fun hHeld => ?_)
  clear hK K
  refine wpAnyH_ready (rs := [54]) (by kernel_rfl) (by simp) ?_
  refine AllReadyH.cons rfl (fun K hK => ?_) AllReadyH.nil
  try simp only [List.getElem_toArray, List.getElem_cons_succ, List.getElem_cons_zero]
  go_simp
  refine (HA.out _ hHeld).mono ?_
  rintro e v ⟨rfl, rfl⟩
  refine hK.out _ _ hHeld (fun hHeld => ?_)
  clear hK K
  refine wpAnyH_take (i := 55) (v := ?v55a) rfl (by kernel_rfl) (by kernel_rfl) (by kernel_rfl) (fun _ _ _ h => h) (Or.inl ⟨by rfl, ?hy55a⟩) hHeld ?rest55a
  case hy55a => (intro W hSw; (try dsimp only at hSw); have k0 := cell_fr hSw hc1 (fun h => h); have k1 := cell_fr hSw hc2 (fun h => h); have k2 := cell_fr hSw hc3 (fun h => h); go_simp; all_goals (with_reducible rfl))
  change wpAnyH _ _ _ _ _ _ _ (Act.put _ (some 71) _) _
  simp only [Act.put, List.setIfInBounds_toArray, List.set_cons_zero, List.set_cons_succ]
  refine wpAnyH_take (i := 56) (v := ?v56a) rfl (by kernel_rfl) (by kernel_rfl) (by kernel_rfl) (fun _ _ _ h => h) (Or.inl ⟨by rfl, ?hy56a⟩) hHeld ?rest56a
  case hy56a => (intro W hSw; (try dsimp only at hSw); have k0 := cell_fr hSw hc1 (fun h => h); have k1 := cell_fr hSw hc2 (fun h => h); have k2 := cell_fr hSw hc3 (fun h => h); go_simp; all_goals (with_reducible rfl))
  change wpAnyH _ _ _ _ _ _ _ (Act.put _ (some 72) _) _
  simp only [Act.put, List.setIfInBounds_toArray, List.set_cons_zero, List.set_cons_succ]
  refine wpAnyH_take (i := 57) (v := ?v57a) rfl (by kernel_rfl) (by kernel_rfl) (by kernel_rfl) (fun _ _ _ h => h) (Or.inl ⟨by rfl, ?hy57a⟩) hHeld ?rest57a
  case hy57a => (intro W hSw; (try dsimp only at hSw); have k0 := cell_fr hSw hc1 (fun h => h); have k1 := cell_fr hSw hc2 (fun h => h); have k2 := cell_fr hSw hc3 (fun h => h); go_simp; all_goals (with_reducible rfl))
  change wpAnyH _ _ _ _ _ _ _ (Act.put _ (some 73) _) _
  simp only [Act.put, List.setIfInBounds_toArray, List.set_cons_zero, List.set_cons_succ]
  refine wpAnyH_take (i := 58) (v := ?v58a) rfl (by kernel_rfl) (by kernel_rfl) (by kernel_rfl) (fun _ _ _ h => h) (Or.inl ⟨by rfl, ?hy58a⟩) hHeld ?rest58a
  case hy58a => (intro W hSw; (try dsimp only at hSw); have k0 := cell_fr hSw hc1 (fun h => h); have k1 := cell_fr hSw hc2 (fun h => h); have k2 := cell_fr hSw hc3 (fun h => h); go_simp; all_goals (with_reducible rfl))
  change wpAnyH _ _ _ _ _ _ _ (Act.put _ (some 74) _) _
  simp only [Act.put, List.setIfInBounds_toArray, List.set_cons_zero, List.set_cons_succ]
  refine wpAnyH_take (i := 59) (v := ?v59a) rfl (by kernel_rfl) (by kernel_rfl) (by kernel_rfl) (fun _ _ _ h => h) (Or.inl ⟨by rfl, ?hy59a⟩) hHeld ?rest59a
  case hy59a => (intro W hSw; (try dsimp only at hSw); have k0 := cell_fr hSw hc1 (fun h => h); have k1 := cell_fr hSw hc2 (fun h => h); have k2 := cell_fr hSw hc3 (fun h => h); go_simp; all_goals (with_reducible rfl))
  change wpAnyH _ _ _ _ _ _ _ (Act.put _ (some 75) _) _
  simp only [Act.put, List.setIfInBounds_toArray, List.set_cons_zero, List.set_cons_succ]
  refine wpAnyH_take (i := 60) (v := ?v60a) rfl (by kernel_rfl) (by kernel_rfl) (by kernel_rfl) (fun _ _ _ h => h) (Or.inl ⟨by rfl, ?hy60a⟩) hHeld ?rest60a
  case hy60a => (intro W hSw; (try dsimp only at hSw); have k0 := cell_fr hSw hc1 (fun h => h); have k1 := cell_fr hSw hc2 (fun h => h); have k2 := cell_fr hSw hc3 (fun h => h); go_simp; all_goals (with_reducible rfl))
  change wpAnyH _ _ _ _ _ _ _ (Act.put _ (some 76) _) _
  simp only [Act.put, List.setIfInBounds_toArray, List.set_cons_zero, List.set_cons_succ]
  refine wpAnyH_take (i := 61) (v := ?v61a) rfl (by kernel_rfl) (by kernel_rfl) (by kernel_rfl) (fun _ _ _ h => h) (Or.inl ⟨by rfl, ?hy61a⟩) hHeld ?rest61a
  case hy61a => (intro W hSw; (try dsimp only at hSw); have k0 := cell_fr hSw hc1 (fun h => h); have k1 := cell_fr hSw hc2 (fun h => h); have k2 := cell_fr hSw hc3 (fun h => h); go_simp; all_goals (with_reducible rfl))
  change wpAnyH _ _ _ _ _ _ _ (Act.put _ (some 77) _) _
  simp only [Act.put, List.setIfInBounds_toArray, List.set_cons_zero, List.set_cons_succ]
  refine wpAnyH_take (i := 62) (v := ?v62a) rfl (by kernel_rfl) (by kernel_rfl) (by kernel_rfl) (fun _ _ _ h => h) (Or.inl ⟨by rfl, ?hy62a⟩) hHeld ?rest62a
  case hy62a => (intro W hSw; (try dsimp only at hSw); have k0 := cell_fr hSw hc1 (fun h => h); have k1 := cell_fr hSw hc2 (fun h => h); have k2 := cell_fr hSw hc3 (fun h => h); go_simp; all_goals (with_reducible rfl))
  change wpAnyH _ _ _ _ _ _ _ (Act.put _ (some 6) _) _
  simp only [Act.put, List.setIfInBounds_toArray, List.set_cons_zero, List.set_cons_succ]
  refine wpAnyH_done (by kernel_rfl) ?_ _
  go_wp2
  go_ret
  exact ⟨rfl, HF1.out.join hHeld⟩
end Go.Proofs.Ytkafhjjdeldkbaa
