/-
  filter: FilterPaeth, walked: the second is nearest.
-/
import Derived.Test.YtkafhjjdeldkbaaNa
namespace Go.Proofs.Ytkafhjjdeldkbaa
open Go.RowKit Go.Lib
set_option linter.unusedVariables false

set_option maxHeartbeats 3200000 in
theorem paeth_b (a b c : Nat) (w : World) (ha : a < 256) (hb : b < 256) (hc : c < 256) (hnear : paethV a b c = b ∧ paethV a b c ≠ a ∧ dist ((a : Int) + b - c) b < dist ((a : Int) + b - c) a ∧ dist ((a : Int) + b - c) b ≤ dist ((a : Int) + b - c) c) :
    Calls Try.prog 5 #[.int .u8 (a : Int), .int .u8 (b : Int), .int .u8 (c : Int)] w fun e w' => e = .returned (.bool true) ∧ Fr (fun _ => False) w w' := by
  obtain ⟨x1, x2, x3⟩ := box3 w a b c
  have X1 := hide x1
  have X2 := hide x2
  have X3 := hide x3
  have HF := hide (((Fr.of_alloc w (.cells #[.int .u8 (a : Int)] 5)).join (Fr.of_alloc _ (.cells #[.int .u8 (b : Int)] 5))).join (Fr.of_alloc _ (.cells #[.int .u8 (c : Int)] 5)))
  have HPC := hide (fun w => paeth_c a b c w ha hb hc)
  have HRC := hide (fun w => rpaeth_c a b c w ha hb hc)
  have HN := hide hnear
  have HCL := hide (fun (w : World) (x p q r : Nat) (hx : x < 256) h1 h2 h3 => clos_c x a b c p q r w hx ha hb hc h1 h2 h3)
  have hP := paeth_lt ha hb hc
  clear x1 x2 x3 hnear
  generalize paethV a b c = P at *
  generalize (a : Int) + b - c = s at *
  go_enter Try.func5, Try.ntmps5
  go_wp2_with fail
  refine (awake_c _).mono ?_
  rintro e w1 ⟨rfl, hf1⟩
  have HF1 := hide (HF.out.join hf1)
  have hc1 : w1.cell? ⟨w.heap.size, 0, none⟩ = some (.int .u8 (a : Int)) := by
    simp only [World.cell?, (hf1.block _ (lt_of X1.out) (fun h => h)).trans X1.out]; rfl
  have hc2 : w1.cell? ⟨w.heap.size + 1, 0, none⟩ = some (.int .u8 (b : Int)) := by
    simp only [World.cell?, (hf1.block _ (lt_of X2.out) (fun h => h)).trans X2.out]; rfl
  have hc3 : w1.cell? ⟨w.heap.size + 1 + 1, 0, none⟩ = some (.int .u8 (c : Int)) := by
    simp only [World.cell?, (hf1.block _ (lt_of X3.out) (fun h => h)).trans X3.out]; rfl
  clear hf1 HF X1 X2 X3
  have HA := hide (fun W (h : Fr (fun _ => False) w1 W) => HCL.out W a _ _ _ ha (cell_fr h hc1 (fun h => h)) (cell_fr h hc2 (fun h => h)) (cell_fr h hc3 (fun h => h)))
  have HB := hide (fun W (h : Fr (fun _ => False) w1 W) => HCL.out W b _ _ _ hb (cell_fr h hc1 (fun h => h)) (cell_fr h hc2 (fun h => h)) (cell_fr h hc3 (fun h => h)))
  have HC := hide (fun W (h : Fr (fun _ => False) w1 W) => HCL.out W c _ _ _ hc (cell_fr h hc1 (fun h => h)) (cell_fr h hc2 (fun h => h)) (cell_fr h hc3 (fun h => h)))
  have HP := hide (fun W (h : Fr (fun _ => False) w1 W) => HCL.out W P _ _ _ hP (cell_fr h hc1 (fun h => h)) (cell_fr h hc2 (fun h => h)) (cell_fr h hc3 (fun h => h)))
  have hn := HN.out
  clear HN HCL
  obtain ⟨hPe, hne, n1, n2⟩ := hn
  subst hPe
  have n3 : dist s P ≤ dist s a := by omega
  have hab : ((P : Int) == (a : Int)) = false := by simp; omega
  clear HB hP hne
  have HB := HP
  generalize dist s P = dp at *
  generalize dist s a = da at *
  generalize dist s c = dc at *
  go_wp2_with fail
  refine (HPC.out w1).mono ?_
  rintro e w' ⟨rfl, rfl⟩
  go_wp2
  refine wp_region_held_drew (S := fun W' => Fr (fun _ => False) w1 W') (by kernel_rfl) (by exact Fr.of_drewN _ 1) (fun hHeld => ?_)
  refine wpAnyH_take (i := 0) (v := ?v0b) rfl (by kernel_rfl) (by kernel_rfl) (by kernel_rfl) (fun _ _ _ h => h) (Or.inl ⟨by rfl, ?hy0b⟩) hHeld ?rest0b
  case hy0b => (intro W hSw; (try dsimp only at hSw); have k0 := cell_fr hSw hc1 (fun h => h); have k1 := cell_fr hSw hc2 (fun h => h); have k2 := cell_fr hSw hc3 (fun h => h); go_simp; all_goals (with_reducible rfl))
  change wpAnyH _ _ _ _ _ _ _ (Act.put _ (some 16) _) _
  simp only [Act.put, List.setIfInBounds_toArray, List.set_cons_zero, List.set_cons_succ]
  refine wpAnyH_take (i := 1) (v := ?v1b) rfl (by kernel_rfl) (by kernel_rfl) (by kernel_rfl) (fun _ _ _ h => h) (Or.inl ⟨by rfl, ?hy1b⟩) hHeld ?rest1b
  case hy1b => (intro W hSw; (try dsimp only at hSw); have k0 := cell_fr hSw hc1 (fun h => h); have k1 := cell_fr hSw hc2 (fun h => h); have k2 := cell_fr hSw hc3 (fun h => h); go_simp; all_goals (with_reducible rfl))
  change wpAnyH _ _ _ _ _ _ _ (Act.put _ (some 17) _) _
  simp only [Act.put, List.setIfInBounds_toArray, List.set_cons_zero, List.set_cons_succ]
  refine wpAnyH_take (i := 2) (v := ?v2b) rfl (by kernel_rfl) (by kernel_rfl) (by kernel_rfl) (fun _ _ _ h => h) (Or.inl ⟨by rfl, ?hy2b⟩) hHeld ?rest2b
  case hy2b => (intro W hSw; (try dsimp only at hSw); have k0 := cell_fr hSw hc1 (fun h => h); have k1 := cell_fr hSw hc2 (fun h => h); have k2 := cell_fr hSw hc3 (fun h => h); go_simp; all_goals (with_reducible rfl))
  change wpAnyH _ _ _ _ _ _ _ (Act.put _ (some 18) _) _
  simp only [Act.put, List.setIfInBounds_toArray, List.set_cons_zero, List.set_cons_succ]
  refine wpAnyH_take (i := 3) (v := ?v3b) rfl (by kernel_rfl) (by kernel_rfl) (by kernel_rfl) (fun _ _ _ h => h) (Or.inl ⟨by rfl, ?hy3b⟩) hHeld ?rest3b
  case hy3b => (intro W hSw; (try dsimp only at hSw); have k0 := cell_fr hSw hc1 (fun h => h); have k1 := cell_fr hSw hc2 (fun h => h); have k2 := cell_fr hSw hc3 (fun h => h); go_simp; all_goals (with_reducible rfl))
  change wpAnyH _ _ _ _ _ _ _ (Act.put _ (some 19) _) _
  simp only [Act.put, List.setIfInBounds_toArray, List.set_cons_zero, List.set_cons_succ]
  refine wpAnyH_ready (rs := [4]) (by kernel_rfl) (by simp) ?_
  refine AllReadyH.cons rfl (fun K hK => ?_) AllReadyH.nil
  try simp only [List.getElem_toArray, List.getElem_cons_succ, List.getElem_cons_zero]
  go_simp
  refine (HRC.out _).mono ?_
  rintro e v ⟨rfl, rfl⟩
  refine hK.out _ _ hHeld (fun hHeld => ?_)
  clear hK K
  refine wpAnyH_take (i := 5) (v := ?v5b) rfl (by kernel_rfl) (by kernel_rfl) (by kernel_rfl) (fun _ _ _ h => h) (Or.inl ⟨by rfl, ?hy5b⟩) hHeld ?rest5b
  case hy5b => (intro W hSw; (try dsimp only at hSw); have k0 := cell_fr hSw hc1 (fun h => h); have k1 := cell_fr hSw hc2 (fun h => h); have k2 := cell_fr hSw hc3 (fun h => h); go_simp; all_goals (with_reducible rfl))
  change wpAnyH _ _ _ _ _ _ _ (Act.put _ (some 21) _) _
  simp only [Act.put, List.setIfInBounds_toArray, List.set_cons_zero, List.set_cons_succ]
  refine wpAnyH_take (i := 6) (v := ?v6b) rfl (by kernel_rfl) (by kernel_rfl) (by kernel_rfl) (fun _ _ _ h => h) (Or.inl ⟨by rfl, ?hy6b⟩) hHeld ?rest6b
  case hy6b => (intro W hSw; (try dsimp only at hSw); have k0 := cell_fr hSw hc1 (fun h => h); have k1 := cell_fr hSw hc2 (fun h => h); have k2 := cell_fr hSw hc3 (fun h => h); go_simp; all_goals (with_reducible rfl))
  change wpAnyH _ _ _ _ _ _ _ (Act.put _ (some 22) _) _
  simp only [Act.put, List.setIfInBounds_toArray, List.set_cons_zero, List.set_cons_succ]
  refine wpAnyH_take (i := 7) (v := ?v7b) rfl (by kernel_rfl) (by kernel_rfl) (by kernel_rfl) (fun _ _ _ h => h) (Or.inl ⟨by rfl, ?hy7b⟩) hHeld ?rest7b
  case hy7b => (intro W hSw; (try dsimp only at hSw); have k0 := cell_fr hSw hc1 (fun h => h); have k1 := cell_fr hSw hc2 (fun h => h); have k2 := cell_fr hSw hc3 (fun h => h); go_simp; all_goals (with_reducible rfl))
  change wpAnyH _ _ _ _ _ _ _ (Act.put _ (some 23) _) _
  simp only [Act.put, List.setIfInBounds_toArray, List.set_cons_zero, List.set_cons_succ]
  refine wpAnyH_take (i := 8) (v := ?v8b) rfl (by kernel_rfl) (by kernel_rfl) (by kernel_rfl) (fun _ _ _ h => h) (Or.inl ⟨by rfl, ?hy8b⟩) hHeld ?rest8b
  case hy8b => (intro W hSw; (try dsimp only at hSw); have k0 := cell_fr hSw hc1 (fun h => h); have k1 := cell_fr hSw hc2 (fun h => h); have k2 := cell_fr hSw hc3 (fun h => h); go_simp; all_goals (with_reducible rfl))
  change wpAnyH _ _ _ _ _ _ _ (Act.put _ (some 24) _) _
  simp only [Act.put, List.setIfInBounds_toArray, List.set_cons_zero, List.set_cons_succ]
  refine wpAnyH_take (i := 9) (v := ?v9b) rfl (by kernel_rfl) (by kernel_rfl) (by kernel_rfl) (fun _ _ _ h => h) (Or.inl ⟨by rfl, ?hy9b⟩) hHeld ?rest9b
  case hy9b => (intro W hSw; (try dsimp only at hSw); have k0 := cell_fr hSw hc1 (fun h => h); have k1 := cell_fr hSw hc2 (fun h => h); have k2 := cell_fr hSw hc3 (fun h => h); go_simp; all_goals (with_reducible rfl))
  change wpAnyH _ _ _ _ _ _ _ (Act.put _ (some 25) _) _
  simp only [Act.put, List.setIfInBounds_toArray, List.set_cons_zero, List.set_cons_succ]
  refine wpAnyH_take (i := 10) (v := ?v10b) rfl (by kernel_rfl) (by kernel_rfl) (by kernel_rfl) (fun _ _ _ h => h) (Or.inl ⟨by rfl, ?hy10b⟩) hHeld ?rest10b
  case hy10b => (intro W hSw; (try dsimp only at hSw); have k0 := cell_fr hSw hc1 (fun h => h); have k1 := cell_fr hSw hc2 (fun h => h); have k2 := cell_fr hSw hc3 (fun h => h); go_simp; all_goals (with_reducible rfl))
  change wpAnyH _ _ _ _ _ _ _ (Act.put _ (some 26) _) _
  simp only [Act.put, List.setIfInBounds_toArray, List.set_cons_zero, List.set_cons_succ]
  refine wpAnyH_take (i := 11) (v := ?v11b) rfl (by kernel_rfl) (by kernel_rfl) (by kernel_rfl) (fun _ _ _ h => h) (Or.inl ⟨by rfl, ?hy11b⟩) hHeld ?rest11b
  case hy11b => (intro W hSw; (try dsimp only at hSw); have k0 := cell_fr hSw hc1 (fun h => h); have k1 := cell_fr hSw hc2 (fun h => h); have k2 := cell_fr hSw hc3 (fun h => h); go_simp; all_goals (with_reducible rfl))
  change wpAnyH _ _ _ _ _ _ _ (Act.put _ (some 27) _) _
  simp only [Act.put, List.setIfInBounds_toArray, List.set_cons_zero, List.set_cons_succ]
  refine wpAnyH_take (i := 12) (v := ?v12b) rfl (by kernel_rfl) (by kernel_rfl) (by kernel_rfl) (fun _ _ _ h => h) (Or.inl ⟨by rfl, ?hy12b⟩) hHeld ?rest12b
  case hy12b => (intro W hSw; (try dsimp only at hSw); have k0 := cell_fr hSw hc1 (fun h => h); have k1 := cell_fr hSw hc2 (fun h => h); have k2 := cell_fr hSw hc3 (fun h => h); go_simp; all_goals (with_reducible rfl))
  change wpAnyH _ _ _ _ _ _ _ (Act.put _ (some 28) _) _
  simp only [Act.put, List.setIfInBounds_toArray, List.set_cons_zero, List.set_cons_succ]
  refine wpAnyH_take (i := 13) (v := ?v13b) rfl (by kernel_rfl) (by kernel_rfl) (by kernel_rfl) (fun _ _ _ h => h) (Or.inl ⟨by rfl, ?hy13b⟩) hHeld ?rest13b
  case hy13b => (intro W hSw; (try dsimp only at hSw); have k0 := cell_fr hSw hc1 (fun h => h); have k1 := cell_fr hSw hc2 (fun h => h); have k2 := cell_fr hSw hc3 (fun h => h); go_simp; all_goals (with_reducible rfl))
  change wpAnyH _ _ _ _ _ _ _ (Act.put _ (some 29) _) _
  simp only [Act.put, List.setIfInBounds_toArray, List.set_cons_zero, List.set_cons_succ]
  refine wpAnyH_take (i := 14) (v := ?v14b) rfl (by kernel_rfl) (by kernel_rfl) (by kernel_rfl) (fun _ _ _ h => h) (Or.inl ⟨by rfl, ?hy14b⟩) hHeld ?rest14b
  case hy14b => (intro W hSw; (try dsimp only at hSw); have k0 := cell_fr hSw hc1 (fun h => h); have k1 := cell_fr hSw hc2 (fun h => h); have k2 := cell_fr hSw hc3 (fun h => h); go_simp; all_goals (with_reducible rfl))
  change wpAnyH _ _ _ _ _ _ _ (Act.put _ (some 30) _) _
  simp only [Act.put, List.setIfInBounds_toArray, List.set_cons_zero, List.set_cons_succ]
  refine wpAnyH_take (i := 15) (v := ?v15b) rfl (by kernel_rfl) (by kernel_rfl) (by kernel_rfl) (fun _ _ _ h => h) (Or.inl ⟨by rfl, ?hy15b⟩) hHeld ?rest15b
  case hy15b => (intro W hSw; (try dsimp only at hSw); have k0 := cell_fr hSw hc1 (fun h => h); have k1 := cell_fr hSw hc2 (fun h => h); have k2 := cell_fr hSw hc3 (fun h => h); go_simp; all_goals (with_reducible rfl))
  change wpAnyH _ _ _ _ _ _ _ (Act.put _ (some 31) _) _
  simp only [Act.put, List.setIfInBounds_toArray, List.set_cons_zero, List.set_cons_succ]
  refine wpAnyH_take (i := 16) (v := undef) rfl (by kernel_rfl) (by kernel_rfl) (by kernel_rfl) (fun _ _ _ h => h) (Or.inr ⟨by rfl, rfl⟩) hHeld ?rest16b
  change wpAnyH _ _ _ _ _ _ _ (Act.put _ (some 32) _) _
  simp only [Act.put, List.setIfInBounds_toArray, List.set_cons_zero, List.set_cons_succ]
  refine wpAnyH_take (i := 17) (v := undef) rfl (by kernel_rfl) (by kernel_rfl) (by kernel_rfl) (fun _ _ _ h => h) (Or.inr ⟨by rfl, rfl⟩) hHeld ?rest17b
  change wpAnyH _ _ _ _ _ _ _ (Act.put _ (some 33) _) _
  simp only [Act.put, List.setIfInBounds_toArray, List.set_cons_zero, List.set_cons_succ]
  refine wpAnyH_take (i := 18) (v := undef) rfl (by kernel_rfl) (by kernel_rfl) (by kernel_rfl) (fun _ _ _ h => h) (Or.inr ⟨by rfl, rfl⟩) hHeld ?rest18b
  change wpAnyH _ _ _ _ _ _ _ (Act.put _ (some 34) _) _
  simp only [Act.put, List.setIfInBounds_toArray, List.set_cons_zero, List.set_cons_succ]
  refine wpAnyH_take (i := 19) (v := ?v19b) rfl (by kernel_rfl) (by kernel_rfl) (by kernel_rfl) (fun _ _ _ h => h) (Or.inl ⟨by rfl, ?hy19b⟩) hHeld ?rest19b
  case hy19b => (intro W hSw; (try dsimp only at hSw); have k0 := cell_fr hSw hc1 (fun h => h); have k1 := cell_fr hSw hc2 (fun h => h); have k2 := cell_fr hSw hc3 (fun h => h); go_simp; all_goals (with_reducible rfl))
  change wpAnyH _ _ _ _ _ _ _ (Act.put _ (some 35) _) _
  simp only [Act.put, List.setIfInBounds_toArray, List.set_cons_zero, List.set_cons_succ]
  refine wpAnyH_take (i := 20) (v := ?v20b) rfl (by kernel_rfl) (by kernel_rfl) (by kernel_rfl) (fun _ _ _ h => h) (Or.inl ⟨by rfl, ?hy20b⟩) hHeld ?rest20b
  case hy20b => (intro W hSw; (try dsimp only at hSw); have k0 := cell_fr hSw hc1 (fun h => h); have k1 := cell_fr hSw hc2 (fun h => h); have k2 := cell_fr hSw hc3 (fun h => h); go_simp; all_goals (with_reducible rfl))
  change wpAnyH _ _ _ _ _ _ _ (Act.put _ (some 36) _) _
  simp only [Act.put, List.setIfInBounds_toArray, List.set_cons_zero, List.set_cons_succ]
  refine wpAnyH_take (i := 21) (v := ?v21b) rfl (by kernel_rfl) (by kernel_rfl) (by kernel_rfl) (fun _ _ _ h => h) (Or.inl ⟨by rfl, ?hy21b⟩) hHeld ?rest21b
  case hy21b => (intro W hSw; (try dsimp only at hSw); have k0 := cell_fr hSw hc1 (fun h => h); have k1 := cell_fr hSw hc2 (fun h => h); have k2 := cell_fr hSw hc3 (fun h => h); go_simp; all_goals (with_reducible rfl))
  change wpAnyH _ _ _ _ _ _ _ (Act.put _ (some 37) _) _
  simp only [Act.put, List.setIfInBounds_toArray, List.set_cons_zero, List.set_cons_succ]
  refine wpAnyH_take (i := 22) (v := ?v22b) rfl (by kernel_rfl) (by kernel_rfl) (by kernel_rfl) (fun _ _ _ h => h) (Or.inl ⟨by rfl, ?hy22b⟩) hHeld ?rest22b
  case hy22b => (intro W hSw; (try dsimp only at hSw); have k0 := cell_fr hSw hc1 (fun h => h); have k1 := cell_fr hSw hc2 (fun h => h); have k2 := cell_fr hSw hc3 (fun h => h); go_simp; all_goals (with_reducible rfl))
  change wpAnyH _ _ _ _ _ _ _ (Act.put _ (some 38) _) _
  simp only [Act.put, List.setIfInBounds_toArray, List.set_cons_zero, List.set_cons_succ]
  refine wpAnyH_take (i := 23) (v := ?v23b) rfl (by kernel_rfl) (by kernel_rfl) (by kernel_rfl) (fun _ _ _ h => h) (Or.inl ⟨by rfl, ?hy23b⟩) hHeld ?rest23b
  case hy23b => (intro W hSw; (try dsimp only at hSw); have k0 := cell_fr hSw hc1 (fun h => h); have k1 := cell_fr hSw hc2 (fun h => h); have k2 := cell_fr hSw hc3 (fun h => h); go_simp; all_goals (with_reducible rfl))
  change wpAnyH _ _ _ _ _ _ _ (Act.put _ (some 39) _) _
  simp only [Act.put, List.setIfInBounds_toArray, List.set_cons_zero, List.set_cons_succ]
  refine wpAnyH_take (i := 25) (v := ?v25b) rfl (by kernel_rfl) (by kernel_rfl) (by kernel_rfl) (fun _ _ _ h => h) (Or.inl ⟨by rfl, ?hy25b⟩) hHeld ?rest25b
  case hy25b => (intro W hSw; (try dsimp only at hSw); have k0 := cell_fr hSw hc1 (fun h => h); have k1 := cell_fr hSw hc2 (fun h => h); have k2 := cell_fr hSw hc3 (fun h => h); go_simp; all_goals (with_reducible rfl))
  change wpAnyH _ _ _ _ _ _ _ (Act.put _ (some 41) _) _
  simp only [Act.put, List.setIfInBounds_toArray, List.set_cons_zero, List.set_cons_succ]
  refine wpAnyH_take (i := 26) (v := ?v26b) rfl (by kernel_rfl) (by kernel_rfl) (by kernel_rfl) (fun _ _ _ h => h) (Or.inl ⟨by rfl, ?hy26b⟩) hHeld ?rest26b
  case hy26b => (intro W hSw; (try dsimp only at hSw); have k0 := cell_fr hSw hc1 (fun h => h); have k1 := cell_fr hSw hc2 (fun h => h); have k2 := cell_fr hSw hc3 (fun h => h); go_simp; all_goals (with_reducible rfl))
  change wpAnyH _ _ _ _ _ _ _ (Act.put _ (some 42) _) _
  simp only [Act.put, List.setIfInBounds_toArray, List.set_cons_zero, List.set_cons_succ]
  refine wpAnyH_ready (rs := [24]) (by kernel_rfl) (by simp) ?_
  refine AllReadyH.cons rfl (fun K hK => ?_) AllReadyH.nil
  try simp only [List.getElem_toArray, List.getElem_cons_succ, List.getElem_cons_zero]
  go_simp
  refine (HP.out _ hHeld).mono ?_
  rintro e v ⟨rfl, rfl⟩
  refine hK.out _ _ hHeld (fun hHeld => ?_)
  clear hK K
  refine wpAnyH_ready (rs := [27]) (by kernel_rfl) (by simp) ?_
  refine AllReadyH.cons rfl (fun K hK => ?_) AllReadyH.nil
  try simp only [List.getElem_toArray, List.getElem_cons_succ, List.getElem_cons_zero]
  go_simp
  refine (HA.out _ hHeld).mono ?_
  rintro e v ⟨rfl, rfl⟩
  refine hK.out _ _ hHeld (fun hHeld => ?_)
  clear hK K
  refine wpAnyH_take (i := 28) (v := ?v28b) rfl (by kernel_rfl) (by kernel_rfl) (by kernel_rfl) (fun _ _ _ h => h) (Or.inl ⟨by rfl, ?hy28b⟩) hHeld ?rest28b
  case hy28b => (intro W hSw; (try dsimp only at hSw); have k0 := cell_fr hSw hc1 (fun h => h); have k1 := cell_fr hSw hc2 (fun h => h); have k2 := cell_fr hSw hc3 (fun h => h); go_simp; all_goals (with_reducible rfl))
  change wpAnyH _ _ _ _ _ _ _ (Act.put _ (some 44) _) _
  simp only [Act.put, List.setIfInBounds_toArray, List.set_cons_zero, List.set_cons_succ]
  refine wpAnyH_take (i := 29) (v := ?v29b) rfl (by kernel_rfl) (by kernel_rfl) (by kernel_rfl) (fun _ _ _ h => h) (Or.inl ⟨by rfl, ?hy29b⟩) hHeld ?rest29b
  case hy29b => (intro W hSw; (try dsimp only at hSw); have k0 := cell_fr hSw hc1 (fun h => h); have k1 := cell_fr hSw hc2 (fun h => h); have k2 := cell_fr hSw hc3 (fun h => h); go_simp; all_goals (with_reducible rfl))
  change wpAnyH _ _ _ _ _ _ _ (Act.put _ (some 45) _) _
  simp only [Act.put, List.setIfInBounds_toArray, List.set_cons_zero, List.set_cons_succ]
  refine wpAnyH_take (i := 30) (v := ?v30b) rfl (by kernel_rfl) (by kernel_rfl) (by kernel_rfl) (fun _ _ _ h => h) (Or.inl ⟨by rfl, ?hy30b⟩) hHeld ?rest30b
  case hy30b => (intro W hSw; (try dsimp only at hSw); have k0 := cell_fr hSw hc1 (fun h => h); have k1 := cell_fr hSw hc2 (fun h => h); have k2 := cell_fr hSw hc3 (fun h => h); go_simp; all_goals (with_reducible rfl))
  change wpAnyH _ _ _ _ _ _ _ (Act.put _ (some 46) _) _
  simp only [Act.put, List.setIfInBounds_toArray, List.set_cons_zero, List.set_cons_succ]
  refine wpAnyH_take (i := 31) (v := ?v31b) rfl (by kernel_rfl) (by kernel_rfl) (by kernel_rfl) (fun _ _ _ h => h) (Or.inl ⟨by rfl, ?hy31b⟩) hHeld ?rest31b
  case hy31b => (intro W hSw; (try dsimp only at hSw); have k0 := cell_fr hSw hc1 (fun h => h); have k1 := cell_fr hSw hc2 (fun h => h); have k2 := cell_fr hSw hc3 (fun h => h); go_simp; all_goals (with_reducible rfl))
  change wpAnyH _ _ _ _ _ _ _ (Act.put _ (some 47) _) _
  simp only [Act.put, List.setIfInBounds_toArray, List.set_cons_zero, List.set_cons_succ]
  refine wpAnyH_take (i := 32) (v := ?v32b) rfl (by kernel_rfl) (by kernel_rfl) (by kernel_rfl) (fun _ _ _ h => h) (Or.inl ⟨by rfl, ?hy32b⟩) hHeld ?rest32b
  case hy32b => (intro W hSw; (try dsimp only at hSw); have k0 := cell_fr hSw hc1 (fun h => h); have k1 := cell_fr hSw hc2 (fun h => h); have k2 := cell_fr hSw hc3 (fun h => h); go_simp; all_goals (with_reducible rfl))
  change wpAnyH _ _ _ _ _ _ _ (Act.put _ (some 48) _) _
  simp only [Act.put, List.setIfInBounds_toArray, List.set_cons_zero, List.set_cons_succ]
  refine wpAnyH_take (i := 34) (v := ?v34b) rfl (by kernel_rfl) (by kernel_rfl) (by kernel_rfl) (fun _ _ _ h => h) (Or.inl ⟨by rfl, ?hy34b⟩) hHeld ?rest34b
  case hy34b => (intro W hSw; (try dsimp only at hSw); have k0 := cell_fr hSw hc1 (fun h => h); have k1 := cell_fr hSw hc2 (fun h => h); have k2 := cell_fr hSw hc3 (fun h => h); go_simp; all_goals (with_reducible rfl))
  change wpAnyH _ _ _ _ _ _ _ (Act.put _ (some 50) _) _
  simp only [Act.put, List.setIfInBounds_toArray, List.set_cons_zero, List.set_cons_succ]
  refine wpAnyH_take (i := 35) (v := ?v35b) rfl (by kernel_rfl) (by kernel_rfl) (by kernel_rfl) (fun _ _ _ h => h) (Or.inl ⟨by rfl, ?hy35b⟩) hHeld ?rest35b
  case hy35b => (intro W hSw; (try dsimp only at hSw); have k0 := cell_fr hSw hc1 (fun h => h); have k1 := cell_fr hSw hc2 (fun h => h); have k2 := cell_fr hSw hc3 (fun h => h); go_simp; all_goals (with_reducible rfl))
  change wpAnyH _ _ _ _ _ _ _ (Act.put _ (some 51) _) _
  simp only [Act.put, List.setIfInBounds_toArray, List.set_cons_zero, List.set_cons_succ]
  refine wpAnyH_ready (rs := [33]) (by kernel_rfl) (by simp) ?_
  refine AllReadyH.cons rfl (fun K hK => ?_) AllReadyH.nil
  try simp only [List.getElem_toArray, List.getElem_cons_succ, List.getElem_cons_zero]
  go_simp
  refine (HP.out _ hHeld).mono ?_
  rintro e v ⟨rfl, rfl⟩
  refine hK.out _ _ hHeld (fun hHeld => ?_)
  clear hK K
  refine wpAnyH_ready (rs := [36]) (by kernel_rfl) (by simp) ?_
  refine AllReadyH.cons rfl (fun K hK => ?_) AllReadyH.nil
  try simp only [List.getElem_toArray, List.getElem_cons_succ, List.getElem_cons_zero]
  go_simp
  refine (HB.out _ hHeld).mono ?_
  rintro e v ⟨rfl, rfl⟩
  refine hK.out _ _ hHeld (fun hHeld => ?_)
  clear hK K
  refine wpAnyH_take (i := 37) (v := ?v37b) rfl (by kernel_rfl) (by kernel_rfl) (by kernel_rfl) (fun _ _ _ h => h) (Or.inl ⟨by rfl, ?hy37b⟩) hHeld ?rest37b
  case hy37b => (intro W hSw; (try dsimp only at hSw); have k0 := cell_fr hSw hc1 (fun h => h); have k1 := cell_fr hSw hc2 (fun h => h); have k2 := cell_fr hSw hc3 (fun h => h); go_simp; all_goals (with_reducible rfl))
  change wpAnyH _ _ _ _ _ _ _ (Act.put _ (some 53) _) _
  simp only [Act.put, List.setIfInBounds_toArray, List.set_cons_zero, List.set_cons_succ]
  refine wpAnyH_take (i := 38) (v := ?v38b) rfl (by kernel_rfl) (by kernel_rfl) (by kernel_rfl) (fun _ _ _ h => h) (Or.inl ⟨by rfl, ?hy38b⟩) hHeld ?rest38b
  case hy38b => (intro W hSw; (try dsimp only at hSw); have k0 := cell_fr hSw hc1 (fun h => h); have k1 := cell_fr hSw hc2 (fun h => h); have k2 := cell_fr hSw hc3 (fun h => h); go_simp; all_goals (with_reducible rfl))
  change wpAnyH _ _ _ _ _ _ _ (Act.put _ (some 54) _) _
  simp only [Act.put, List.setIfInBounds_toArray, List.set_cons_zero, List.set_cons_succ]
  refine wpAnyH_take (i := 39) (v := ?v39b) rfl (by kernel_rfl) (by kernel_rfl) (by kernel_rfl) (fun _ _ _ h => h) (Or.inl ⟨by rfl, ?hy39b⟩) hHeld ?rest39b
  case hy39b => (intro W hSw; (try dsimp only at hSw); have k0 := cell_fr hSw hc1 (fun h => h); have k1 := cell_fr hSw hc2 (fun h => h); have k2 := cell_fr hSw hc3 (fun h => h); go_simp; all_goals (with_reducible rfl))
  change wpAnyH _ _ _ _ _ _ _ (Act.put _ (some 55) _) _
  simp only [Act.put, List.setIfInBounds_toArray, List.set_cons_zero, List.set_cons_succ]
  refine wpAnyH_take (i := 40) (v := ?v40b) rfl (by kernel_rfl) (by kernel_rfl) (by kernel_rfl) (fun _ _ _ h => h) (Or.inl ⟨by rfl, ?hy40b⟩) hHeld ?rest40b
  case hy40b => (intro W hSw; (try dsimp only at hSw); have k0 := cell_fr hSw hc1 (fun h => h); have k1 := cell_fr hSw hc2 (fun h => h); have k2 := cell_fr hSw hc3 (fun h => h); go_simp; all_goals (with_reducible rfl))
  change wpAnyH _ _ _ _ _ _ _ (Act.put _ (some 56) _) _
  simp only [Act.put, List.setIfInBounds_toArray, List.set_cons_zero, List.set_cons_succ]
  refine wpAnyH_take (i := 41) (v := ?v41b) rfl (by kernel_rfl) (by kernel_rfl) (by kernel_rfl) (fun _ _ _ h => h) (Or.inl ⟨by rfl, ?hy41b⟩) hHeld ?rest41b
  case hy41b => (intro W hSw; (try dsimp only at hSw); have k0 := cell_fr hSw hc1 (fun h => h); have k1 := cell_fr hSw hc2 (fun h => h); have k2 := cell_fr hSw hc3 (fun h => h); go_simp; all_goals (with_reducible rfl))
  change wpAnyH _ _ _ _ _ _ _ (Act.put _ (some 57) _) _
  simp only [Act.put, List.setIfInBounds_toArray, List.set_cons_zero, List.set_cons_succ]
  refine wpAnyH_take (i := 43) (v := ?v43b) rfl (by kernel_rfl) (by kernel_rfl) (by kernel_rfl) (fun _ _ _ h => h) (Or.inl ⟨by rfl, ?hy43b⟩) hHeld ?rest43b
  case hy43b => (intro W hSw; (try dsimp only at hSw); have k0 := cell_fr hSw hc1 (fun h => h); have k1 := cell_fr hSw hc2 (fun h => h); have k2 := cell_fr hSw hc3 (fun h => h); go_simp; all_goals (with_reducible rfl))
  change wpAnyH _ _ _ _ _ _ _ (Act.put _ (some 59) _) _
  simp only [Act.put, List.setIfInBounds_toArray, List.set_cons_zero, List.set_cons_succ]
  refine wpAnyH_take (i := 44) (v := ?v44b) rfl (by kernel_rfl) (by kernel_rfl) (by kernel_rfl) (fun _ _ _ h => h) (Or.inl ⟨by rfl, ?hy44b⟩) hHeld ?rest44b
  case hy44b => (intro W hSw; (try dsimp only at hSw); have k0 := cell_fr hSw hc1 (fun h => h); have k1 := cell_fr hSw hc2 (fun h => h); have k2 := cell_fr hSw hc3 (fun h => h); go_simp; all_goals (with_reducible rfl))
  change wpAnyH _ _ _ _ _ _ _ (Act.put _ (some 60) _) _
  simp only [Act.put, List.setIfInBounds_toArray, List.set_cons_zero, List.set_cons_succ]
  refine wpAnyH_ready (rs := [42]) (by kernel_rfl) (by simp) ?_
  refine AllReadyH.cons rfl (fun K hK => ?_) AllReadyH.nil
  try simp only [List.getElem_toArray, List.getElem_cons_succ, List.getElem_cons_zero]
  go_simp
  refine (HP.out _ hHeld).mono ?_
  rintro e v ⟨rfl, rfl⟩
  refine hK.out _ _ hHeld (fun hHeld => ?_)
  clear hK K
  refine wpAnyH_ready (rs := [45]) (by kernel_rfl) (by simp) ?_
  refine AllReadyH.cons rfl (fun K hK => ?_) AllReadyH.nil
  try simp only [List.getElem_toArray, List.getElem_cons_succ, List.getElem_cons_zero]
  go_simp
  refine (HC.out _ hHeld).mono ?_
  rintro e v ⟨rfl, rfl⟩
  refine hK.out _ _ hHeld (fun hHeld => ?_)
  clear hK K
  refine wpAnyH_take (i := 46) (v := ?v46b) rfl (by kernel_rfl) (by kernel_rfl) (by kernel_rfl) (fun _ _ _ h => h) (Or.inl ⟨by rfl, ?hy46b⟩) hHeld ?rest46b
  case hy46b => (intro W hSw; (try dsimp only at hSw); have k0 := cell_fr hSw hc1 (fun h => h); have k1 := cell_fr hSw hc2 (fun h => h); have k2 := cell_fr hSw hc3 (fun h => h); go_simp; all_goals (with_reducible rfl))
  change wpAnyH _ _ _ _ _ _ _ (Act.put _ (some 62) _) _
  simp only [Act.put, List.setIfInBounds_toArray, List.set_cons_zero, List.set_cons_succ]
  refine wpAnyH_take (i := 47) (v := ?v47b) rfl (by kernel_rfl) (by kernel_rfl) (by kernel_rfl) (fun _ _ _ h => h) (Or.inl ⟨by rfl, ?hy47b⟩) hHeld ?rest47b
  case hy47b => (intro W hSw; (try dsimp only at hSw); have k0 := cell_fr hSw hc1 (fun h => h); have k1 := cell_fr hSw hc2 (fun h => h); have k2 := cell_fr hSw hc3 (fun h => h); go_simp; all_goals (with_reducible rfl))
  change wpAnyH _ _ _ _ _ _ _ (Act.put _ (some 63) _) _
  simp only [Act.put, List.setIfInBounds_toArray, List.set_cons_zero, List.set_cons_succ]
  refine wpAnyH_take (i := 48) (v := ?v48b) rfl (by kernel_rfl) (by kernel_rfl) (by kernel_rfl) (fun _ _ _ h => h) (Or.inl ⟨by rfl, ?hy48b⟩) hHeld ?rest48b
  case hy48b => (intro W hSw; (try dsimp only at hSw); have k0 := cell_fr hSw hc1 (fun h => h); have k1 := cell_fr hSw hc2 (fun h => h); have k2 := cell_fr hSw hc3 (fun h => h); go_simp; all_goals (with_reducible rfl))
  change wpAnyH _ _ _ _ _ _ _ (Act.put _ (some 64) _) _
  simp only [Act.put, List.setIfInBounds_toArray, List.set_cons_zero, List.set_cons_succ]
  refine wpAnyH_take (i := 49) (v := ?v49b) rfl (by kernel_rfl) (by kernel_rfl) (by kernel_rfl) (fun _ _ _ h => h) (Or.inl ⟨by rfl, ?hy49b⟩) hHeld ?rest49b
  case hy49b => (intro W hSw; (try dsimp only at hSw); have k0 := cell_fr hSw hc1 (fun h => h); have k1 := cell_fr hSw hc2 (fun h => h); have k2 := cell_fr hSw hc3 (fun h => h); go_simp; all_goals (with_reducible rfl))
  change wpAnyH _ _ _ _ _ _ _ (Act.put _ (some 65) _) _
  simp only [Act.put, List.setIfInBounds_toArray, List.set_cons_zero, List.set_cons_succ]
  refine wpAnyH_take (i := 50) (v := ?v50b) rfl (by kernel_rfl) (by kernel_rfl) (by kernel_rfl) (fun _ _ _ h => h) (Or.inl ⟨by rfl, ?hy50b⟩) hHeld ?rest50b
  case hy50b => (intro W hSw; (try dsimp only at hSw); have k0 := cell_fr hSw hc1 (fun h => h); have k1 := cell_fr hSw hc2 (fun h => h); have k2 := cell_fr hSw hc3 (fun h => h); go_simp; all_goals (with_reducible rfl))
  change wpAnyH _ _ _ _ _ _ _ (Act.put _ (some 66) _) _
  simp only [Act.put, List.setIfInBounds_toArray, List.set_cons_zero, List.set_cons_succ]
  refine wpAnyH_take (i := 52) (v := ?v52b) rfl (by kernel_rfl) (by kernel_rfl) (by kernel_rfl) (fun _ _ _ h => h) (Or.inl ⟨by rfl, ?hy52b⟩) hHeld ?rest52b
  case hy52b => (intro W hSw; (try dsimp only at hSw); have k0 := cell_fr hSw hc1 (fun h => h); have k1 := cell_fr hSw hc2 (fun h => h); have k2 := cell_fr hSw hc3 (fun h => h); go_simp; all_goals (with_reducible rfl))
  change wpAnyH _ _ _ _ _ _ _ (Act.put _ (some 68) _) _
  simp only [Act.put, List.setIfInBounds_toArray, List.set_cons_zero, List.set_cons_succ]
  refine wpAnyH_take (i := 53) (v := ?v53b) rfl (by kernel_rfl) (by kernel_rfl) (by kernel_rfl) (fun _ _ _ h => h) (Or.inl ⟨by rfl, ?hy53b⟩) hHeld ?rest53b
  case hy53b => (intro W hSw; (try dsimp only at hSw); have k0 := cell_fr hSw hc1 (fun h => h); have k1 := cell_fr hSw hc2 (fun h => h); have k2 := cell_fr hSw hc3 (fun h => h); go_simp; all_goals (with_reducible rfl))
  change wpAnyH _ _ _ _ _ _ _ (Act.put _ (some 69) _) _
  simp only [Act.put, List.setIfInBounds_toArray, List.set_cons_zero, List.set_cons_succ]
  refine wpAnyH_ready (rs := [51]) (by kernel_rfl) (by simp) ?_
  refine AllReadyH.cons rfl (fun K hK => ?_) AllReadyH.nil
  try simp only [List.getElem_toArray, List.getElem_cons_succ, List.getElem_cons_zero]
  go_simp
  refine (HP.out _ hHeld).mono ?_
  rintro e v ⟨rfl, rfl⟩
  refine hK.out _ _ hHeld (fun hHeld => ?_)
  clear hK K
  refine wpAnyH_ready (rs := [54]) (by kernel_rfl) (by simp) ?_
  refine AllReadyH.cons rfl (fun K hK => ?_) AllReadyH.nil
  try simp only [List.getElem_toArray, List.getElem_cons_succ, List.getElem_cons_zero]
  go_simp
  refine (HA.out _ hHeld).mono ?_
  rintro e v ⟨rfl, rfl⟩
  refine hK.out _ _ hHeld (fun hHeld => ?_)
  clear hK K
  refine wpAnyH_take (i := 55) (v := ?v55b) rfl (by kernel_rfl) (by kernel_rfl) (by kernel_rfl) (fun _ _ _ h => h) (Or.inl ⟨by rfl, ?hy55b⟩) hHeld ?rest55b
  case hy55b => (intro W hSw; (try dsimp only at hSw); have k0 := cell_fr hSw hc1 (fun h => h); have k1 := cell_fr hSw hc2 (fun h => h); have k2 := cell_fr hSw hc3 (fun h => h); go_simp; all_goals (with_reducible rfl))
  change wpAnyH _ _ _ _ _ _ _ (Act.put _ (some 71) _) _
  simp only [Act.put, List.setIfInBounds_toArray, List.set_cons_zero, List.set_cons_succ]
  refine wpAnyH_take (i := 56) (v := ?v56b) rfl (by kernel_rfl) (by kernel_rfl) (by kernel_rfl) (fun _ _ _ h => h) (Or.inl ⟨by rfl, ?hy56b⟩) hHeld ?rest56b
  case hy56b => (intro W hSw; (try dsimp only at hSw); have k0 := cell_fr hSw hc1 (fun h => h); have k1 := cell_fr hSw hc2 (fun h => h); have k2 := cell_fr hSw hc3 (fun h => h); go_simp; all_goals (with_reducible rfl))
  change wpAnyH _ _ _ _ _ _ _ (Act.put _ (some 72) _) _
  simp only [Act.put, List.setIfInBounds_toArray, List.set_cons_zero, List.set_cons_succ]
  refine wpAnyH_take (i := 57) (v := undef) rfl (by kernel_rfl) (by kernel_rfl) (by kernel_rfl) (fun _ _ _ h => h) (Or.inr ⟨by rfl, rfl⟩) hHeld ?rest57b
  change wpAnyH _ _ _ _ _ _ _ (Act.put _ (some 73) _) _
  simp only [Act.put, List.setIfInBounds_toArray, List.set_cons_zero, List.set_cons_succ]
  refine wpAnyH_take (i := 58) (v := undef) rfl (by kernel_rfl) (by kernel_rfl) (by kernel_rfl) (fun _ _ _ h => h) (Or.inr ⟨by rfl, rfl⟩) hHeld ?rest58b
  change wpAnyH _ _ _ _ _ _ _ (Act.put _ (some 74) _) _
  simp only [Act.put, List.setIfInBounds_toArray, List.set_cons_zero, List.set_cons_succ]
  refine wpAnyH_take (i := 59) (v := undef) rfl (by kernel_rfl) (by kernel_rfl) (by kernel_rfl) (fun _ _ _ h => h) (Or.inr ⟨by rfl, rfl⟩) hHeld ?rest59b
  change wpAnyH _ _ _ _ _ _ _ (Act.put _ (some 75) _) _
  simp only [Act.put, List.setIfInBounds_toArray, List.set_cons_zero, List.set_cons_succ]
  refine wpAnyH_take (i := 60) (v := ?v60b) rfl (by kernel_rfl) (by kernel_rfl) (by kernel_rfl) (fun _ _ _ h => h) (Or.inl ⟨by rfl, ?hy60b⟩) hHeld ?rest60b
  case hy60b => (intro W hSw; (try dsimp only at hSw); have k0 := cell_fr hSw hc1 (fun h => h); have k1 := cell_fr hSw hc2 (fun h => h); have k2 := cell_fr hSw hc3 (fun h => h); go_simp; all_goals (with_reducible rfl))
  change wpAnyH _ _ _ _ _ _ _ (Act.put _ (some 76) _) _
  simp only [Act.put, List.setIfInBounds_toArray, List.set_cons_zero, List.set_cons_succ]
  refine wpAnyH_take (i := 61) (v := ?v61b) rfl (by kernel_rfl) (by kernel_rfl) (by kernel_rfl) (fun _ _ _ h => h) (Or.inl ⟨by rfl, ?hy61b⟩) hHeld ?rest61b
  case hy61b => (intro W hSw; (try dsimp only at hSw); have k0 := cell_fr hSw hc1 (fun h => h); have k1 := cell_fr hSw hc2 (fun h => h); have k2 := cell_fr hSw hc3 (fun h => h); go_simp; all_goals (with_reducible rfl))
  change wpAnyH _ _ _ _ _ _ _ (Act.put _ (some 77) _) _
  simp only [Act.put, List.setIfInBounds_toArray, List.set_cons_zero, List.set_cons_succ]
  refine wpAnyH_take (i := 62) (v := ?v62b) rfl (by kernel_rfl) (by kernel_rfl) (by kernel_rfl) (fun _ _ _ h => h) (Or.inl ⟨by rfl, ?hy62b⟩) hHeld ?rest62b
  case hy62b => (intro W hSw; (try dsimp only at hSw); have k0 := cell_fr hSw hc1 (fun h => h); have k1 := cell_fr hSw hc2 (fun h => h); have k2 := cell_fr hSw hc3 (fun h => h); go_simp; all_goals (with_reducible rfl))
  change wpAnyH _ _ _ _ _ _ _ (Act.put _ (some 6) _) _
  simp only [Act.put, List.setIfInBounds_toArray, List.set_cons_zero, List.set_cons_succ]
  refine wpAnyH_done (by kernel_rfl) ?_ _
  go_wp2
  go_ret
  exact ⟨rfl, HF1.out.join hHeld⟩
end Go.Proofs.Ytkafhjjdeldkbaa
