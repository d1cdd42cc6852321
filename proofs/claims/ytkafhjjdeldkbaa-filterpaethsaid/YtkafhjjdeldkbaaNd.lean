/-
  filter: FilterPaeth, walked: the third is nearest.
-/
import Derived.Test.YtkafhjjdeldkbaaNa
namespace Go.Proofs.Ytkafhjjdeldkbaa
open Go.RowKit Go.Lib
set_option linter.unusedVariables false

set_option maxHeartbeats 3200000 in
theorem paeth_d (a b c : Nat) (w : World) (ha : a < 256) (hb : b < 256) (hc : c < 256) (hnear : paethV a b c = c ∧ paethV a b c ≠ a ∧ paethV a b c ≠ b ∧ dist ((a : Int) + b - c) c < dist ((a : Int) + b - c) a ∧ dist ((a : Int) + b - c) c ≤ dist ((a : Int) + b - c) b) :
    Calls Try.prog 5 #[.int .u8 (a : Int), .int .u8 (b : Int), .int .u8 (c : Int)] w fun e w' => e = .returned (.bool true) ∧ Fr (fun _ => False) w w' := by
  obtain ⟨x1, x2, x3⟩ := box3 w a b c
  have X1 := hide x1
  have X2 := hide x2
  have X3 := hide x3
  have HF := hide (((Fr.of_alloc w (.cells #[.int .u8 (a : Int)] 5)).join (Fr.of_alloc _ (.cells #[.int .u8 (b : Int)] 5))).join (Fr.of_alloc _ (.cells #[.int .u8 (c : Int)] 5)))
  have HPC := hide (fun w => paeth_c a b c w ha hb hc)
  have HRC := hide (fun w => rpaeth_c a b c w ha hb hc)
  have HN := hide hnear
  have HCL := hide (fun (w : World) (x p q r : Nat) (hx : x < 256) h1 h2 h3 => clos_c x a b c p q r w hx ha hb hc h1 h2 h3)
  have hP := paeth_lt ha hb hc
  clear x1 x2 x3 hnear
  generalize paethV a b c = P at *
  generalize (a : Int) + b - c = s at *
  go_enter Try.func5, Try.ntmps5
  go_wp2_with fail
  refine (awake_c _).mono ?_
  rintro e w1 ⟨rfl, hf1⟩
  have HF1 := hide (HF.out.join hf1)
  have hc1 : w1.cell? ⟨w.heap.size, 0, none⟩ = some (.int .u8 (a : Int)) := by
    simp only [World.cell?, (hf1.block _ (lt_of X1.out) (fun h => h)).trans X1.out]; rfl
  have hc2 : w1.cell? ⟨w.heap.size + 1, 0, none⟩ = some (.int .u8 (b : Int)) := by
    simp only [World.cell?, (hf1.block _ (lt_of X2.out) (fun h => h)).trans X2.out]; rfl
  have hc3 : w1.cell? ⟨w.heap.size + 1 + 1, 0, none⟩ = some (.int .u8 (c : Int)) := by
    simp only [World.cell?, (hf1.block _ (lt_of X3.out) (fun h => h)).trans X3.out]; rfl
  clear hf1 HF X1 X2 X3
  have HA := hide (fun W (h : Fr (fun _ => False) w1 W) => HCL.out W a _ _ _ ha (cell_fr h hc1 (fun h => h)) (cell_fr h hc2 (fun h => h)) (cell_fr h hc3 (fun h => h)))
  have HB := hide (fun W (h : Fr (fun _ => False) w1 W) => HCL.out W b _ _ _ hb (cell_fr h hc1 (fun h => h)) (cell_fr h hc2 (fun h => h)) (cell_fr h hc3 (fun h => h)))
  have HC := hide (fun W (h : Fr (fun _ => False) w1 W) => HCL.out W c _ _ _ hc (cell_fr h hc1 (fun h => h)) (cell_fr h hc2 (fun h => h)) (cell_fr h hc3 (fun h => h)))
  have HP := hide (fun W (h : Fr (fun _ => False) w1 W) => HCL.out W P _ _ _ hP (cell_fr h hc1 (fun h => h)) (cell_fr h hc2 (fun h => h)) (cell_fr h hc3 (fun h => h)))
  have hn := HN.out
  clear HN HCL
  obtain ⟨hPe, hne, hne2, n1, n2⟩ := hn
  subst hPe
  have n3 : dist s P ≤ dist s a := by omega
  have hab : ((P : Int) == (a : Int)) = false := by simp; omega
  have hab2 : ((P : Int) == (b : Int)) = false := by simp; omega
  clear HC hP hne hne2
  have HC := HP
  generalize dist s P = dp at *
  generalize dist s a = da at *
  generalize dist s b = db at *
  go_wp2_with fail
  refine (HPC.out w1).mono ?_
  rintro e w' ⟨rfl, rfl⟩
  go_wp2
  refine wp_region_held_drew (S := fun W' => Fr (fun _ => False) w1 W') (by kernel_rfl) (by exact Fr.of_drewN _ 1) (fun hHeld => ?_)
  refine wpAnyH_take (i := 0) (v := ?v0c) rfl (by kernel_rfl) (by kernel_rfl) (by kernel_rfl) (fun _ _ _ h => h) (Or.inl ⟨by rfl, ?hy0c⟩) hHeld ?rest0c
  case hy0c => (intro W hSw; (try dsimp only at hSw); have k0 := cell_fr hSw hc1 (fun h => h); have k1 := cell_fr hSw hc2 (fun h => h); have k2 := cell_fr hSw hc3 (fun h => h); go_simp; all_goals (with_reducible rfl))
  change wpAnyH _ _ _ _ _ _ _ (Act.put _ (some 16) _) _
  simp only [Act.put, List.setIfInBounds_toArray, List.set_cons_zero, List.set_cons_succ]
  refine wpAnyH_take (i := 1) (v := ?v1c) rfl (by kernel_rfl) (by kernel_rfl) (by kernel_rfl) (fun _ _ _ h => h) (Or.inl ⟨by rfl, ?hy1c⟩) hHeld ?rest1c
  case hy1c => (intro W hSw; (try dsimp only at hSw); have k0 := cell_fr hSw hc1 (fun h => h); have k1 := cell_fr hSw hc2 (fun h => h); have k2 := cell_fr hSw hc3 (fun h => h); go_simp; all_goals (with_reducible rfl))
  change wpAnyH _ _ _ _ _ _ _ (Act.put _ (some 17) _) _
  simp only [Act.put, List.setIfInBounds_toArray, List.set_cons_zero, List.set_cons_succ]
  refine wpAnyH_take (i := 2) (v := ?v2c) rfl (by kernel_rfl) (by kernel_rfl) (by kernel_rfl) (fun _ _ _ h => h) (Or.inl ⟨by rfl, ?hy2c⟩) hHeld ?rest2c
  case hy2c => (intro W hSw; (try dsimp only at hSw); have k0 := cell_fr hSw hc1 (fun h => h); have k1 := cell_fr hSw hc2 (fun h => h); have k2 := cell_fr hSw hc3 (fun h => h); go_simp; all_goals (with_reducible rfl))
  change wpAnyH _ _ _ _ _ _ _ (Act.put _ (some 18) _) _
  simp only [Act.put, List.setIfInBounds_toArray, List.set_cons_zero, List.set_cons_succ]
  refine wpAnyH_take (i := 3) (v := ?v3c) rfl (by kernel_rfl) (by kernel_rfl) (by kernel_rfl) (fun _ _ _ h => h) (Or.inl ⟨by rfl, ?hy3c⟩) hHeld ?rest3c
  case hy3c => (intro W hSw; (try dsimp only at hSw); have k0 := cell_fr hSw hc1 (fun h => h); have k1 := cell_fr hSw hc2 (fun h => h); have k2 := cell_fr hSw hc3 (fun h => h); go_simp; all_goals (with_reducible rfl))
  change wpAnyH _ _ _ _ _ _ _ (Act.put _ (some 19) _) _
  simp only [Act.put, List.setIfInBounds_toArray, List.set_cons_zero, List.set_cons_succ]
  refine wpAnyH_ready (rs := [4]) (by kernel_rfl) (by simp) ?_
  refine AllReadyH.cons rfl (fun K hK => ?_) AllReadyH.nil
  try simp only [List.getElem_toArray, List.getElem_cons_succ, List.getElem_cons_zero]
  go_simp
  refine (HRC.out _).mono ?_
  rintro e v ⟨rfl, rfl⟩
  refine hK.out _ _ hHeld (fun hHeld => ?_)
  clear hK K
  refine wpAnyH_take (i := 5) (v := ?v5c) rfl (by kernel_rfl) (by kernel_rfl) (by kernel_rfl) (fun _ _ _ h => h) (Or.inl ⟨by rfl, ?hy5c⟩) hHeld ?rest5c
  case hy5c => (intro W hSw; (try dsimp only at hSw); have k0 := cell_fr hSw hc1 (fun h => h); have k1 := cell_fr hSw hc2 (fun h => h); have k2 := cell_fr hSw hc3 (fun h => h); go_simp; all_goals (with_reducible rfl))
  change wpAnyH _ _ _ _ _ _ _ (Act.put _ (some 21) _) _
  simp only [Act.put, List.setIfInBounds_toArray, List.set_cons_zero, List.set_cons_succ]
  refine wpAnyH_take (i := 6) (v := ?v6c) rfl (by kernel_rfl) (by kernel_rfl) (by kernel_rfl) (fun _ _ _ h => h) (Or.inl ⟨by rfl, ?hy6c⟩) hHeld ?rest6c
  case hy6c => (intro W hSw; (try dsimp only at hSw); have k0 := cell_fr hSw hc1 (fun h => h); have k1 := cell_fr hSw hc2 (fun h => h); have k2 := cell_fr hSw hc3 (fun h => h); go_simp; all_goals (with_reducible rfl))
  change wpAnyH _ _ _ _ _ _ _ (Act.put _ (some 22) _) _
  simp only [Act.put, List.setIfInBounds_toArray, List.set_cons_zero, List.set_cons_succ]
  refine wpAnyH_take (i := 7) (v := ?v7c) rfl (by kernel_rfl) (by kernel_rfl) (by kernel_rfl) (fun _ _ _ h => h) (Or.inl ⟨by rfl, ?hy7c⟩) hHeld ?rest7c
  case hy7c => (intro W hSw; (try dsimp only at hSw); have k0 := cell_fr hSw hc1 (fun h => h); have k1 := cell_fr hSw hc2 (fun h => h); have k2 := cell_fr hSw hc3 (fun h => h); go_simp; all_goals (with_reducible rfl))
  change wpAnyH _ _ _ _ _ _ _ (Act.put _ (some 23) _) _
  simp only [Act.put, List.setIfInBounds_toArray, List.set_cons_zero, List.set_cons_succ]
  refine wpAnyH_take (i := 8) (v := ?v8c) rfl (by kernel_rfl) (by kernel_rfl) (by kernel_rfl) (fun _ _ _ h => h) (Or.inl ⟨by rfl, ?hy8c⟩) hHeld ?rest8c
  case hy8c => (intro W hSw; (try dsimp only at hSw); have k0 := cell_fr hSw hc1 (fun h => h); have k1 := cell_fr hSw hc2 (fun h => h); have k2 := cell_fr hSw hc3 (fun h => h); go_simp; all_goals (with_reducible rfl))
  change wpAnyH _ _ _ _ _ _ _ (Act.put _ (some 24) _) _
  simp only [Act.put, List.setIfInBounds_toArray, List.set_cons_zero, List.set_cons_succ]
  refine wpAnyH_take (i := 9) (v := ?v9c) rfl (by kernel_rfl) (by kernel_rfl) (by kernel_rfl) (fun _ _ _ h => h) (Or.inl ⟨by rfl, ?hy9c⟩) hHeld ?rest9c
  case hy9c => (intro W hSw; (try dsimp only at hSw); have k0 := cell_fr hSw hc1 (fun h => h); have k1 := cell_fr hSw hc2 (fun h => h); have k2 := cell_fr hSw hc3 (fun h => h); go_simp; all_goals (with_reducible rfl))
  change wpAnyH _ _ _ _ _ _ _ (Act.put _ (some 25) _) _
  simp only [Act.put, List.setIfInBounds_toArray, List.set_cons_zero, List.set_cons_succ]
  refine wpAnyH_take (i := 10) (v := ?v10c) rfl (by kernel_rfl) (by kernel_rfl) (by kernel_rfl) (fun _ _ _ h => h) (Or.inl ⟨by rfl, ?hy10c⟩) hHeld ?rest10c
  case hy10c => (intro W hSw; (try dsimp only at hSw); have k0 := cell_fr hSw hc1 (fun h => h); have k1 := cell_fr hSw hc2 (fun h => h); have k2 := cell_fr hSw hc3 (fun h => h); go_simp; all_goals (with_reducible rfl))
  change wpAnyH _ _ _ _ _ _ _ (Act.put _ (some 26) _) _
  simp only [Act.put, List.setIfInBounds_toArray, List.set_cons_zero, List.set_cons_succ]
  refine wpAnyH_take (i := 11) (v := ?v11c) rfl (by kernel_rfl) (by kernel_rfl) (by kernel_rfl) (fun _ _ _ h => h) (Or.inl ⟨by rfl, ?hy11c⟩) hHeld ?rest11c
  case hy11c => (intro W hSw; (try dsimp only at hSw); have k0 := cell_fr hSw hc1 (fun h => h); have k1 := cell_fr hSw hc2 (fun h => h); have k2 := cell_fr hSw hc3 (fun h => h); go_simp; all_goals (with_reducible rfl))
  change wpAnyH _ _ _ _ _ _ _ (Act.put _ (some 27) _) _
  simp only [Act.put, List.setIfInBounds_toArray, List.set_cons_zero, List.set_cons_succ]
  refine wpAnyH_take (i := 12) (v := ?v12c) rfl (by kernel_rfl) (by kernel_rfl) (by kernel_rfl) (fun _ _ _ h => h) (Or.inl ⟨by rfl, ?hy12c⟩) hHeld ?rest12c
  case hy12c => (intro W hSw; (try dsimp only at hSw); have k0 := cell_fr hSw hc1 (fun h => h); have k1 := cell_fr hSw hc2 (fun h => h); have k2 := cell_fr hSw hc3 (fun h => h); go_simp; all_goals (with_reducible rfl))
  change wpAnyH _ _ _ _ _ _ _ (Act.put _ (some 28) _) _
  simp only [Act.put, List.setIfInBounds_toArray, List.set_cons_zero, List.set_cons_succ]
  refine wpAnyH_take (i := 13) (v := ?v13c) rfl (by kernel_rfl) (by kernel_rfl) (by kernel_rfl) (fun _ _ _ h => h) (Or.inl ⟨by rfl, ?hy13c⟩) hHeld ?rest13c
  case hy13c => (intro W hSw; (try dsimp only at hSw); have k0 := cell_fr hSw hc1 (fun h => h); have k1 := cell_fr hSw hc2 (fun h => h); have k2 := cell_fr hSw hc3 (fun h => h); go_simp; all_goals (with_reducible rfl))
  change wpAnyH _ _ _ _ _ _ _ (Act.put _ (some 29) _) _
  simp only [Act.put, List.setIfInBounds_toArray, List.set_cons_zero, List.set_cons_succ]
  refine wpAnyH_take (i := 14) (v := ?v14c) rfl (by kernel_rfl) (by kernel_rfl) (by kernel_rfl) (fun _ _ _ h => h) (Or.inl ⟨by rfl, ?hy14c⟩) hHeld ?rest14c
  case hy14c => (intro W hSw; (try dsimp only at hSw); have k0 := cell_fr hSw hc1 (fun h => h); have k1 := cell_fr hSw hc2 (fun h => h); have k2 := cell_fr hSw hc3 (fun h => h); go_simp; all_goals (with_reducible rfl))
  change wpAnyH _ _ _ _ _ _ _ (Act.put _ (some 30) _) _
  simp only [Act.put, List.setIfInBounds_toArray, List.set_cons_zero, List.set_cons_succ]
  refine wpAnyH_take (i := 15) (v := ?v15c) rfl (by kernel_rfl) (by kernel_rfl) (by kernel_rfl) (fun _ _ _ h => h) (Or.inl ⟨by rfl, ?hy15c⟩) hHeld ?rest15c
  case hy15c => (intro W hSw; (try dsimp only at hSw); have k0 := cell_fr hSw hc1 (fun h => h); have k1 := cell_fr hSw hc2 (fun h => h); have k2 := cell_fr hSw hc3 (fun h => h); go_simp; all_goals (with_reducible rfl))
  change wpAnyH _ _ _ _ _ _ _ (Act.put _ (some 31) _) _
  simp only [Act.put, List.setIfInBounds_toArray, List.set_cons_zero, List.set_cons_succ]
  refine wpAnyH_take (i := 16) (v := ?v16c) rfl (by kernel_rfl) (by kernel_rfl) (by kernel_rfl) (fun _ _ _ h => h) (Or.inl ⟨by rfl, ?hy16c⟩) hHeld ?rest16c
  case hy16c => (intro W hSw; (try dsimp only at hSw); have k0 := cell_fr hSw hc1 (fun h => h); have k1 := cell_fr hSw hc2 (fun h => h); have k2 := cell_fr hSw hc3 (fun h => h); go_simp; all_goals (with_reducible rfl))
  change wpAnyH _ _ _ _ _ _ _ (Act.put _ (some 32) _) _
  simp only [Act.put, List.setIfInBounds_toArray, List.set_cons_zero, List.set_cons_succ]
  refine wpAnyH_take (i := 17) (v := ?v17c) rfl (by kernel_rfl) (by kernel_rfl) (by kernel_rfl) (fun _ _ _ h => h) (Or.inl ⟨by rfl, ?hy17c⟩) hHeld ?rest17c
  case hy17c => (intro W hSw; (try dsimp only at hSw); have k0 := cell_fr hSw hc1 (fun h => h); have k1 := cell_fr hSw hc2 (fun h => h); have k2 := cell_fr hSw hc3 (fun h => h); go_simp; all_goals (with_reducible rfl))
  change wpAnyH _ _ _ _ _ _ _ (Act.put _ (some 33) _) _
  simp only [Act.put, List.setIfInBounds_toArray, List.set_cons_zero, List.set_cons_succ]
  refine wpAnyH_take (i := 18) (v := ?v18c) rfl (by kernel_rfl) (by kernel_rfl) (by kernel_rfl) (fun _ _ _ h => h) (Or.inl ⟨by rfl, ?hy18c⟩) hHeld ?rest18c
  case hy18c => (intro W hSw; (try dsimp only at hSw); have k0 := cell_fr hSw hc1 (fun h => h); have k1 := cell_fr hSw hc2 (fun h => h); have k2 := cell_fr hSw hc3 (fun h => h); go_simp; all_goals (with_reducible rfl))
  change wpAnyH _ _ _ _ _ _ _ (Act.put _ (some 34) _) _
  simp only [Act.put, List.setIfInBounds_toArray, List.set_cons_zero, List.set_cons_succ]
  refine wpAnyH_take (i := 19) (v := ?v19c) rfl (by kernel_rfl) (by kernel_rfl) (by kernel_rfl) (fun _ _ _ h => h) (Or.inl ⟨by rfl, ?hy19c⟩) hHeld ?rest19c
  case hy19c => (intro W hSw; (try dsimp only at hSw); have k0 := cell_fr hSw hc1 (fun h => h); have k1 := cell_fr hSw hc2 (fun h => h); have k2 := cell_fr hSw hc3 (fun h => h); go_simp; all_goals (with_reducible rfl))
  change wpAnyH _ _ _ _ _ _ _ (Act.put _ (some 35) _) _
  simp only [Act.put, List.setIfInBounds_toArray, List.set_cons_zero, List.set_cons_succ]
  refine wpAnyH_take (i := 20) (v := ?v20c) rfl (by kernel_rfl) (by kernel_rfl) (by kernel_rfl) (fun _ _ _ h => h) (Or.inl ⟨by rfl, ?hy20c⟩) hHeld ?rest20c
  case hy20c => (intro W hSw; (try dsimp only at hSw); have k0 := cell_fr hSw hc1 (fun h => h); have k1 := cell_fr hSw hc2 (fun h => h); have k2 := cell_fr hSw hc3 (fun h => h); go_simp; all_goals (with_reducible rfl))
  change wpAnyH _ _ _ _ _ _ _ (Act.put _ (some 36) _) _
  simp only [Act.put, List.setIfInBounds_toArray, List.set_cons_zero, List.set_cons_succ]
  refine wpAnyH_take (i := 21) (v := ?v21c) rfl (by kernel_rfl) (by kernel_rfl) (by kernel_rfl) (fun _ _ _ h => h) (Or.inl ⟨by rfl, ?hy21c⟩) hHeld ?rest21c
  case hy21c => (intro W hSw; (try dsimp only at hSw); have k0 := cell_fr hSw hc1 (fun h => h); have k1 := cell_fr hSw hc2 (fun h => h); have k2 := cell_fr hSw hc3 (fun h => h); go_simp; all_goals (with_reducible rfl))
  change wpAnyH _ _ _ _ _ _ _ (Act.put _ (some 37) _) _
  simp only [Act.put, List.setIfInBounds_toArray, List.set_cons_zero, List.set_cons_succ]
  refine wpAnyH_take (i := 22) (v := ?v22c) rfl (by kernel_rfl) (by kernel_rfl) (by kernel_rfl) (fun _ _ _ h => h) (Or.inl ⟨by rfl, ?hy22c⟩) hHeld ?rest22c
  case hy22c => (intro W hSw; (try dsimp only at hSw); have k0 := cell_fr hSw hc1 (fun h => h); have k1 := cell_fr hSw hc2 (fun h => h); have k2 := cell_fr hSw hc3 (fun h => h); go_simp; all_goals (with_reducible rfl))
  change wpAnyH _ _ _ _ _ _ _ (Act.put _ (some 38) _) _
  simp only [Act.put, List.setIfInBounds_toArray, List.set_cons_zero, List.set_cons_succ]
  refine wpAnyH_take (i := 23) (v := ?v23c) rfl (by kernel_rfl) (by kernel_rfl) (by kernel_rfl) (fun _ _ _ h => h) (Or.inl ⟨by rfl, ?hy23c⟩) hHeld ?rest23c
  case hy23c => (intro W hSw; (try dsimp only at hSw); have k0 := cell_fr hSw hc1 (fun h => h); have k1 := cell_fr hSw hc2 (fun h => h); have k2 := cell_fr hSw hc3 (fun h => h); go_simp; all_goals (with_reducible rfl))
  change wpAnyH _ _ _ _ _ _ _ (Act.put _ (some 39) _) _
  simp only [Act.put, List.setIfInBounds_toArray, List.set_cons_zero, List.set_cons_succ]
  refine wpAnyH_take (i := 25) (v := ?v25c) rfl (by kernel_rfl) (by kernel_rfl) (by kernel_rfl) (fun _ _ _ h => h) (Or.inl ⟨by rfl, ?hy25c⟩) hHeld ?rest25c
  case hy25c => (intro W hSw; (try dsimp only at hSw); have k0 := cell_fr hSw hc1 (fun h => h); have k1 := cell_fr hSw hc2 (fun h => h); have k2 := cell_fr hSw hc3 (fun h => h); go_simp; all_goals (with_reducible rfl))
  change wpAnyH _ _ _ _ _ _ _ (Act.put _ (some 41) _) _
  simp only [Act.put, List.setIfInBounds_toArray, List.set_cons_zero, List.set_cons_succ]
  refine wpAnyH_take (i := 26) (v := ?v26c) rfl (by kernel_rfl) (by kernel_rfl) (by kernel_rfl) (fun _ _ _ h => h) (Or.inl ⟨by rfl, ?hy26c⟩) hHeld ?rest26c
  case hy26c => (intro W hSw; (try dsimp only at hSw); have k0 := cell_fr hSw hc1 (fun h => h); have k1 := cell_fr hSw hc2 (fun h => h); have k2 := cell_fr hSw hc3 (fun h => h); go_simp; all_goals (with_reducible rfl))
  change wpAnyH _ _ _ _ _ _ _ (Act.put _ (some 42) _) _
  simp only [Act.put, List.setIfInBounds_toArray, List.set_cons_zero, List.set_cons_succ]
  refine wpAnyH_ready (rs := [24]) (by kernel_rfl) (by simp) ?_
  refine AllReadyH.cons rfl (fun K hK => ?_) AllReadyH.nil
  try simp only [List.getElem_toArray, List.getElem_cons_succ, List.getElem_cons_zero]
  go_simp
  refine (HP.out _ hHeld).mono ?_
  rintro e v ⟨rfl, rfl⟩
  refine hK.out _ _ hHeld (fun hHeld => ?_)
  clear hK K
  refine wpAnyH_ready (rs := [27]) (by kernel_rfl) (by simp) ?_
  refine AllReadyH.cons rfl (fun K hK => ?_) AllReadyH.nil
  try simp only [List.getElem_toArray, List.getElem_cons_succ, List.getElem_cons_zero]
  go_simp
  refine (HA.out _ hHeld).mono ?_
  rintro e v ⟨rfl, rfl⟩
  refine hK.out _ _ hHeld (fun hHeld => ?_)
  clear hK K
  refine wpAnyH_take (i := 28) (v := ?v28c) rfl (by kernel_rfl) (by kernel_rfl) (by kernel_rfl) (fun _ _ _ h => h) (Or.inl ⟨by rfl, ?hy28c⟩) hHeld ?rest28c
  case hy28c => (intro W hSw; (try dsimp only at hSw); have k0 := cell_fr hSw hc1 (fun h => h); have k1 := cell_fr hSw hc2 (fun h => h); have k2 := cell_fr hSw hc3 (fun h => h); go_simp; all_goals (with_reducible rfl))
  change wpAnyH _ _ _ _ _ _ _ (Act.put _ (some 44) _) _
  simp only [Act.put, List.setIfInBounds_toArray, List.set_cons_zero, List.set_cons_succ]
  refine wpAnyH_take (i := 29) (v := ?v29c) rfl (by kernel_rfl) (by kernel_rfl) (by kernel_rfl) (fun _ _ _ h => h) (Or.inl ⟨by rfl, ?hy29c⟩) hHeld ?rest29c
  case hy29c => (intro W hSw; (try dsimp only at hSw); have k0 := cell_fr hSw hc1 (fun h => h); have k1 := cell_fr hSw hc2 (fun h => h); have k2 := cell_fr hSw hc3 (fun h => h); go_simp; all_goals (with_reducible rfl))
  change wpAnyH _ _ _ _ _ _ _ (Act.put _ (some 45) _) _
  simp only [Act.put, List.setIfInBounds_toArray, List.set_cons_zero, List.set_cons_succ]
  refine wpAnyH_take (i := 30) (v := ?v30c) rfl (by kernel_rfl) (by kernel_rfl) (by kernel_rfl) (fun _ _ _ h => h) (Or.inl ⟨by rfl, ?hy30c⟩) hHeld ?rest30c
  case hy30c => (intro W hSw; (try dsimp only at hSw); have k0 := cell_fr hSw hc1 (fun h => h); have k1 := cell_fr hSw hc2 (fun h => h); have k2 := cell_fr hSw hc3 (fun h => h); go_simp; all_goals (with_reducible rfl))
  change wpAnyH _ _ _ _ _ _ _ (Act.put _ (some 46) _) _
  simp only [Act.put, List.setIfInBounds_toArray, List.set_cons_zero, List.set_cons_succ]
  refine wpAnyH_take (i := 31) (v := ?v31c) rfl (by kernel_rfl) (by kernel_rfl) (by kernel_rfl) (fun _ _ _ h => h) (Or.inl ⟨by rfl, ?hy31c⟩) hHeld ?rest31c
  case hy31c => (intro W hSw; (try dsimp only at hSw); have k0 := cell_fr hSw hc1 (fun h => h); have k1 := cell_fr hSw hc2 (fun h => h); have k2 := cell_fr hSw hc3 (fun h => h); go_simp; all_goals (with_reducible rfl))
  change wpAnyH _ _ _ _ _ _ _ (Act.put _ (some 47) _) _
  simp only [Act.put, List.setIfInBounds_toArray, List.set_cons_zero, List.set_cons_succ]
  refine wpAnyH_take (i := 32) (v := ?v32c) rfl (by kernel_rfl) (by kernel_rfl) (by kernel_rfl) (fun _ _ _ h => h) (Or.inl ⟨by rfl, ?hy32c⟩) hHeld ?rest32c
  case hy32c => (intro W hSw; (try dsimp only at hSw); have k0 := cell_fr hSw hc1 (fun h => h); have k1 := cell_fr hSw hc2 (fun h => h); have k2 := cell_fr hSw hc3 (fun h => h); go_simp; all_goals (with_reducible rfl))
  change wpAnyH _ _ _ _ _ _ _ (Act.put _ (some 48) _) _
  simp only [Act.put, List.setIfInBounds_toArray, List.set_cons_zero, List.set_cons_succ]
  refine wpAnyH_take (i := 34) (v := ?v34c) rfl (by kernel_rfl) (by kernel_rfl) (by kernel_rfl) (fun _ _ _ h => h) (Or.inl ⟨by rfl, ?hy34c⟩) hHeld ?rest34c
  case hy34c => (intro W hSw; (try dsimp only at hSw); have k0 := cell_fr hSw hc1 (fun h => h); have k1 := cell_fr hSw hc2 (fun h => h); have k2 := cell_fr hSw hc3 (fun h => h); go_simp; all_goals (with_reducible rfl))
  change wpAnyH _ _ _ _ _ _ _ (Act.put _ (some 50) _) _
  simp only [Act.put, List.setIfInBounds_toArray, List.set_cons_zero, List.set_cons_succ]
  refine wpAnyH_take (i := 35) (v := ?v35c) rfl (by kernel_rfl) (by kernel_rfl) (by kernel_rfl) (fun _ _ _ h => h) (Or.inl ⟨by rfl, ?hy35c⟩) hHeld ?rest35c
  case hy35c => (intro W hSw; (try dsimp only at hSw); have k0 := cell_fr hSw hc1 (fun h => h); have k1 := cell_fr hSw hc2 (fun h => h); have k2 := cell_fr hSw hc3 (fun h => h); go_simp; all_goals (with_reducible rfl))
  change wpAnyH _ _ _ _ _ _ _ (Act.put _ (some 51) _) _
  simp only [Act.put, List.setIfInBounds_toArray, List.set_cons_zero, List.set_cons_succ]
  refine wpAnyH_ready (rs := [33]) (by kernel_rfl) (by simp) ?_
  refine AllReadyH.cons rfl (fun K hK => ?_) AllReadyH.nil
  try simp only [List.getElem_toArray, List.getElem_cons_succ, List.getElem_cons_zero]
  go_simp
  refine (HP.out _ hHeld).mono ?_
  rintro e v ⟨rfl, rfl⟩
  refine hK.out _ _ hHeld (fun hHeld => ?_)
  clear hK K
  refine wpAnyH_ready (rs := [36]) (by kernel_rfl) (by simp) ?_
  refine AllReadyH.cons rfl (fun K hK => ?_) AllReadyH.nil
  try simp only [List.getElem_toArray, List.getElem_cons_succ, List.getElem_cons_zero]
  go_simp
  refine (HB.out _ hHeld).mono ?_
  rintro e v ⟨rfl, rfl⟩
  refine hK.out _ _ hHeld (fun hHeld => ?_)
  clear hK K
  refine wpAnyH_take (i := 37) (v := ?v37c) rfl (by kernel_rfl) (by kernel_rfl) (by kernel_rfl) (fun _ _ _ h => h) (Or.inl ⟨by rfl, ?hy37c⟩) hHeld ?rest37c
  case hy37c => (intro W hSw; (try dsimp only at hSw); have k0 := cell_fr hSw hc1 (fun h => h); have k1 := cell_fr hSw hc2 (fun h => h); have k2 := cell_fr hSw hc3 (fun h => h); go_simp; all_goals (with_reducible rfl))
  change wpAnyH _ _ _ _ _ _ _ (Act.put _ (some 53) _) _
  simp only [Act.put, List.setIfInBounds_toArray, List.set_cons_zero, List.set_cons_succ]
  refine wpAnyH_take (i := 38) (v := ?v38c) rfl (by kernel_rfl) (by kernel_rfl) (by kernel_rfl) (fun _ _ _ h => h) (Or.inl ⟨by rfl, ?hy38c⟩) hHeld ?rest38c
  case hy38c => (intro W hSw; (try dsimp only at hSw); have k0 := cell_fr hSw hc1 (fun h => h); have k1 := cell_fr hSw hc2 (fun h => h); have k2 := cell_fr hSw hc3 (fun h => h); go_simp; all_goals (with_reducible rfl))
  change wpAnyH _ _ _ _ _ _ _ (Act.put _ (some 54) _) _
  simp only [Act.put, List.setIfInBounds_toArray, List.set_cons_zero, List.set_cons_succ]
  refine wpAnyH_take (i := 39) (v := ?v39c) rfl (by kernel_rfl) (by kernel_rfl) (by kernel_rfl) (fun _ _ _ h => h) (Or.inl ⟨by rfl, ?hy39c⟩) hHeld ?rest39c
  case hy39c => (intro W hSw; (try dsimp only at hSw); have k0 := cell_fr hSw hc1 (fun h => h); have k1 := cell_fr hSw hc2 (fun h => h); have k2 := cell_fr hSw hc3 (fun h => h); go_simp; all_goals (with_reducible rfl))
  change wpAnyH _ _ _ _ _ _ _ (Act.put _ (some 55) _) _
  simp only [Act.put, List.setIfInBounds_toArray, List.set_cons_zero, List.set_cons_succ]
  refine wpAnyH_take (i := 40) (v := ?v40c) rfl (by kernel_rfl) (by kernel_rfl) (by kernel_rfl) (fun _ _ _ h => h) (Or.inl ⟨by rfl, ?hy40c⟩) hHeld ?rest40c
  case hy40c => (intro W hSw; (try dsimp only at hSw); have k0 := cell_fr hSw hc1 (fun h => h); have k1 := cell_fr hSw hc2 (fun h => h); have k2 := cell_fr hSw hc3 (fun h => h); go_simp; all_goals (with_reducible rfl))
  change wpAnyH _ _ _ _ _ _ _ (Act.put _ (some 56) _) _
  simp only [Act.put, List.setIfInBounds_toArray, List.set_cons_zero, List.set_cons_succ]
  refine wpAnyH_take (i := 41) (v := ?v41c) rfl (by kernel_rfl) (by kernel_rfl) (by kernel_rfl) (fun _ _ _ h => h) (Or.inl ⟨by rfl, ?hy41c⟩) hHeld ?rest41c
  case hy41c => (intro W hSw; (try dsimp only at hSw); have k0 := cell_fr hSw hc1 (fun h => h); have k1 := cell_fr hSw hc2 (fun h => h); have k2 := cell_fr hSw hc3 (fun h => h); go_simp; all_goals (with_reducible rfl))
  change wpAnyH _ _ _ _ _ _ _ (Act.put _ (some 57) _) _
  simp only [Act.put, List.setIfInBounds_toArray, List.set_cons_zero, List.set_cons_succ]
  refine wpAnyH_take (i := 43) (v := ?v43c) rfl (by kernel_rfl) (by kernel_rfl) (by kernel_rfl) (fun _ _ _ h => h) (Or.inl ⟨by rfl, ?hy43c⟩) hHeld ?rest43c
  case hy43c => (intro W hSw; (try dsimp only at hSw); have k0 := cell_fr hSw hc1 (fun h => h); have k1 := cell_fr hSw hc2 (fun h => h); have k2 := cell_fr hSw hc3 (fun h => h); go_simp; all_goals (with_reducible rfl))
  change wpAnyH _ _ _ _ _ _ _ (Act.put _ (some 59) _) _
  simp only [Act.put, List.setIfInBounds_toArray, List.set_cons_zero, List.set_cons_succ]
  refine wpAnyH_take (i := 44) (v := ?v44c) rfl (by kernel_rfl) (by kernel_rfl) (by kernel_rfl) (fun _ _ _ h => h) (Or.inl ⟨by rfl, ?hy44c⟩) hHeld ?rest44c
  case hy44c => (intro W hSw; (try dsimp only at hSw); have k0 := cell_fr hSw hc1 (fun h => h); have k1 := cell_fr hSw hc2 (fun h => h); have k2 := cell_fr hSw hc3 (fun h => h); go_simp; all_goals (with_reducible rfl))
  change wpAnyH _ _ _ _ _ _ _ (Act.put _ (some 60) _) _
  simp only [Act.put, List.setIfInBounds_toArray, List.set_cons_zero, List.set_cons_succ]
  refine wpAnyH_ready (rs := [42]) (by kernel_rfl) (by simp) ?_
  refine AllReadyH.cons rfl (fun K hK => ?_) AllReadyH.nil
  try simp only [List.getElem_toArray, List.getElem_cons_succ, List.getElem_cons_zero]
  go_simp
  refine (HP.out _ hHeld).mono ?_
  rintro e v ⟨rfl, rfl⟩
  refine hK.out _ _ hHeld (fun hHeld => ?_)
  clear hK K
  refine wpAnyH_ready (rs := [45]) (by kernel_rfl) (by simp) ?_
  refine AllReadyH.cons rfl (fun K hK => ?_) AllReadyH.nil
  try simp only [List.getElem_toArray, List.getElem_cons_succ, List.getElem_cons_zero]
  go_simp
  refine (HC.out _ hHeld).mono ?_
  rintro e v ⟨rfl, rfl⟩
  refine hK.out _ _ hHeld (fun hHeld => ?_)
  clear hK K
  refine wpAnyH_take (i := 46) (v := ?v46c) rfl (by kernel_rfl) (by kernel_rfl) (by kernel_rfl) (fun _ _ _ h => h) (Or.inl ⟨by rfl, ?hy46c⟩) hHeld ?rest46c
  case hy46c => (intro W hSw; (try dsimp only at hSw); have k0 := cell_fr hSw hc1 (fun h => h); have k1 := cell_fr hSw hc2 (fun h => h); have k2 := cell_fr hSw hc3 (fun h => h); go_simp; all_goals (with_reducible rfl))
  change wpAnyH _ _ _ _ _ _ _ (Act.put _ (some 62) _) _
  simp only [Act.put, List.setIfInBounds_toArray, List.set_cons_zero, List.set_cons_succ]
  refine wpAnyH_take (i := 47) (v := ?v47c) rfl (by kernel_rfl) (by kernel_rfl) (by kernel_rfl) (fun _ _ _ h => h) (Or.inl ⟨by rfl, ?hy47c⟩) hHeld ?rest47c
  case hy47c => (intro W hSw; (try dsimp only at hSw); have k0 := cell_fr hSw hc1 (fun h => h); have k1 := cell_fr hSw hc2 (fun h => h); have k2 := cell_fr hSw hc3 (fun h => h); go_simp; all_goals (with_reducible rfl))
  change wpAnyH _ _ _ _ _ _ _ (Act.put _ (some 63) _) _
  simp only [Act.put, List.setIfInBounds_toArray, List.set_cons_zero, List.set_cons_succ]
  refine wpAnyH_take (i := 48) (v := ?v48c) rfl (by kernel_rfl) (by kernel_rfl) (by kernel_rfl) (fun _ _ _ h => h) (Or.inl ⟨by rfl, ?hy48c⟩) hHeld ?rest48c
  case hy48c => (intro W hSw; (try dsimp only at hSw); have k0 := cell_fr hSw hc1 (fun h => h); have k1 := cell_fr hSw hc2 (fun h => h); have k2 := cell_fr hSw hc3 (fun h => h); go_simp; all_goals (with_reducible rfl))
  change wpAnyH _ _ _ _ _ _ _ (Act.put _ (some 64) _) _
  simp only [Act.put, List.setIfInBounds_toArray, List.set_cons_zero, List.set_cons_succ]
  refine wpAnyH_take (i := 49) (v := ?v49c) rfl (by kernel_rfl) (by kernel_rfl) (by kernel_rfl) (fun _ _ _ h => h) (Or.inl ⟨by rfl, ?hy49c⟩) hHeld ?rest49c
  case hy49c => (intro W hSw; (try dsimp only at hSw); have k0 := cell_fr hSw hc1 (fun h => h); have k1 := cell_fr hSw hc2 (fun h => h); have k2 := cell_fr hSw hc3 (fun h => h); go_simp; all_goals (with_reducible rfl))
  change wpAnyH _ _ _ _ _ _ _ (Act.put _ (some 65) _) _
  simp only [Act.put, List.setIfInBounds_toArray, List.set_cons_zero, List.set_cons_succ]
  refine wpAnyH_take (i := 50) (v := ?v50c) rfl (by kernel_rfl) (by kernel_rfl) (by kernel_rfl) (fun _ _ _ h => h) (Or.inl ⟨by rfl, ?hy50c⟩) hHeld ?rest50c
  case hy50c => (intro W hSw; (try dsimp only at hSw); have k0 := cell_fr hSw hc1 (fun h => h); have k1 := cell_fr hSw hc2 (fun h => h); have k2 := cell_fr hSw hc3 (fun h => h); go_simp; all_goals (with_reducible rfl))
  change wpAnyH _ _ _ _ _ _ _ (Act.put _ (some 66) _) _
  simp only [Act.put, List.setIfInBounds_toArray, List.set_cons_zero, List.set_cons_succ]
  refine wpAnyH_take (i := 52) (v := ?v52c) rfl (by kernel_rfl) (by kernel_rfl) (by kernel_rfl) (fun _ _ _ h => h) (Or.inl ⟨by rfl, ?hy52c⟩) hHeld ?rest52c
  case hy52c => (intro W hSw; (try dsimp only at hSw); have k0 := cell_fr hSw hc1 (fun h => h); have k1 := cell_fr hSw hc2 (fun h => h); have k2 := cell_fr hSw hc3 (fun h => h); go_simp; all_goals (with_reducible rfl))
  change wpAnyH _ _ _ _ _ _ _ (Act.put _ (some 68) _) _
  simp only [Act.put, List.setIfInBounds_toArray, List.set_cons_zero, List.set_cons_succ]
  refine wpAnyH_take (i := 53) (v := ?v53c) rfl (by kernel_rfl) (by kernel_rfl) (by kernel_rfl) (fun _ _ _ h => h) (Or.inl ⟨by rfl, ?hy53c⟩) hHeld ?rest53c
  case hy53c => (intro W hSw; (try dsimp only at hSw); have k0 := cell_fr hSw hc1 (fun h => h); have k1 := cell_fr hSw hc2 (fun h => h); have k2 := cell_fr hSw hc3 (fun h => h); go_simp; all_goals (with_reducible rfl))
  change wpAnyH _ _ _ _ _ _ _ (Act.put _ (some 69) _) _
  simp only [Act.put, List.setIfInBounds_toArray, List.set_cons_zero, List.set_cons_succ]
  refine wpAnyH_ready (rs := [51]) (by kernel_rfl) (by simp) ?_
  refine AllReadyH.cons rfl (fun K hK => ?_) AllReadyH.nil
  try simp only [List.getElem_toArray, List.getElem_cons_succ, List.getElem_cons_zero]
  go_simp
  refine (HP.out _ hHeld).mono ?_
  rintro e v ⟨rfl, rfl⟩
  refine hK.out _ _ hHeld (fun hHeld => ?_)
  clear hK K
  refine wpAnyH_ready (rs := [54]) (by kernel_rfl) (by simp) ?_
  refine AllReadyH.cons rfl (fun K hK => ?_) AllReadyH.nil
  try simp only [List.getElem_toArray, List.getElem_cons_succ, List.getElem_cons_zero]
  go_simp
  refine (HA.out _ hHeld).mono ?_
  rintro e v ⟨rfl, rfl⟩
  refine hK.out _ _ hHeld (fun hHeld => ?_)
  clear hK K
  refine wpAnyH_take (i := 55) (v := ?v55c) rfl (by kernel_rfl) (by kernel_rfl) (by kernel_rfl) (fun _ _ _ h => h) (Or.inl ⟨by rfl, ?hy55c⟩) hHeld ?rest55c
  case hy55c => (intro W hSw; (try dsimp only at hSw); have k0 := cell_fr hSw hc1 (fun h => h); have k1 := cell_fr hSw hc2 (fun h => h); have k2 := cell_fr hSw hc3 (fun h => h); go_simp; all_goals (with_reducible rfl))
  change wpAnyH _ _ _ _ _ _ _ (Act.put _ (some 71) _) _
  simp only [Act.put, List.setIfInBounds_toArray, List.set_cons_zero, List.set_cons_succ]
  refine wpAnyH_take (i := 56) (v := ?v56c) rfl (by kernel_rfl) (by kernel_rfl) (by kernel_rfl) (fun _ _ _ h => h) (Or.inl ⟨by rfl, ?hy56c⟩) hHeld ?rest56c
  case hy56c => (intro W hSw; (try dsimp only at hSw); have k0 := cell_fr hSw hc1 (fun h => h); have k1 := cell_fr hSw hc2 (fun h => h); have k2 := cell_fr hSw hc3 (fun h => h); go_simp; all_goals (with_reducible rfl))
  change wpAnyH _ _ _ _ _ _ _ (Act.put _ (some 72) _) _
  simp only [Act.put, List.setIfInBounds_toArray, List.set_cons_zero, List.set_cons_succ]
  refine wpAnyH_take (i := 57) (v := undef) rfl (by kernel_rfl) (by kernel_rfl) (by kernel_rfl) (fun _ _ _ h => h) (Or.inr ⟨by rfl, rfl⟩) hHeld ?rest57c
  change wpAnyH _ _ _ _ _ _ _ (Act.put _ (some 73) _) _
  simp only [Act.put, List.setIfInBounds_toArray, List.set_cons_zero, List.set_cons_succ]
  refine wpAnyH_take (i := 58) (v := undef) rfl (by kernel_rfl) (by kernel_rfl) (by kernel_rfl) (fun _ _ _ h => h) (Or.inr ⟨by rfl, rfl⟩) hHeld ?rest58c
  change wpAnyH _ _ _ _ _ _ _ (Act.put _ (some 74) _) _
  simp only [Act.put, List.setIfInBounds_toArray, List.set_cons_zero, List.set_cons_succ]
  refine wpAnyH_take (i := 59) (v := undef) rfl (by kernel_rfl) (by kernel_rfl) (by kernel_rfl) (fun _ _ _ h => h) (Or.inr ⟨by rfl, rfl⟩) hHeld ?rest59c
  change wpAnyH _ _ _ _ _ _ _ (Act.put _ (some 75) _) _
  simp only [Act.put, List.setIfInBounds_toArray, List.set_cons_zero, List.set_cons_succ]
  refine wpAnyH_take (i := 60) (v := ?v60c) rfl (by kernel_rfl) (by kernel_rfl) (by kernel_rfl) (fun _ _ _ h => h) (Or.inl ⟨by rfl, ?hy60c⟩) hHeld ?rest60c
  case hy60c => (intro W hSw; (try dsimp only at hSw); have k0 := cell_fr hSw hc1 (fun h => h); have k1 := cell_fr hSw hc2 (fun h => h); have k2 := cell_fr hSw hc3 (fun h => h); go_simp; all_goals (with_reducible rfl))
  change wpAnyH _ _ _ _ _ _ _ (Act.put _ (some 76) _) _
  simp only [Act.put, List.setIfInBounds_toArray, List.set_cons_zero, List.set_cons_succ]
  refine wpAnyH_take (i := 61) (v := ?v61c) rfl (by kernel_rfl) (by kernel_rfl) (by kernel_rfl) (fun _ _ _ h => h) (Or.inl ⟨by rfl, ?hy61c⟩) hHeld ?rest61c
  case hy61c => (intro W hSw; (try dsimp only at hSw); have k0 := cell_fr hSw hc1 (fun h => h); have k1 := cell_fr hSw hc2 (fun h => h); have k2 := cell_fr hSw hc3 (fun h => h); go_simp; all_goals (with_reducible rfl))
  change wpAnyH _ _ _ _ _ _ _ (Act.put _ (some 77) _) _
  simp only [Act.put, List.setIfInBounds_toArray, List.set_cons_zero, List.set_cons_succ]
  refine wpAnyH_take (i := 62) (v := ?v62c) rfl (by kernel_rfl) (by kernel_rfl) (by kernel_rfl) (fun _ _ _ h => h) (Or.inl ⟨by rfl, ?hy62c⟩) hHeld ?rest62c
  case hy62c => (intro W hSw; (try dsimp only at hSw); have k0 := cell_fr hSw hc1 (fun h => h); have k1 := cell_fr hSw hc2 (fun h => h); have k2 := cell_fr hSw hc3 (fun h => h); go_simp; all_goals (with_reducible rfl))
  change wpAnyH _ _ _ _ _ _ _ (Act.put _ (some 6) _) _
  simp only [Act.put, List.setIfInBounds_toArray, List.set_cons_zero, List.set_cons_succ]
  refine wpAnyH_done (by kernel_rfl) ?_ _
  go_wp2
  go_ret
  exact ⟨rfl, HF1.out.join hHeld⟩
end Go.Proofs.Ytkafhjjdeldkbaa
