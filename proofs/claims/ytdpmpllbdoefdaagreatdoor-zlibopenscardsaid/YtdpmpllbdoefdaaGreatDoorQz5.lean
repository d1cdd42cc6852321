/-
  Texts of the seat, put together: Jd Je Jf Ta Tm Hl Tb Za.
-/
import Derived.Test.YtdpmpllbdoefdaaGreatDoorQz4
import Derived.Deep.RegionHeld3
import Derived.Deep.CutRange
import Derived.Test.YtdpmpllbdoefdaaGreatDoorQz1
import Derived.Laws.Tables
import Derived.Deep.MidRow
namespace Go.Proofs.YtdpmpllbdoefdaaGreatDoor
open Go.RowKit
theorem posL_le (fq : List Int) : ∀ k, (posL fq k).length ≤ k := by
  intro k
  induction k with
  | zero => exact Nat.le_refl _
  | succ k ih =>
    simp only [posL]
    split
    · simp; omega
    · omega
set_option maxHeartbeats 1600000 in
set_option maxRecDepth 100000 in
theorem ownCodes_c (A : Nat) (fL fD : List Int) (w : World) (h1 : LiesI w (some ⟨A, 0, none⟩) fL) (h2 : LiesI w (some ⟨A, 286, none⟩) fD) (l1 : fL.length = 286) (l2 : fD.length = 30) (g1 : goodF fL) (g2 : goodF fD) :
    Calls Tryz.prog 74 #[.pointer (some ⟨A, 0, none⟩)] w fun e w' => ∃ oL oD gL gD C1 C2, LenOk fL 15 oL ∧ LenOk fD 15 oD ∧ e = .returned (codesV (some ⟨gL, 0, none⟩) (trim oL 257).length 286 C1 (some ⟨gD, 0, none⟩) (trim oD 1).length 30 C2) ∧
      LiesI w' (some ⟨gL, 0, none⟩) (trim oL 257) ∧ LiesI w' (some ⟨gD, 0, none⟩) (trim oD 1) ∧ w.heap.size ≤ gL ∧ gL < w'.heap.size ∧ w.heap.size ≤ gD ∧ gD < w'.heap.size ∧ Cd w' w.heap.size w'.heap.size C1 (trim oL 257) ∧ Cd w' w.heap.size w'.heap.size C2 (trim oD 1) ∧ Fr (fun _ => False) w w' := by
  obtain ⟨w0, hw0⟩ : ∃ w0, w0 = w.alloc (.cells #[.slice none 0 0, .pointer none, .slice none 0 0, .pointer none] 127) := ⟨_, rfl⟩
  have hF0 : Fr (fun _ => False) w w0 := by rw [hw0]; exact Fr.of_alloc _ _
  have hb0 : w0.heap[w.heap.size]? = some (.cells #[.slice none 0 0, .pointer none, .slice none 0 0, .pointer none] 127 (0, 0)) := by rw [hw0]; exact heap_alloc_at rfl
  have hFd : Fr (fun _ => False) w0 w0.drew := Fr.of_drewN w0 1
  have HS1 := hide (shortestCode_c (some ⟨A, 0, none⟩) 286 286 fL 15 257 w0.drew l1.symm (h1.fr (hF0.join hFd)) g1 (Nat.le_trans (posL_le fL fL.length) (by rw [l1]; decide)) (by omega) (by omega) (by omega))
  have HS2 := hide (fun W (hF : Fr (fun _ => False) w W) => shortestCode_c (some ⟨A, 286, none⟩) 30 30 fD 15 1 W l2.symm (h2.fr hF) g2 (Nat.le_trans (posL_le fD fD.length) (by rw [l2]; decide)) (by omega) (by omega) (by omega))
  have HF0 := hide (hF0.join hFd)
  have Hb0 := hide (cells_at hb0 hFd (fun e => e))
  have Hw0 := hide hw0
  have hs0 : w.heap.size < w0.drew.heap.size := lt_of (cells_at hb0 hFd (fun e => e))
  clear hF0 hb0 hw0 hFd h1 h2 g1 g2
  go_enter Tryz.func74, Tryz.ntmps74
  go_wp2_with fail
  rw [← Hw0.out]
  refine wp_region_held_drew (S := fun _ => True) (by kernel_rfl) trivial (fun hHeld => ?_)
  refine wpAnyH_take (i := 0) (v := ?v0) rfl (by kernel_rfl) (by kernel_rfl) (by kernel_rfl) (fun _ _ _ h => h) (Or.inl ⟨by rfl, ?hy0⟩) hHeld ?rest0
  case hy0 => (intro W hSw; (try dsimp only at hSw); go_simp; all_goals (with_reducible rfl))
  change wpAnyH _ _ _ _ _ _ _ (Act.put _ (some 3) _) _
  simp only [Act.put, List.setIfInBounds_toArray, List.set_cons_zero, List.set_cons_succ]
  refine wpAnyH_take (i := 5) (v := ?v5) rfl (by kernel_rfl) (by kernel_rfl) (by kernel_rfl) (fun _ _ _ h => h) (Or.inl ⟨by rfl, ?hy5⟩) hHeld ?rest5
  case hy5 => (intro W hSw; (try dsimp only at hSw); go_simp; all_goals (with_reducible rfl))
  change wpAnyH _ _ _ _ _ _ _ (Act.put _ (some 8) _) _
  simp only [Act.put, List.setIfInBounds_toArray, List.set_cons_zero, List.set_cons_succ]
  refine wpAnyH_take (i := 1) (v := ?v1) rfl (by kernel_rfl) (by kernel_rfl) (by kernel_rfl) (fun _ _ _ h => h) (Or.inl ⟨by rfl, ?hy1⟩) hHeld ?rest1
  case hy1 => (intro W hSw; (try dsimp only at hSw); go_simp; all_goals (with_reducible rfl))
  change wpAnyH _ _ _ _ _ _ _ (Act.put _ (some 4) _) _
  simp only [Act.put, List.setIfInBounds_toArray, List.set_cons_zero, List.set_cons_succ]
  refine wpAnyH_take (i := 6) (v := ?v6) rfl (by kernel_rfl) (by kernel_rfl) (by kernel_rfl) (fun _ _ _ h => h) (Or.inl ⟨by rfl, ?hy6⟩) hHeld ?rest6
  case hy6 => (intro W hSw; (try dsimp only at hSw); go_simp; all_goals (with_reducible rfl))
  change wpAnyH _ _ _ _ _ _ _ (Act.put _ (some 9) _) _
  simp only [Act.put, List.setIfInBounds_toArray, List.set_cons_zero, List.set_cons_succ]
  refine wpAnyH_take (i := 2) (v := ?v2) rfl (by kernel_rfl) (by kernel_rfl) (by kernel_rfl) (fun _ _ _ h => h) (Or.inl ⟨by rfl, ?hy2⟩) hHeld ?rest2
  case hy2 => (intro W hSw; (try dsimp only at hSw); go_simp; all_goals (with_reducible rfl))
  change wpAnyH _ _ _ _ _ _ _ (Act.put _ (some 5) _) _
  simp only [Act.put, List.setIfInBounds_toArray, List.set_cons_zero, List.set_cons_succ]
  refine wpAnyH_take (i := 7) (v := ?v7) rfl (by kernel_rfl) (by kernel_rfl) (by kernel_rfl) (fun _ _ _ h => h) (Or.inl ⟨by rfl, ?hy7⟩) hHeld ?rest7
  case hy7 => (intro W hSw; (try dsimp only at hSw); go_simp; all_goals (with_reducible rfl))
  change wpAnyH _ _ _ _ _ _ _ (Act.put _ (some 10) _) _
  simp only [Act.put, List.setIfInBounds_toArray, List.set_cons_zero, List.set_cons_succ]
  refine wpAnyH_take (i := 3) (v := ?v3) rfl (by kernel_rfl) (by kernel_rfl) (by kernel_rfl) (fun _ _ _ h => h) (Or.inl ⟨by rfl, ?hy3⟩) hHeld ?rest3
  case hy3 => (intro W hSw; (try dsimp only at hSw); go_simp; all_goals (with_reducible rfl))
  change wpAnyH _ _ _ _ _ _ _ (Act.put _ (some 6) _) _
  simp only [Act.put, List.setIfInBounds_toArray, List.set_cons_zero, List.set_cons_succ]
  refine wpAnyH_take (i := 8) (v := ?v8) rfl (by kernel_rfl) (by kernel_rfl) (by kernel_rfl) (fun _ _ _ h => h) (Or.inl ⟨by rfl, ?hy8⟩) hHeld ?rest8
  case hy8 => (intro W hSw; (try dsimp only at hSw); go_simp; all_goals (with_reducible rfl))
  change wpAnyH _ _ _ _ _ _ _ (Act.put _ (some 11) _) _
  simp only [Act.put, List.setIfInBounds_toArray, List.set_cons_zero, List.set_cons_succ]
  refine wpAnyH_ready (rs := [4]) (by kernel_rfl) (by simp) ?_
  refine AllReadyH.cons rfl (fun K hK => ?_) AllReadyH.nil
  try simp only [List.getElem_toArray, List.getElem_cons_succ, List.getElem_cons_zero]
  go_simp
  refine (calls_args HS1.out (by rfl)).mono ?_
  rintro e w1 ⟨oL, gL, C1, lo1, hi1, hLen1, rfl, hL1, hg1, hg1b, hC1, hlo1, hhi1, hF1⟩
  have HF1 := hide (HF0.out.join hF1)
  have Hb1 := hide (cells_at Hb0.out hF1 (fun e => e))
  have hs01 := hF1.size
  have HLen1 := hide hLen1
  have HL1 := hide hL1
  have HC1 := hide hC1
  clear hF1 hLen1 hL1 hC1
  refine hK.out _ _ trivial (fun hHeld => ?_)
  clear hK K
  refine wpAnyH_ready (rs := [9]) (by kernel_rfl) (by simp) ?_
  refine AllReadyH.cons rfl (fun K hK => ?_) AllReadyH.nil
  try simp only [List.getElem_toArray, List.getElem_cons_succ, List.getElem_cons_zero]
  go_simp
  refine (calls_args (HS2.out w1 HF1.out) (by rfl)).mono ?_
  rintro e w2 ⟨oD, gD, C2, lo2, hi2, hLen2, rfl, hL2, hg2, hg2b, hC2, hlo2, hhi2, hF2⟩
  have HF2 := hide (HF1.out.join hF2)
  have hb2 := cells_at Hb1.out hF2 (fun e => e)
  have hs12 := hF2.size
  have HLen2 := hide hLen2
  have HL2 := hide hL2
  have HC2 := hide hC2
  have HL1b := hide (HL1.out.fr hF2)
  have HC1b := hide (HC1.out.keep hF2 (fun _ _ _ e => e))
  have k0 := cell_of (o := 0) hb2 rfl
  have k1 := cell_of (o := 1) hb2 rfl
  have k2 := cell_of (o := 2) hb2 rfl
  have k3 := cell_of (o := 3) hb2 rfl
  have f0 := frozen_of (o := 0) hb2
  have f1 := frozen_of (o := 1) hb2
  have f2 := frozen_of (o := 2) hb2
  have f3 := frozen_of (o := 3) hb2
  clear hF2 hLen2 hL2 hC2 hb2
  refine hK.out _ _ trivial (fun hHeld => ?_)
  clear hK K
  refine wpAnyH_take (i := 10) (v := ?v10) rfl (by kernel_rfl) (by kernel_rfl) (by kernel_rfl) (fun _ _ _ h => h) (Or.inl ⟨by rfl, ?hy10⟩) hHeld ?rest10
  case hy10 => (intro W hSw; (try dsimp only at hSw); go_simp; all_goals (with_reducible rfl))
  change wpAnyH _ _ _ _ _ _ _ (Act.put _ (some 13) _) _
  simp only [Act.put, List.setIfInBounds_toArray, List.set_cons_zero, List.set_cons_succ]
  refine wpAnyH_ready (rs := [11]) (by kernel_rfl) (by simp) ?_
  refine AllReadyH.cons rfl (fun K hK => ?_) AllReadyH.nil
  try simp only [List.getElem_toArray, List.getElem_cons_succ, List.getElem_cons_zero]
  go_simp
  refine hK.out _ _ trivial (fun hHeld => ?_)
  clear hK K
  refine wpAnyH_done (by kernel_rfl) ?_ _
  go_wp2
  refine bodyPost_ret (v := .agg #[.slice (some ⟨gL, 0, none⟩) (trim oL 257).length 286, .pointer (some ⟨C1, 0, none⟩), .slice (some ⟨gD, 0, none⟩) (trim oD 1).length 30, .pointer (some ⟨C2, 0, none⟩)]) (by simp [results, Tryz.results74, go_sem, k0, k1, k2, k3]) rfl ?_
  have fS : Fr (fun i => i = w.heap.size) w2 ((((w2.setCell ⟨w.heap.size, 0, none⟩ (.slice (some ⟨gL, 0, none⟩) (trim oL 257).length 286)).setCell ⟨w.heap.size, 1, none⟩ (.pointer (some ⟨C1, 0, none⟩))).setCell ⟨w.heap.size, 2, none⟩ (.slice (some ⟨gD, 0, none⟩) (trim oD 1).length 30)).setCell ⟨w.heap.size, 3, none⟩ (.pointer (some ⟨C2, 0, none⟩))) :=
    ((((Fr.of_setCell w2 ⟨w.heap.size, 0, none⟩ _).trans (Fr.of_setCell _ ⟨w.heap.size, 1, none⟩ _)).trans (Fr.of_setCell _ ⟨w.heap.size, 2, none⟩ _)).trans (Fr.of_setCell _ ⟨w.heap.size, 3, none⟩ _)).mono fun i _ e => by
      rcases e with ((e | e) | e) | e <;> exact e
  have hsz := fS.size
  refine ⟨oL, oD, gL, gD, C1, C2, HLen1.out, HLen2.out, rfl, HL1b.out.frS fS (fun ad e => by cases e; show ¬ gL = w.heap.size; omega), HL2.out.frS fS (fun ad e => by cases e; show ¬ gD = w.heap.size; omega), by omega, by omega, by omega, by omega,
    (HC1b.out.keep fS (fun i h1 _ e => by omega)).wide (by omega) (by omega) (Nat.le_refl _), (HC2.out.keep fS (fun i h1 _ e => by omega)).wide (by omega) (by omega) (Nat.le_refl _), ?_⟩
  exact fr_set_new (fr_set_new (fr_set_new (fr_set_new HF2.out (Nat.le_refl _)) (Nat.le_refl _)) (Nat.le_refl _)) (Nat.le_refl _)
end Go.Proofs.YtdpmpllbdoefdaaGreatDoor
namespace Go.Proofs.YtdpmpllbdoefdaaGreatDoor
open Go.RowKit
theorem five_keep {w w' : World} {K A : Nat} {u0 u1 u2 u3 x : Value} (f : Fr (fun _ => False) w w') (c0 : w.cell? ⟨K, 0, none⟩ = some u0) (c1 : w.cell? ⟨K, 1, none⟩ = some u1) (c2 : w.cell? ⟨K, 2, none⟩ = some u2) (c3 : w.cell? ⟨K, 3, none⟩ = some u3) (c4 : w.cell? ⟨A, 316, none⟩ = some x) :
    ((w'.cell? ⟨K, 0, none⟩ = some u0 ∧ w'.cell? ⟨K, 1, none⟩ = some u1) ∧ (w'.cell? ⟨K, 2, none⟩ = some u2 ∧ w'.cell? ⟨K, 3, none⟩ = some u3)) ∧ w'.cell? ⟨A, 316, none⟩ = some x :=
  ⟨⟨⟨(cell_blk (a := ⟨K, 0, none⟩) (f.block K (cell_lt c0) (fun e => e))).trans c0, (cell_blk (a := ⟨K, 1, none⟩) (f.block K (cell_lt c1) (fun e => e))).trans c1⟩, ⟨(cell_blk (a := ⟨K, 2, none⟩) (f.block K (cell_lt c2) (fun e => e))).trans c2, (cell_blk (a := ⟨K, 3, none⟩) (f.block K (cell_lt c3) (fun e => e))).trans c3⟩⟩, (cell_blk (a := ⟨A, 316, none⟩) (f.block A (cell_lt c4) (fun e => e))).trans c4⟩
set_option maxHeartbeats 1600000 in
set_option maxRecDepth 100000 in
theorem tallyBits_c (A lo1 hi1 lo2 hi2 C1 C2 fu : Nat) (ll dl fL fD : List Int) (a1 : Option Addr) (n1 c1 : Nat) (a2 : Option Addr) (n2 c2 : Nat) (w : World) (hC1 : Cd w lo1 hi1 C1 ll) (hC2 : Cd w lo2 hi2 C2 dl)
    (h1 : LiesI w (some ⟨A, 0, none⟩) fL) (h2 : LiesI w (some ⟨A, 286, none⟩) fD) (h3 : w.cell? ⟨A, 316, none⟩ = some (.int .i64 (fu : Int))) (l1 : fL.length = 286) (l2 : fD.length = 30) (g1 : goodF fL) (g2 : goodF fD) (hfu : fu ≤ 100000000) :
    Calls Tryz.prog 77 #[.pointer (some ⟨A, 0, none⟩), codesV a1 n1 c1 C1 a2 n2 c2 C2] w fun e w' => e = .returned (.int .i64 (bitsF ll fL 286 + bitsF dl fD 30 + (fu : Int))) ∧ Fr (fun _ => False) w w' := by
  obtain ⟨K, hK⟩ : ∃ K, K = w.heap.size := ⟨_, rfl⟩
  obtain ⟨w0, hw0⟩ : ∃ w0, w0 = w.alloc (.cells #[.slice a1 n1 c1, .pointer (some ⟨C1, 0, none⟩), .slice a2 n2 c2, .pointer (some ⟨C2, 0, none⟩)] 127) := ⟨_, rfl⟩
  have hF0 : Fr (fun _ => False) w w0.drew := by rw [hw0]; exact (Fr.of_alloc _ _).join (Fr.of_drewN _ 1)
  have hb0 : w0.drew.heap[K]? = some (.cells #[.slice a1 n1 c1, .pointer (some ⟨C1, 0, none⟩), .slice a2 n2 c2, .pointer (some ⟨C2, 0, none⟩)] 127 (0, 0)) := by rw [hw0]; exact cells_at (heap_alloc_at hK) (Fr.of_drewN _ 1) (fun e => e)
  have k0 := cell_of (o := 0) hb0 rfl
  have k1 := cell_of (o := 1) hb0 rfl
  have k2 := cell_of (o := 2) hb0 rfl
  have k3 := cell_of (o := 3) hb0 rfl
  have k4 : w0.drew.cell? ⟨A, 316, none⟩ = some (.int .i64 (fu : Int)) := (cell_blk (a := ⟨A, 316, none⟩) (hF0.block A (cell_lt h3) (fun e => e))).trans h3
  have B1 := bitsF_bd (at_all hC1.egood) (atF_all g1) 286
  have B2 := bitsF_bd (at_all hC2.egood) (atF_all g2) 30
  have H1 := hide (codeBits_c lo1 hi1 C1 ll fL a1 n1 c1 (some ⟨A, 0, none⟩) 286 286 w0.drew (hC1.keep hF0 (fun _ _ _ e => e)) l1.symm (h1.fr hF0) g1)
  have H2 := hide (fun W (hF : Fr (fun _ => False) w W) => codeBits_c lo2 hi2 C2 dl fD a2 n2 c2 (some ⟨A, 286, none⟩) 30 30 W (hC2.keep hF (fun _ _ _ e => e)) l2.symm (h2.fr hF) g2)
  generalize bitsF ll fL 286 = X at *
  generalize bitsF dl fD 30 = Y at *
  have x0 : 0 ≤ X := B1.1
  have x1 : X ≤ 4498391040 := by have := B1.2; omega
  have y0 : 0 ≤ Y := B2.1
  have y1 : Y ≤ 471859200 := by have := B2.2; omega
  have hfi : (fu : Int) ≤ 100000000 := by omega
  have HF0 := hide hF0
  have Hw0 := hide hw0
  have HK := hide hK
  clear B1 B2 hF0 hw0 hK hb0 hC1 hC2 h1 h2 h3 g1 g2
  go_enter Tryz.func77, Tryz.ntmps77
  go_wp2_with fail
  rw [← Hw0.out, ← HK.out]
  refine wp_region_held_drew (S := fun W' => ((W'.cell? ⟨K, 0, none⟩ = some (.slice a1 n1 c1) ∧ W'.cell? ⟨K, 1, none⟩ = some (.pointer (some ⟨C1, 0, none⟩))) ∧ (W'.cell? ⟨K, 2, none⟩ = some (.slice a2 n2 c2) ∧ W'.cell? ⟨K, 3, none⟩ = some (.pointer (some ⟨C2, 0, none⟩)))) ∧ W'.cell? ⟨A, 316, none⟩ = some (.int .i64 (fu : Int))) (by kernel_rfl) ⟨⟨⟨k0, k1⟩, ⟨k2, k3⟩⟩, k4⟩ (fun hHeld => ?_)
  refine wpAnyH_take (i := 0) (v := ?v0) rfl (by kernel_rfl) (by kernel_rfl) (by kernel_rfl) (fun _ _ _ h => h) (Or.inl ⟨by rfl, ?hy0⟩) hHeld ?rest0
  case hy0 => (intro W hSw; (try dsimp only at hSw); obtain ⟨⟨⟨hSa, hSb⟩, ⟨hSc, hSd⟩⟩, hSe⟩ := hSw; go_simp; all_goals (with_reducible rfl))
  change wpAnyH _ _ _ _ _ _ _ (Act.put _ (some 5) _) _
  simp only [Act.put, List.setIfInBounds_toArray, List.set_cons_zero, List.set_cons_succ]
  refine wpAnyH_take (i := 2) (v := ?v2) rfl (by kernel_rfl) (by kernel_rfl) (by kernel_rfl) (fun _ _ _ h => h) (Or.inl ⟨by rfl, ?hy2⟩) hHeld ?rest2
  case hy2 => (intro W hSw; (try dsimp only at hSw); obtain ⟨⟨⟨hSa, hSb⟩, ⟨hSc, hSd⟩⟩, hSe⟩ := hSw; go_simp; all_goals (with_reducible rfl))
  change wpAnyH _ _ _ _ _ _ _ (Act.put _ (some 7) _) _
  simp only [Act.put, List.setIfInBounds_toArray, List.set_cons_zero, List.set_cons_succ]
  refine wpAnyH_take (i := 7) (v := ?v7) rfl (by kernel_rfl) (by kernel_rfl) (by kernel_rfl) (fun _ _ _ h => h) (Or.inl ⟨by rfl, ?hy7⟩) hHeld ?rest7
  case hy7 => (intro W hSw; (try dsimp only at hSw); obtain ⟨⟨⟨hSa, hSb⟩, ⟨hSc, hSd⟩⟩, hSe⟩ := hSw; go_simp; all_goals (with_reducible rfl))
  change wpAnyH _ _ _ _ _ _ _ (Act.put _ (some 12) _) _
  simp only [Act.put, List.setIfInBounds_toArray, List.set_cons_zero, List.set_cons_succ]
  refine wpAnyH_take (i := 9) (v := ?v9) rfl (by kernel_rfl) (by kernel_rfl) (by kernel_rfl) (fun _ _ _ h => h) (Or.inl ⟨by rfl, ?hy9⟩) hHeld ?rest9
  case hy9 => (intro W hSw; (try dsimp only at hSw); obtain ⟨⟨⟨hSa, hSb⟩, ⟨hSc, hSd⟩⟩, hSe⟩ := hSw; go_simp; all_goals (with_reducible rfl))
  change wpAnyH _ _ _ _ _ _ _ (Act.put _ (some 14) _) _
  simp only [Act.put, List.setIfInBounds_toArray, List.set_cons_zero, List.set_cons_succ]
  refine wpAnyH_take (i := 15) (v := ?v15) rfl (by kernel_rfl) (by kernel_rfl) (by kernel_rfl) (fun _ _ _ h => h) (Or.inl ⟨by rfl, ?hy15⟩) hHeld ?rest15
  case hy15 => (intro W hSw; (try dsimp only at hSw); obtain ⟨⟨⟨hSa, hSb⟩, ⟨hSc, hSd⟩⟩, hSe⟩ := hSw; go_simp; all_goals (with_reducible rfl))
  change wpAnyH _ _ _ _ _ _ _ (Act.put _ (some 20) _) _
  simp only [Act.put, List.setIfInBounds_toArray, List.set_cons_zero, List.set_cons_succ]
  refine wpAnyH_take (i := 1) (v := ?v1) rfl (by kernel_rfl) (by kernel_rfl) (by kernel_rfl) (fun _ _ _ h => h) (Or.inl ⟨by rfl, ?hy1⟩) hHeld ?rest1
  case hy1 => (intro W hSw; (try dsimp only at hSw); obtain ⟨⟨⟨hSa, hSb⟩, ⟨hSc, hSd⟩⟩, hSe⟩ := hSw; go_simp; all_goals (with_reducible rfl))
  change wpAnyH _ _ _ _ _ _ _ (Act.put _ (some 6) _) _
  simp only [Act.put, List.setIfInBounds_toArray, List.set_cons_zero, List.set_cons_succ]
  refine wpAnyH_take (i := 3) (v := ?v3) rfl (by kernel_rfl) (by kernel_rfl) (by kernel_rfl) (fun _ _ _ h => h) (Or.inl ⟨by rfl, ?hy3⟩) hHeld ?rest3
  case hy3 => (intro W hSw; (try dsimp only at hSw); obtain ⟨⟨⟨hSa, hSb⟩, ⟨hSc, hSd⟩⟩, hSe⟩ := hSw; go_simp; all_goals (with_reducible rfl))
  change wpAnyH _ _ _ _ _ _ _ (Act.put _ (some 8) _) _
  simp only [Act.put, List.setIfInBounds_toArray, List.set_cons_zero, List.set_cons_succ]
  refine wpAnyH_take (i := 8) (v := ?v8) rfl (by kernel_rfl) (by kernel_rfl) (by kernel_rfl) (fun _ _ _ h => h) (Or.inl ⟨by rfl, ?hy8⟩) hHeld ?rest8
  case hy8 => (intro W hSw; (try dsimp only at hSw); obtain ⟨⟨⟨hSa, hSb⟩, ⟨hSc, hSd⟩⟩, hSe⟩ := hSw; go_simp; all_goals (with_reducible rfl))
  change wpAnyH _ _ _ _ _ _ _ (Act.put _ (some 13) _) _
  simp only [Act.put, List.setIfInBounds_toArray, List.set_cons_zero, List.set_cons_succ]
  refine wpAnyH_take (i := 10) (v := ?v10) rfl (by kernel_rfl) (by kernel_rfl) (by kernel_rfl) (fun _ _ _ h => h) (Or.inl ⟨by rfl, ?hy10⟩) hHeld ?rest10
  case hy10 => (intro W hSw; (try dsimp only at hSw); obtain ⟨⟨⟨hSa, hSb⟩, ⟨hSc, hSd⟩⟩, hSe⟩ := hSw; go_simp; all_goals (with_reducible rfl))
  change wpAnyH _ _ _ _ _ _ _ (Act.put _ (some 15) _) _
  simp only [Act.put, List.setIfInBounds_toArray, List.set_cons_zero, List.set_cons_succ]
  refine wpAnyH_take (i := 16) (v := ?v16) rfl (by kernel_rfl) (by kernel_rfl) (by kernel_rfl) (fun _ _ _ h => h) (Or.inl ⟨by rfl, ?hy16⟩) hHeld ?rest16
  case hy16 => (intro W hSw; (try dsimp only at hSw); obtain ⟨⟨⟨hSa, hSb⟩, ⟨hSc, hSd⟩⟩, hSe⟩ := hSw; go_simp; all_goals (with_reducible rfl))
  change wpAnyH _ _ _ _ _ _ _ (Act.put _ (some 21) _) _
  simp only [Act.put, List.setIfInBounds_toArray, List.set_cons_zero, List.set_cons_succ]
  refine wpAnyH_take (i := 4) (v := ?v4) rfl (by kernel_rfl) (by kernel_rfl) (by kernel_rfl) (fun _ _ _ h => h) (Or.inl ⟨by rfl, ?hy4⟩) hHeld ?rest4
  case hy4 => (intro W hSw; (try dsimp only at hSw); obtain ⟨⟨⟨hSa, hSb⟩, ⟨hSc, hSd⟩⟩, hSe⟩ := hSw; go_simp; all_goals (with_reducible rfl))
  change wpAnyH _ _ _ _ _ _ _ (Act.put _ (some 9) _) _
  simp only [Act.put, List.setIfInBounds_toArray, List.set_cons_zero, List.set_cons_succ]
  refine wpAnyH_take (i := 11) (v := ?v11) rfl (by kernel_rfl) (by kernel_rfl) (by kernel_rfl) (fun _ _ _ h => h) (Or.inl ⟨by rfl, ?hy11⟩) hHeld ?rest11
  case hy11 => (intro W hSw; (try dsimp only at hSw); obtain ⟨⟨⟨hSa, hSb⟩, ⟨hSc, hSd⟩⟩, hSe⟩ := hSw; go_simp; all_goals (with_reducible rfl))
  change wpAnyH _ _ _ _ _ _ _ (Act.put _ (some 16) _) _
  simp only [Act.put, List.setIfInBounds_toArray, List.set_cons_zero, List.set_cons_succ]
  refine wpAnyH_take (i := 17) (v := ?v17) rfl (by kernel_rfl) (by kernel_rfl) (by kernel_rfl) (fun _ _ _ h => h) (Or.inl ⟨by rfl, ?hy17⟩) hHeld ?rest17
  case hy17 => (intro W hSw; (try dsimp only at hSw); obtain ⟨⟨⟨hSa, hSb⟩, ⟨hSc, hSd⟩⟩, hSe⟩ := hSw; go_simp; all_goals (with_reducible rfl))
  change wpAnyH _ _ _ _ _ _ _ (Act.put _ (some 22) _) _
  simp only [Act.put, List.setIfInBounds_toArray, List.set_cons_zero, List.set_cons_succ]
  refine wpAnyH_take (i := 5) (v := ?v5) rfl (by kernel_rfl) (by kernel_rfl) (by kernel_rfl) (fun _ _ _ h => h) (Or.inl ⟨by rfl, ?hy5⟩) hHeld ?rest5
  case hy5 => (intro W hSw; (try dsimp only at hSw); obtain ⟨⟨⟨hSa, hSb⟩, ⟨hSc, hSd⟩⟩, hSe⟩ := hSw; go_simp; all_goals (with_reducible rfl))
  change wpAnyH _ _ _ _ _ _ _ (Act.put _ (some 10) _) _
  simp only [Act.put, List.setIfInBounds_toArray, List.set_cons_zero, List.set_cons_succ]
  refine wpAnyH_take (i := 12) (v := ?v12) rfl (by kernel_rfl) (by kernel_rfl) (by kernel_rfl) (fun _ _ _ h => h) (Or.inl ⟨by rfl, ?hy12⟩) hHeld ?rest12
  case hy12 => (intro W hSw; (try dsimp only at hSw); obtain ⟨⟨⟨hSa, hSb⟩, ⟨hSc, hSd⟩⟩, hSe⟩ := hSw; go_simp; all_goals (with_reducible rfl))
  change wpAnyH _ _ _ _ _ _ _ (Act.put _ (some 17) _) _
  simp only [Act.put, List.setIfInBounds_toArray, List.set_cons_zero, List.set_cons_succ]
  refine wpAnyH_take (i := 18) (v := ?v18) rfl (by kernel_rfl) (by kernel_rfl) (by kernel_rfl) (fun _ _ _ h => h) (Or.inl ⟨by rfl, ?hy18⟩) hHeld ?rest18
  case hy18 => (intro W hSw; (try dsimp only at hSw); obtain ⟨⟨⟨hSa, hSb⟩, ⟨hSc, hSd⟩⟩, hSe⟩ := hSw; go_simp; all_goals (with_reducible rfl))
  change wpAnyH _ _ _ _ _ _ _ (Act.put _ (some 23) _) _
  simp only [Act.put, List.setIfInBounds_toArray, List.set_cons_zero, List.set_cons_succ]
  refine wpAnyH_ready (rs := [6]) (by kernel_rfl) (by simp) ?_
  refine AllReadyH.cons rfl (fun K hK => ?_) AllReadyH.nil
  try simp only [List.getElem_toArray, List.getElem_cons_succ, List.getElem_cons_zero]
  go_simp
  refine (calls_args H1.out (by rfl)).mono ?_
  rintro e w1 ⟨rfl, hF1⟩
  have HF1 := hide (HF0.out.join hF1)
  have hS1 := five_keep hF1 k0 k1 k2 k3 k4
  clear hF1
  refine hK.out _ _ hS1 (fun hHeld => ?_)
  clear hK K
  refine wpAnyH_ready (rs := [13]) (by kernel_rfl) (by simp) ?_
  refine AllReadyH.cons rfl (fun K hK => ?_) AllReadyH.nil
  try simp only [List.getElem_toArray, List.getElem_cons_succ, List.getElem_cons_zero]
  go_simp
  refine (calls_args (H2.out w1 HF1.out) (by rfl)).mono ?_
  rintro e w2 ⟨rfl, hF2⟩
  have HF2 := hide (HF1.out.join hF2)
  have hS2 := five_keep hF2 hS1.1.1.1 hS1.1.1.2 hS1.1.2.1 hS1.1.2.2 hS1.2
  clear hF2
  refine hK.out _ _ hS2 (fun hHeld => ?_)
  clear hK K
  refine wpAnyH_take (i := 14) (v := ?v14) rfl (by kernel_rfl) (by kernel_rfl) (by kernel_rfl) (fun _ _ _ h => h) (Or.inl ⟨by rfl, ?hy14⟩) hHeld ?rest14
  case hy14 => (intro W hSw; (try dsimp only at hSw); obtain ⟨⟨⟨hSa, hSb⟩, ⟨hSc, hSd⟩⟩, hSe⟩ := hSw; go_simp; all_goals (with_reducible rfl))
  change wpAnyH _ _ _ _ _ _ _ (Act.put _ (some 19) _) _
  simp only [Act.put, List.setIfInBounds_toArray, List.set_cons_zero, List.set_cons_succ]
  refine wpAnyH_take (i := 19) (v := ?v19) rfl (by kernel_rfl) (by kernel_rfl) (by kernel_rfl) (fun _ _ _ h => h) (Or.inl ⟨by rfl, ?hy19⟩) hHeld ?rest19
  case hy19 => (intro W hSw; (try dsimp only at hSw); obtain ⟨⟨⟨hSa, hSb⟩, ⟨hSc, hSd⟩⟩, hSe⟩ := hSw; go_simp; all_goals (with_reducible rfl))
  change wpAnyH _ _ _ _ _ _ _ (Act.put _ (some 24) _) _
  simp only [Act.put, List.setIfInBounds_toArray, List.set_cons_zero, List.set_cons_succ]
  refine wpAnyH_take (i := 20) (v := ?v20) rfl (by kernel_rfl) (by kernel_rfl) (by kernel_rfl) (fun _ _ _ h => h) (Or.inl ⟨by rfl, ?hy20⟩) hHeld ?rest20
  case hy20 => (intro W hSw; (try dsimp only at hSw); obtain ⟨⟨⟨hSa, hSb⟩, ⟨hSc, hSd⟩⟩, hSe⟩ := hSw; go_simp; all_goals (with_reducible rfl))
  change wpAnyH _ _ _ _ _ _ _ (Act.put _ (some 4) _) _
  simp only [Act.put, List.setIfInBounds_toArray, List.set_cons_zero, List.set_cons_succ]
  refine wpAnyH_done (by kernel_rfl) ?_ _
  have e1 : IntKind.i64.wrap (X + Y) = X + Y := wrap_i64_id _ (by omega) (by omega)
  have e2 : IntKind.i64.wrap (X + Y + (fu : Int)) = X + Y + (fu : Int) := wrap_i64_id _ (by omega) (by omega)
  rw [e1, e2]
  clear e1 e2
  go_wp2
  go_ret
  exact ⟨rfl, HF2.out⟩
end Go.Proofs.YtdpmpllbdoefdaaGreatDoor
namespace Go.Proofs.YtdpmpllbdoefdaaGreatDoor
open Go.RowKit
structure Tl (w : World) (A : Nat) (Z : List Int) : Prop where
  blk : w.heap[A]? = some (.cells (cellsZ Z).toArray 122 (0, 0))
  len : Z.length = 317
def inc (Z : List Int) (i : Nat) (d : Int) : List Int := Z.set i (at0 Z i + d)
theorem inc_len (Z : List Int) (i : Nat) (d : Int) : (inc Z i d).length = Z.length := by simp [inc]
theorem inc_at (Z : List Int) (i j : Nat) (d : Int) (hi : i < Z.length) : at0 (inc Z i d) j = if j = i then at0 Z i + d else at0 Z j := by
  unfold inc at0
  simp only [List.getD_eq_getElem?_getD]
  split
  · next h => subst h; simp [hi]
  · next h => rw [List.getElem?_set_ne (Ne.symm h)]
theorem Tl.cell {w : World} {A : Nat} {Z : List Int} (h : Tl w A Z) {i : Nat} (hi : i < 317) : w.cell? ⟨A, i, none⟩ = some (.int .i64 (at0 Z i)) :=
  cell_of (o := i) h.blk (by
    have : i < Z.length := by rw [h.len]; exact hi
    simp [cellsZ, List.getElem?_map, List.getElem?_eq_getElem this, at0])
theorem Tl.set {w : World} {A : Nat} {Z : List Int} (h : Tl w A Z) (i : Nat) (d : Int) : Tl (w.setCell ⟨A, i, none⟩ (.int .i64 (at0 Z i + d))) A (inc Z i d) :=
  ⟨by rw [heap_setCell_own _ h.blk]; simp [cellsZ, inc, List.map_set], by rw [inc_len]; exact h.len⟩
theorem Tl.fr {w w' : World} {S : Nat → Prop} {A : Nat} {Z : List Int} (h : Tl w A Z) (f : Fr S w w') (hn : ¬ S A) : Tl w' A Z := ⟨cells_at h.blk f hn, h.len⟩
def addZ (Z : List Int) (p : Pc) : List Int :=
  if p.len = 0 then inc Z p.lit 1 else inc (inc (inc Z (lenMark p.len).sym 1) (286 + (dstMark p.back).sym) 1) 316 ((lenMark p.len).size + (dstMark p.back).size : Nat)
set_option maxHeartbeats 1600000 in
set_option maxRecDepth 100000 in
theorem tallyAdd_lit (A lt bk : Nat) (Z : List Int) (w : World) (h : Tl w A Z) (hl : lt < 256) (hz : 0 ≤ at0 Z lt ∧ at0 Z lt ≤ 10000000) :
    Calls Tryz.prog 96 #[.pointer (some ⟨A, 0, none⟩), .agg #[.int .u8 (lt : Int), .int .u16 0, .int .u16 (bk : Int)]] w fun e w' => e = .returned (.tuple #[]) ∧ Tl w' A (inc Z lt 1) ∧ Fr (fun i => i = A) w w' := by
  obtain ⟨K, hK⟩ : ∃ K, K = w.heap.size := ⟨_, rfl⟩
  obtain ⟨w0, hw0⟩ : ∃ w0, w0 = w.alloc (.cells #[.int .u8 (lt : Int), .int .u16 0, .int .u16 (bk : Int)] 113) := ⟨_, rfl⟩
  have hF0 : Fr (fun _ => False) w w0 := by rw [hw0]; exact Fr.of_alloc _ _
  have hb0 : w0.heap[K]? = some (.cells #[.int .u8 (lt : Int), .int .u16 0, .int .u16 (bk : Int)] 113 (0, 0)) := by rw [hw0]; exact heap_alloc_at hK
  have hT0 := h.fr hF0 (fun e => e)
  have c0 := cell_of (o := 0) hb0 rfl
  have c1 := cell_of (o := 1) hb0 rfl
  have cz := hT0.cell (i := lt) (by omega)
  have fz := frozen_of (o := lt) hT0.blk
  obtain ⟨x, hx⟩ : ∃ x, x = at0 Z lt := ⟨_, rfl⟩
  rw [← hx] at cz hz
  obtain ⟨hz0, hz1⟩ := hz
  have hli : (lt : Int) < 286 := by omega
  have hKA : K ≠ A := by have := lt_of h.blk; omega
  have HT0 := hide hT0
  have HF0 := hide hF0
  have Hw0 := hide hw0
  have HK := hide hK
  have Hx := hide hx
  clear h hT0 hF0 hw0 hK hx hb0
  go_enter Tryz.func96, Tryz.ntmps96
  go_wp2_with fail
  rw [← Hw0.out, ← HK.out]
  go_region
  all_goals
    go_wp2
    refine bodyPost_ret (results_none rfl _ _ _) rfl ?_
    have hs := HT0.out.set lt 1
    rw [← Hx.out] at hs
    refine ⟨rfl, hs.fr (Fr.of_drewN _ 1) (fun e => e), ?_⟩
    exact ((HF0.out.trans (Fr.of_setCell w0 ⟨A, lt, none⟩ _)).trans (Fr.of_drewN _ 1)).mono fun i _ e => by
      rcases e with (e | e) | e
      · exact e.elim
      · exact e
      · exact e.elim
end Go.Proofs.YtdpmpllbdoefdaaGreatDoor
namespace Go.Proofs.YtdpmpllbdoefdaaGreatDoor
open Go.RowKit
theorem set3 {w : World} {B : Nat} {a b c : Value} {T : TypeId} (x y z : Value) (h : w.heap[B]? = some (.cells #[a, b, c] T (0, 0))) :
    (((w.setCell ⟨B, 0, none⟩ x).setCell ⟨B, 1, none⟩ y).setCell ⟨B, 2, none⟩ z).heap[B]? = some (.cells #[x, y, z] T (0, 0)) ∧ Fr (fun i => i = B) w (((w.setCell ⟨B, 0, none⟩ x).setCell ⟨B, 1, none⟩ y).setCell ⟨B, 2, none⟩ z) := by
  have h1 := heap_setCell_own (o := 0) x h
  have h2 := heap_setCell_own (o := 1) y h1
  have h3 := heap_setCell_own (o := 2) z h2
  exact ⟨h3, ((Fr.of_setCell w ⟨B, 0, none⟩ x).join (Fr.of_setCell _ ⟨B, 1, none⟩ y)).join (Fr.of_setCell _ ⟨B, 2, none⟩ z)⟩
theorem fr_false_new {w w1 w2 : World} {S : Nat → Prop} (h : Fr (fun _ => False) w w1) (k : Fr S w1 w2) (hS : ∀ i, S i → w.heap.size ≤ i) : Fr (fun _ => False) w w2 :=
  (h.trans k).mono fun i hi e => e.elim id fun e => by have := hS i e; omega
set_option maxHeartbeats 3200000 in
set_option maxRecDepth 100000 in
theorem tallyAdd_row (A lt l b : Nat) (Z : List Int) (w : World) (h : Tl w A Z) (h3 : 3 ≤ l) (h258 : l ≤ 258) (hb1 : 1 ≤ b) (hb2 : b ≤ 32768) (hz : ∀ i, 0 ≤ at0 Z i ∧ at0 Z i ≤ 10000000) :
    Calls Tryz.prog 96 #[.pointer (some ⟨A, 0, none⟩), .agg #[.int .u8 (lt : Int), .int .u16 (l : Int), .int .u16 (b : Int)]] w fun e w' => e = .returned (.tuple #[]) ∧ Tl w' A (addZ Z ⟨lt, l, b⟩) ∧ Fr (fun i => i = A) w w' := by
  obtain ⟨K0, hK⟩ : ∃ K0, K0 = w.heap.size := ⟨_, rfl⟩
  obtain ⟨w0, hw0⟩ : ∃ w0, w0 = w.alloc (.cells #[.int .u8 (lt : Int), .int .u16 (l : Int), .int .u16 (b : Int)] 113) := ⟨_, rfl⟩
  have hF0 : Fr (fun _ => False) w w0 := by rw [hw0]; exact Fr.of_alloc _ _
  have hb0 : w0.heap[K0]? = some (.cells #[.int .u8 (lt : Int), .int .u16 (l : Int), .int .u16 (b : Int)] 113 (0, 0)) := by rw [hw0]; exact heap_alloc_at hK
  have hT0 := h.fr hF0 (fun e => e)
  have c1 := cell_of (o := 1) hb0 rfl
  have c2 := cell_of (o := 2) hb0 rfl
  have hAK : A < K0 := by have := lt_of h.blk; omega
  have HT0 := hide hT0
  have HF0 := hide hF0
  have Hw0 := hide hw0
  have HK := hide hK
  have hl0 : ((l : Int) == 0) = false := beq_false_of_ne (by omega)
  have Hb1 := hide hb1
  have Hb2 := hide hb2
  have H3 := hide h3
  have H258 := hide h258
  have Hz := hide hz
  have Hl1 := hide (lengthMark_c l)
  have Hd1 := hide (distanceMark_c b)
  have q1 : IntKind.i64.wrap (l : Int) = (l : Int) := wrap_i64_id _ (by omega) (by omega)
  have q2 : IntKind.i64.wrap (b : Int) = (b : Int) := wrap_i64_id _ (by omega) (by omega)
  clear h hT0 hF0 hw0 hK hb1 hb2 h3 h258 hz
  go_enter Tryz.func96, Tryz.ntmps96
  go_wp2_with fail
  rw [← Hw0.out, ← HK.out]
  go_cut [4, 5] from 9 to 62 (fun v4 v5 wx => ∃ B4 B5, v4 = .pointer (some ⟨B4, 0, none⟩) ∧ v5 = .pointer (some ⟨B5, 0, none⟩) ∧ wx.heap[B4]? = some (.cells #[.int .i64 ((lenMark l).sym : Int), .int .i64 ((lenMark l).further : Int), .int .i64 ((lenMark l).size : Int)] 158 (0, 0)) ∧ wx.heap[B5]? = some (.cells #[.int .i64 ((dstMark b).sym : Int), .int .i64 ((dstMark b).further : Int), .int .i64 ((dstMark b).size : Int)] 158 (0, 0)) ∧ B4 ≠ A ∧ B5 ≠ A ∧ Fr (fun _ => False) w0 wx)
  case first =>
    refine wp_region_held_drew (S := fun W' => W'.cell? ⟨K0, 1, none⟩ = some (.int .u16 (l : Int)) ∧ W'.cell? ⟨K0, 2, none⟩ = some (.int .u16 (b : Int))) (by kernel_rfl) ⟨c1, c2⟩ (fun hHeld => ?_)
    obtain ⟨wz, hwz⟩ : ∃ W, W = w0.drew := ⟨_, rfl⟩
    rw [← hwz] at hHeld ⊢
    have HFz := hide (show Fr (fun _ => False) w0 wz by rw [hwz]; exact Fr.of_drewN _ 1)
    clear hwz
    have hKz := cell_lt hHeld.1
    dsimp only at hKz
    have HF0 := hide (Fr.refl (fun _ => False) wz)
    refine wpAnyH_take (i := 0) (v := ?v0_1) rfl (by kernel_rfl) (by kernel_rfl) (by kernel_rfl) (fun _ _ _ h => h) (Or.inl ⟨by rfl, ?hy0_1⟩) hHeld ?rest0_1
    case hy0_1 => (intro W hSw; (try dsimp only at hSw); obtain ⟨hSa, hSb⟩ := hSw; go_simp; all_goals (with_reducible rfl))
    change wpAnyH _ _ _ _ _ _ _ (Act.put _ (some 20) _) _
    simp only [Act.put, List.setIfInBounds_toArray, List.set_cons_zero, List.set_cons_succ]
    refine wpAnyH_take (i := 4) (v := ?v4_1) rfl (by kernel_rfl) (by kernel_rfl) (by kernel_rfl) (fun _ _ _ h => h) (Or.inl ⟨by rfl, ?hy4_1⟩) hHeld ?rest4_1
    case hy4_1 => (intro W hSw; (try dsimp only at hSw); obtain ⟨hSa, hSb⟩ := hSw; go_simp; all_goals (with_reducible rfl))
    change wpAnyH _ _ _ _ _ _ _ (Act.put _ (some 24) _) _
    simp only [Act.put, List.setIfInBounds_toArray, List.set_cons_zero, List.set_cons_succ]
    refine wpAnyH_take (i := 1) (v := ?v1_2) rfl (by kernel_rfl) (by kernel_rfl) (by kernel_rfl) (fun _ _ _ h => h) (Or.inl ⟨by rfl, ?hy1_2⟩) hHeld ?rest1_2
    case hy1_2 => (intro W hSw; (try dsimp only at hSw); obtain ⟨hSa, hSb⟩ := hSw; go_simp; all_goals (with_reducible rfl))
    change wpAnyH _ _ _ _ _ _ _ (Act.put _ (some 21) _) _
    simp only [Act.put, List.setIfInBounds_toArray, List.set_cons_zero, List.set_cons_succ]
    refine wpAnyH_take (i := 5) (v := ?v5_2) rfl (by kernel_rfl) (by kernel_rfl) (by kernel_rfl) (fun _ _ _ h => h) (Or.inl ⟨by rfl, ?hy5_2⟩) hHeld ?rest5_2
    case hy5_2 => (intro W hSw; (try dsimp only at hSw); obtain ⟨hSa, hSb⟩ := hSw; go_simp; all_goals (with_reducible rfl))
    change wpAnyH _ _ _ _ _ _ _ (Act.put _ (some 25) _) _
    simp only [Act.put, List.setIfInBounds_toArray, List.set_cons_zero, List.set_cons_succ]
    refine wpAnyH_take (i := 2) (v := ?v2_3) rfl (by kernel_rfl) (by kernel_rfl) (by kernel_rfl) (fun _ _ _ h => h) (Or.inl ⟨by rfl, ?hy2_3⟩) hHeld ?rest2_3
    case hy2_3 => (intro W hSw; (try dsimp only at hSw); obtain ⟨hSa, hSb⟩ := hSw; go_simp; all_goals (with_reducible rfl))
    change wpAnyH _ _ _ _ _ _ _ (Act.put _ (some 22) _) _
    simp only [Act.put, List.setIfInBounds_toArray, List.set_cons_zero, List.set_cons_succ]
    refine wpAnyH_take (i := 6) (v := ?v6_3) rfl (by kernel_rfl) (by kernel_rfl) (by kernel_rfl) (fun _ _ _ h => h) (Or.inl ⟨by rfl, ?hy6_3⟩) hHeld ?rest6_3
    case hy6_3 => (intro W hSw; (try dsimp only at hSw); obtain ⟨hSa, hSb⟩ := hSw; go_simp; all_goals (with_reducible rfl))
    change wpAnyH _ _ _ _ _ _ _ (Act.put _ (some 26) _) _
    simp only [Act.put, List.setIfInBounds_toArray, List.set_cons_zero, List.set_cons_succ]
    refine wpAnyH_ready (rs := [3, 8, 9]) (by kernel_rfl) (by simp) ?_
    refine (AllReadyH.cons rfl (fun K hK => ?_) (AllReadyH.cons rfl (fun K hK => ?_) (AllReadyH.cons rfl (fun K hK => ?_) AllReadyH.nil)))
    · skip
      try simp only [List.getElem_toArray, List.getElem_cons_succ, List.getElem_cons_zero]
      go_simp
      refine (calls_args (Hl1.out _ H3.out H258.out) (by rfl)).mono ?_
      rintro e w1 ⟨rfl, hF1⟩
      have HF1 := hide (HF0.out.join hF1)
      refine hK.out _ _ ⟨(cell_blk (a := ⟨K0, 1, none⟩) (hF1.block K0 (cell_lt hHeld.1) (fun e => e))).trans hHeld.1, (cell_blk (a := ⟨K0, 2, none⟩) (hF1.block K0 (cell_lt hHeld.2) (fun e => e))).trans hHeld.2⟩ (fun hHeld => ?_)
      clear hK K
      refine wpAnyH_ready (rs := [7, 8, 9]) (by kernel_rfl) (by simp) ?_
      refine (AllReadyH.cons rfl (fun K hK => ?_) (AllReadyH.cons rfl (fun K hK => ?_) (AllReadyH.cons rfl (fun K hK => ?_) AllReadyH.nil)))
      · skip
        try simp only [List.getElem_toArray, List.getElem_cons_succ, List.getElem_cons_zero]
        go_simp
        refine (calls_args (Hd1.out _ Hb1.out Hb2.out) (by rfl)).mono ?_
        rintro e w2 ⟨rfl, hF2⟩
        have HF2 := hide (HF1.out.join hF2)
        refine hK.out _ _ ⟨(cell_blk (a := ⟨K0, 1, none⟩) (hF2.block K0 (cell_lt hHeld.1) (fun e => e))).trans hHeld.1, (cell_blk (a := ⟨K0, 2, none⟩) (hF2.block K0 (cell_lt hHeld.2) (fun e => e))).trans hHeld.2⟩ (fun hHeld => ?_)
        clear hK K
        refine wpAnyH_ready (rs := [8, 9]) (by kernel_rfl) (by simp) ?_
        refine (AllReadyH.cons rfl (fun K hK => ?_) (AllReadyH.cons rfl (fun K hK => ?_) AllReadyH.nil))
        · skip
          try simp only [List.getElem_toArray, List.getElem_cons_succ, List.getElem_cons_zero]
          go_simp
          obtain ⟨w3, hw3⟩ : ∃ W, W = w2.alloc (.cells #[.int .i64 0, .int .i64 0, .int .i64 0] 158) := ⟨_, rfl⟩
          obtain ⟨B8, hB8⟩ : ∃ B, B = w2.heap.size := ⟨_, rfl⟩
          rw [← hw3, ← hB8]
          have hF3 : Fr (fun _ => False) w2 w3 := by rw [hw3]; exact Fr.of_alloc _ _
          have hb8_3 : w3.heap[B8]? = some (.cells #[.int .i64 0, .int .i64 0, .int .i64 0] 158 (0, 0)) := by rw [hw3]; exact heap_alloc_at hB8
          have hle8 : wz.heap.size ≤ B8 := by rw [hB8]; exact HF2.out.size
          clear hw3 hB8
          have HF3 := hide (HF2.out.join hF3)
          refine hK.out _ _ ⟨(cell_blk (a := ⟨K0, 1, none⟩) (hF3.block K0 (cell_lt hHeld.1) (fun e => e))).trans hHeld.1, (cell_blk (a := ⟨K0, 2, none⟩) (hF3.block K0 (cell_lt hHeld.2) (fun e => e))).trans hHeld.2⟩ (fun hHeld => ?_)
          clear hK K
          refine wpAnyH_ready (rs := [9]) (by kernel_rfl) (by simp) ?_
          refine (AllReadyH.cons rfl (fun K hK => ?_) AllReadyH.nil)
          try simp only [List.getElem_toArray, List.getElem_cons_succ, List.getElem_cons_zero]
          go_simp
          obtain ⟨w4, hw4⟩ : ∃ W, W = w3.alloc (.cells #[.int .i64 0, .int .i64 0, .int .i64 0] 158) := ⟨_, rfl⟩
          obtain ⟨B9, hB9⟩ : ∃ B, B = w3.heap.size := ⟨_, rfl⟩
          rw [← hw4, ← hB9]
          have hF4 : Fr (fun _ => False) w3 w4 := by rw [hw4]; exact Fr.of_alloc _ _
          have hb9_4 : w4.heap[B9]? = some (.cells #[.int .i64 0, .int .i64 0, .int .i64 0] 158 (0, 0)) := by rw [hw4]; exact heap_alloc_at hB9
          have hle9 : wz.heap.size ≤ B9 := by rw [hB9]; exact HF3.out.size
          have hne : B8 ≠ B9 := by have := lt_of hb8_3; omega
          clear hw4 hB9
          have HF4 := hide (HF3.out.join hF4)
          have hb8_4 := cells_at hb8_3 hF4 (fun e => e)
          refine hK.out _ _ ⟨(cell_blk (a := ⟨K0, 1, none⟩) (hF4.block K0 (cell_lt hHeld.1) (fun e => e))).trans hHeld.1, (cell_blk (a := ⟨K0, 2, none⟩) (hF4.block K0 (cell_lt hHeld.2) (fun e => e))).trans hHeld.2⟩ (fun hHeld => ?_)
          clear hK K
          refine wpAnyH_ready (rs := [10]) (by kernel_rfl) (by simp) ?_
          refine (AllReadyH.cons rfl (fun K hK => ?_) AllReadyH.nil)
          try simp only [List.getElem_toArray, List.getElem_cons_succ, List.getElem_cons_zero]
          have c0 := cell_of (o := 0) hb8_4 rfl
          have c1 := cell_of (o := 1) hb8_4 rfl
          have c2 := cell_of (o := 2) hb8_4 rfl
          have f0 := frozen_of (o := 0) hb8_4
          have f1 := frozen_of (o := 1) hb8_4
          have f2 := frozen_of (o := 2) hb8_4
          go_simp
          obtain ⟨w5, hw5⟩ : ∃ W, W = ((w4.setCell ⟨B8, 0, none⟩ (.int .i64 ((lenMark l).sym : Int))).setCell ⟨B8, 1, none⟩ (.int .i64 ((lenMark l).further : Int))).setCell ⟨B8, 2, none⟩ (.int .i64 ((lenMark l).size : Int)) := ⟨_, rfl⟩
          rw [← hw5]
          obtain ⟨hb8_5, hG5⟩ := set3 (.int .i64 ((lenMark l).sym : Int)) (.int .i64 ((lenMark l).further : Int)) (.int .i64 ((lenMark l).size : Int)) hb8_4
          rw [← hw5] at hb8_5 hG5
          have HF5 := hide (fr_false_new HF4.out hG5 (fun i e => by omega))
          have hb9_5 := cells_at hb9_4 hG5 (by omega)
          clear hw5 c0 c1 c2 f0 f1 f2
          refine hK.out _ _ ⟨(cell_blk (a := ⟨K0, 1, none⟩) (hG5.block K0 (cell_lt hHeld.1) (by omega))).trans hHeld.1, (cell_blk (a := ⟨K0, 2, none⟩) (hG5.block K0 (cell_lt hHeld.2) (by omega))).trans hHeld.2⟩ (fun hHeld => ?_)
          clear hK K
          refine wpAnyH_ready (rs := [11]) (by kernel_rfl) (by simp) ?_
          refine (AllReadyH.cons rfl (fun K hK => ?_) AllReadyH.nil)
          try simp only [List.getElem_toArray, List.getElem_cons_succ, List.getElem_cons_zero]
          have c0 := cell_of (o := 0) hb9_5 rfl
          have c1 := cell_of (o := 1) hb9_5 rfl
          have c2 := cell_of (o := 2) hb9_5 rfl
          have f0 := frozen_of (o := 0) hb9_5
          have f1 := frozen_of (o := 1) hb9_5
          have f2 := frozen_of (o := 2) hb9_5
          go_simp
          obtain ⟨w6, hw6⟩ : ∃ W, W = ((w5.setCell ⟨B9, 0, none⟩ (.int .i64 ((dstMark b).sym : Int))).setCell ⟨B9, 1, none⟩ (.int .i64 ((dstMark b).further : Int))).setCell ⟨B9, 2, none⟩ (.int .i64 ((dstMark b).size : Int)) := ⟨_, rfl⟩
          rw [← hw6]
          obtain ⟨hb9_6, hG6⟩ := set3 (.int .i64 ((dstMark b).sym : Int)) (.int .i64 ((dstMark b).further : Int)) (.int .i64 ((dstMark b).size : Int)) hb9_5
          rw [← hw6] at hb9_6 hG6
          have HF6 := hide (fr_false_new HF5.out hG6 (fun i e => by omega))
          have hb8_6 := cells_at hb8_5 hG6 (by omega)
          clear hw6 c0 c1 c2 f0 f1 f2
          refine hK.out _ _ ⟨(cell_blk (a := ⟨K0, 1, none⟩) (hG6.block K0 (cell_lt hHeld.1) (by omega))).trans hHeld.1, (cell_blk (a := ⟨K0, 2, none⟩) (hG6.block K0 (cell_lt hHeld.2) (by omega))).trans hHeld.2⟩ (fun hHeld => ?_)
          clear hK K
          refine wpAnyH_done (by kernel_rfl) ?_ _
          go_wp2
          go_meet
          exact ⟨B8, B9, rfl, rfl, hb8_6, hb9_6, by omega, by omega, HFz.out.join HF6.out⟩
        · skip
          try simp only [List.getElem_toArray, List.getElem_cons_succ, List.getElem_cons_zero]
          go_simp
          obtain ⟨w3, hw3⟩ : ∃ W, W = w2.alloc (.cells #[.int .i64 0, .int .i64 0, .int .i64 0] 158) := ⟨_, rfl⟩
          obtain ⟨B9, hB9⟩ : ∃ B, B = w2.heap.size := ⟨_, rfl⟩
          rw [← hw3, ← hB9]
          have hF3 : Fr (fun _ => False) w2 w3 := by rw [hw3]; exact Fr.of_alloc _ _
          have hb9_3 : w3.heap[B9]? = some (.cells #[.int .i64 0, .int .i64 0, .int .i64 0] 158 (0, 0)) := by rw [hw3]; exact heap_alloc_at hB9
          have hle9 : wz.heap.size ≤ B9 := by rw [hB9]; exact HF2.out.size
          clear hw3 hB9
          have HF3 := hide (HF2.out.join hF3)
          refine hK.out _ _ ⟨(cell_blk (a := ⟨K0, 1, none⟩) (hF3.block K0 (cell_lt hHeld.1) (fun e => e))).trans hHeld.1, (cell_blk (a := ⟨K0, 2, none⟩) (hF3.block K0 (cell_lt hHeld.2) (fun e => e))).trans hHeld.2⟩ (fun hHeld => ?_)
          clear hK K
          refine wpAnyH_ready (rs := [8]) (by kernel_rfl) (by simp) ?_
          refine (AllReadyH.cons rfl (fun K hK => ?_) AllReadyH.nil)
          try simp only [List.getElem_toArray, List.getElem_cons_succ, List.getElem_cons_zero]
          go_simp
          obtain ⟨w4, hw4⟩ : ∃ W, W = w3.alloc (.cells #[.int .i64 0, .int .i64 0, .int .i64 0] 158) := ⟨_, rfl⟩
          obtain ⟨B8, hB8⟩ : ∃ B, B = w3.heap.size := ⟨_, rfl⟩
          rw [← hw4, ← hB8]
          have hF4 : Fr (fun _ => False) w3 w4 := by rw [hw4]; exact Fr.of_alloc _ _
          have hb8_4 : w4.heap[B8]? = some (.cells #[.int .i64 0, .int .i64 0, .int .i64 0] 158 (0, 0)) := by rw [hw4]; exact heap_alloc_at hB8
          have hle8 : wz.heap.size ≤ B8 := by rw [hB8]; exact HF3.out.size
          have hne : B9 ≠ B8 := by have := lt_of hb9_3; omega
          clear hw4 hB8
          have HF4 := hide (HF3.out.join hF4)
          have hb9_4 := cells_at hb9_3 hF4 (fun e => e)
          refine hK.out _ _ ⟨(cell_blk (a := ⟨K0, 1, none⟩) (hF4.block K0 (cell_lt hHeld.1) (fun e => e))).trans hHeld.1, (cell_blk (a := ⟨K0, 2, none⟩) (hF4.block K0 (cell_lt hHeld.2) (fun e => e))).trans hHeld.2⟩ (fun hHeld => ?_)
          clear hK K
          refine wpAnyH_ready (rs := [10]) (by kernel_rfl) (by simp) ?_
          refine (AllReadyH.cons rfl (fun K hK => ?_) AllReadyH.nil)
          try simp only [List.getElem_toArray, List.getElem_cons_succ, List.getElem_cons_zero]
          have c0 := cell_of (o := 0) hb8_4 rfl
          have c1 := cell_of (o := 1) hb8_4 rfl
          have c2 := cell_of (o := 2) hb8_4 rfl
          have f0 := frozen_of (o := 0) hb8_4
          have f1 := frozen_of (o := 1) hb8_4
          have f2 := frozen_of (o := 2) hb8_4
          go_simp
          obtain ⟨w5, hw5⟩ : ∃ W, W = ((w4.setCell ⟨B8, 0, none⟩ (.int .i64 ((lenMark l).sym : Int))).setCell ⟨B8, 1, none⟩ (.int .i64 ((lenMark l).further : Int))).setCell ⟨B8, 2, none⟩ (.int .i64 ((lenMark l).size : Int)) := ⟨_, rfl⟩
          rw [← hw5]
          obtain ⟨hb8_5, hG5⟩ := set3 (.int .i64 ((lenMark l).sym : Int)) (.int .i64 ((lenMark l).further : Int)) (.int .i64 ((lenMark l).size : Int)) hb8_4
          rw [← hw5] at hb8_5 hG5
          have HF5 := hide (fr_false_new HF4.out hG5 (fun i e => by omega))
          have hb9_5 := cells_at hb9_4 hG5 (by omega)
          clear hw5 c0 c1 c2 f0 f1 f2
          refine hK.out _ _ ⟨(cell_blk (a := ⟨K0, 1, none⟩) (hG5.block K0 (cell_lt hHeld.1) (by omega))).trans hHeld.1, (cell_blk (a := ⟨K0, 2, none⟩) (hG5.block K0 (cell_lt hHeld.2) (by omega))).trans hHeld.2⟩ (fun hHeld => ?_)
          clear hK K
          refine wpAnyH_ready (rs := [11]) (by kernel_rfl) (by simp) ?_
          refine (AllReadyH.cons rfl (fun K hK => ?_) AllReadyH.nil)
          try simp only [List.getElem_toArray, List.getElem_cons_succ, List.getElem_cons_zero]
          have c0 := cell_of (o := 0) hb9_5 rfl
          have c1 := cell_of (o := 1) hb9_5 rfl
          have c2 := cell_of (o := 2) hb9_5 rfl
          have f0 := frozen_of (o := 0) hb9_5
          have f1 := frozen_of (o := 1) hb9_5
          have f2 := frozen_of (o := 2) hb9_5
          go_simp
          obtain ⟨w6, hw6⟩ : ∃ W, W = ((w5.setCell ⟨B9, 0, none⟩ (.int .i64 ((dstMark b).sym : Int))).setCell ⟨B9, 1, none⟩ (.int .i64 ((dstMark b).further : Int))).setCell ⟨B9, 2, none⟩ (.int .i64 ((dstMark b).size : Int)) := ⟨_, rfl⟩
          rw [← hw6]
          obtain ⟨hb9_6, hG6⟩ := set3 (.int .i64 ((dstMark b).sym : Int)) (.int .i64 ((dstMark b).further : Int)) (.int .i64 ((dstMark b).size : Int)) hb9_5
          rw [← hw6] at hb9_6 hG6
          have HF6 := hide (fr_false_new HF5.out hG6 (fun i e => by omega))
          have hb8_6 := cells_at hb8_5 hG6 (by omega)
          clear hw6 c0 c1 c2 f0 f1 f2
          refine hK.out _ _ ⟨(cell_blk (a := ⟨K0, 1, none⟩) (hG6.block K0 (cell_lt hHeld.1) (by omega))).trans hHeld.1, (cell_blk (a := ⟨K0, 2, none⟩) (hG6.block K0 (cell_lt hHeld.2) (by omega))).trans hHeld.2⟩ (fun hHeld => ?_)
          clear hK K
          refine wpAnyH_done (by kernel_rfl) ?_ _
          go_wp2
          go_meet
          exact ⟨B8, B9, rfl, rfl, hb8_6, hb9_6, by omega, by omega, HFz.out.join HF6.out⟩
      · skip
        try simp only [List.getElem_toArray, List.getElem_cons_succ, List.getElem_cons_zero]
        go_simp
        obtain ⟨w2, hw2⟩ : ∃ W, W = w1.alloc (.cells #[.int .i64 0, .int .i64 0, .int .i64 0] 158) := ⟨_, rfl⟩
        obtain ⟨B8, hB8⟩ : ∃ B, B = w1.heap.size := ⟨_, rfl⟩
        rw [← hw2, ← hB8]
        have hF2 : Fr (fun _ => False) w1 w2 := by rw [hw2]; exact Fr.of_alloc _ _
        have hb8_2 : w2.heap[B8]? = some (.cells #[.int .i64 0, .int .i64 0, .int .i64 0] 158 (0, 0)) := by rw [hw2]; exact heap_alloc_at hB8
        have hle8 : wz.heap.size ≤ B8 := by rw [hB8]; exact HF1.out.size
        clear hw2 hB8
        have HF2 := hide (HF1.out.join hF2)
        refine hK.out _ _ ⟨(cell_blk (a := ⟨K0, 1, none⟩) (hF2.block K0 (cell_lt hHeld.1) (fun e => e))).trans hHeld.1, (cell_blk (a := ⟨K0, 2, none⟩) (hF2.block K0 (cell_lt hHeld.2) (fun e => e))).trans hHeld.2⟩ (fun hHeld => ?_)
        clear hK K
        refine wpAnyH_ready (rs := [7, 9]) (by kernel_rfl) (by simp) ?_
        refine (AllReadyH.cons rfl (fun K hK => ?_) (AllReadyH.cons rfl (fun K hK => ?_) AllReadyH.nil))
        · skip
          try simp only [List.getElem_toArray, List.getElem_cons_succ, List.getElem_cons_zero]
          go_simp
          refine (calls_args (Hd1.out _ Hb1.out Hb2.out) (by rfl)).mono ?_
          rintro e w3 ⟨rfl, hF3⟩
          have HF3 := hide (HF2.out.join hF3)
          have hb8_3 := cells_at hb8_2 hF3 (fun e => e)
          refine hK.out _ _ ⟨(cell_blk (a := ⟨K0, 1, none⟩) (hF3.block K0 (cell_lt hHeld.1) (fun e => e))).trans hHeld.1, (cell_blk (a := ⟨K0, 2, none⟩) (hF3.block K0 (cell_lt hHeld.2) (fun e => e))).trans hHeld.2⟩ (fun hHeld => ?_)
          clear hK K
          refine wpAnyH_ready (rs := [9]) (by kernel_rfl) (by simp) ?_
          refine (AllReadyH.cons rfl (fun K hK => ?_) AllReadyH.nil)
          try simp only [List.getElem_toArray, List.getElem_cons_succ, List.getElem_cons_zero]
          go_simp
          obtain ⟨w4, hw4⟩ : ∃ W, W = w3.alloc (.cells #[.int .i64 0, .int .i64 0, .int .i64 0] 158) := ⟨_, rfl⟩
          obtain ⟨B9, hB9⟩ : ∃ B, B = w3.heap.size := ⟨_, rfl⟩
          rw [← hw4, ← hB9]
          have hF4 : Fr (fun _ => False) w3 w4 := by rw [hw4]; exact Fr.of_alloc _ _
          have hb9_4 : w4.heap[B9]? = some (.cells #[.int .i64 0, .int .i64 0, .int .i64 0] 158 (0, 0)) := by rw [hw4]; exact heap_alloc_at hB9
          have hle9 : wz.heap.size ≤ B9 := by rw [hB9]; exact HF3.out.size
          have hne : B8 ≠ B9 := by have := lt_of hb8_3; omega
          clear hw4 hB9
          have HF4 := hide (HF3.out.join hF4)
          have hb8_4 := cells_at hb8_3 hF4 (fun e => e)
          refine hK.out _ _ ⟨(cell_blk (a := ⟨K0, 1, none⟩) (hF4.block K0 (cell_lt hHeld.1) (fun e => e))).trans hHeld.1, (cell_blk (a := ⟨K0, 2, none⟩) (hF4.block K0 (cell_lt hHeld.2) (fun e => e))).trans hHeld.2⟩ (fun hHeld => ?_)
          clear hK K
          refine wpAnyH_ready (rs := [10]) (by kernel_rfl) (by simp) ?_
          refine (AllReadyH.cons rfl (fun K hK => ?_) AllReadyH.nil)
          try simp only [List.getElem_toArray, List.getElem_cons_succ, List.getElem_cons_zero]
          have c0 := cell_of (o := 0) hb8_4 rfl
          have c1 := cell_of (o := 1) hb8_4 rfl
          have c2 := cell_of (o := 2) hb8_4 rfl
          have f0 := frozen_of (o := 0) hb8_4
          have f1 := frozen_of (o := 1) hb8_4
          have f2 := frozen_of (o := 2) hb8_4
          go_simp
          obtain ⟨w5, hw5⟩ : ∃ W, W = ((w4.setCell ⟨B8, 0, none⟩ (.int .i64 ((lenMark l).sym : Int))).setCell ⟨B8, 1, none⟩ (.int .i64 ((lenMark l).further : Int))).setCell ⟨B8, 2, none⟩ (.int .i64 ((lenMark l).size : Int)) := ⟨_, rfl⟩
          rw [← hw5]
          obtain ⟨hb8_5, hG5⟩ := set3 (.int .i64 ((lenMark l).sym : Int)) (.int .i64 ((lenMark l).further : Int)) (.int .i64 ((lenMark l).size : Int)) hb8_4
          rw [← hw5] at hb8_5 hG5
          have HF5 := hide (fr_false_new HF4.out hG5 (fun i e => by omega))
          have hb9_5 := cells_at hb9_4 hG5 (by omega)
          clear hw5 c0 c1 c2 f0 f1 f2
          refine hK.out _ _ ⟨(cell_blk (a := ⟨K0, 1, none⟩) (hG5.block K0 (cell_lt hHeld.1) (by omega))).trans hHeld.1, (cell_blk (a := ⟨K0, 2, none⟩) (hG5.block K0 (cell_lt hHeld.2) (by omega))).trans hHeld.2⟩ (fun hHeld => ?_)
          clear hK K
          refine wpAnyH_ready (rs := [11]) (by kernel_rfl) (by simp) ?_
          refine (AllReadyH.cons rfl (fun K hK => ?_) AllReadyH.nil)
          try simp only [List.getElem_toArray, List.getElem_cons_succ, List.getElem_cons_zero]
          have c0 := cell_of (o := 0) hb9_5 rfl
          have c1 := cell_of (o := 1) hb9_5 rfl
          have c2 := cell_of (o := 2) hb9_5 rfl
          have f0 := frozen_of (o := 0) hb9_5
          have f1 := frozen_of (o := 1) hb9_5
          have f2 := frozen_of (o := 2) hb9_5
          go_simp
          obtain ⟨w6, hw6⟩ : ∃ W, W = ((w5.setCell ⟨B9, 0, none⟩ (.int .i64 ((dstMark b).sym : Int))).setCell ⟨B9, 1, none⟩ (.int .i64 ((dstMark b).further : Int))).setCell ⟨B9, 2, none⟩ (.int .i64 ((dstMark b).size : Int)) := ⟨_, rfl⟩
          rw [← hw6]
          obtain ⟨hb9_6, hG6⟩ := set3 (.int .i64 ((dstMark b).sym : Int)) (.int .i64 ((dstMark b).further : Int)) (.int .i64 ((dstMark b).size : Int)) hb9_5
          rw [← hw6] at hb9_6 hG6
          have HF6 := hide (fr_false_new HF5.out hG6 (fun i e => by omega))
          have hb8_6 := cells_at hb8_5 hG6 (by omega)
          clear hw6 c0 c1 c2 f0 f1 f2
          refine hK.out _ _ ⟨(cell_blk (a := ⟨K0, 1, none⟩) (hG6.block K0 (cell_lt hHeld.1) (by omega))).trans hHeld.1, (cell_blk (a := ⟨K0, 2, none⟩) (hG6.block K0 (cell_lt hHeld.2) (by omega))).trans hHeld.2⟩ (fun hHeld => ?_)
          clear hK K
          refine wpAnyH_done (by kernel_rfl) ?_ _
          go_wp2
          go_meet
          exact ⟨B8, B9, rfl, rfl, hb8_6, hb9_6, by omega, by omega, HFz.out.join HF6.out⟩
        · skip
          try simp only [List.getElem_toArray, List.getElem_cons_succ, List.getElem_cons_zero]
          go_simp
          obtain ⟨w3, hw3⟩ : ∃ W, W = w2.alloc (.cells #[.int .i64 0, .int .i64 0, .int .i64 0] 158) := ⟨_, rfl⟩
          obtain ⟨B9, hB9⟩ : ∃ B, B = w2.heap.size := ⟨_, rfl⟩
          rw [← hw3, ← hB9]
          have hF3 : Fr (fun _ => False) w2 w3 := by rw [hw3]; exact Fr.of_alloc _ _
          have hb9_3 : w3.heap[B9]? = some (.cells #[.int .i64 0, .int .i64 0, .int .i64 0] 158 (0, 0)) := by rw [hw3]; exact heap_alloc_at hB9
          have hle9 : wz.heap.size ≤ B9 := by rw [hB9]; exact HF2.out.size
          have hne : B8 ≠ B9 := by have := lt_of hb8_2; omega
          clear hw3 hB9
          have HF3 := hide (HF2.out.join hF3)
          have hb8_3 := cells_at hb8_2 hF3 (fun e => e)
          refine hK.out _ _ ⟨(cell_blk (a := ⟨K0, 1, none⟩) (hF3.block K0 (cell_lt hHeld.1) (fun e => e))).trans hHeld.1, (cell_blk (a := ⟨K0, 2, none⟩) (hF3.block K0 (cell_lt hHeld.2) (fun e => e))).trans hHeld.2⟩ (fun hHeld => ?_)
          clear hK K
          refine wpAnyH_ready (rs := [7]) (by kernel_rfl) (by simp) ?_
          refine (AllReadyH.cons rfl (fun K hK => ?_) AllReadyH.nil)
          try simp only [List.getElem_toArray, List.getElem_cons_succ, List.getElem_cons_zero]
          go_simp
          refine (calls_args (Hd1.out _ Hb1.out Hb2.out) (by rfl)).mono ?_
          rintro e w4 ⟨rfl, hF4⟩
          have HF4 := hide (HF3.out.join hF4)
          have hb8_4 := cells_at hb8_3 hF4 (fun e => e)
          have hb9_4 := cells_at hb9_3 hF4 (fun e => e)
          refine hK.out _ _ ⟨(cell_blk (a := ⟨K0, 1, none⟩) (hF4.block K0 (cell_lt hHeld.1) (fun e => e))).trans hHeld.1, (cell_blk (a := ⟨K0, 2, none⟩) (hF4.block K0 (cell_lt hHeld.2) (fun e => e))).trans hHeld.2⟩ (fun hHeld => ?_)
          clear hK K
          refine wpAnyH_ready (rs := [10]) (by kernel_rfl) (by simp) ?_
          refine (AllReadyH.cons rfl (fun K hK => ?_) AllReadyH.nil)
          try simp only [List.getElem_toArray, List.getElem_cons_succ, List.getElem_cons_zero]
          have c0 := cell_of (o := 0) hb8_4 rfl
          have c1 := cell_of (o := 1) hb8_4 rfl
          have c2 := cell_of (o := 2) hb8_4 rfl
          have f0 := frozen_of (o := 0) hb8_4
          have f1 := frozen_of (o := 1) hb8_4
          have f2 := frozen_of (o := 2) hb8_4
          go_simp
          obtain ⟨w5, hw5⟩ : ∃ W, W = ((w4.setCell ⟨B8, 0, none⟩ (.int .i64 ((lenMark l).sym : Int))).setCell ⟨B8, 1, none⟩ (.int .i64 ((lenMark l).further : Int))).setCell ⟨B8, 2, none⟩ (.int .i64 ((lenMark l).size : Int)) := ⟨_, rfl⟩
          rw [← hw5]
          obtain ⟨hb8_5, hG5⟩ := set3 (.int .i64 ((lenMark l).sym : Int)) (.int .i64 ((lenMark l).further : Int)) (.int .i64 ((lenMark l).size : Int)) hb8_4
          rw [← hw5] at hb8_5 hG5
          have HF5 := hide (fr_false_new HF4.out hG5 (fun i e => by omega))
          have hb9_5 := cells_at hb9_4 hG5 (by omega)
          clear hw5 c0 c1 c2 f0 f1 f2
          refine hK.out _ _ ⟨(cell_blk (a := ⟨K0, 1, none⟩) (hG5.block K0 (cell_lt hHeld.1) (by omega))).trans hHeld.1, (cell_blk (a := ⟨K0, 2, none⟩) (hG5.block K0 (cell_lt hHeld.2) (by omega))).trans hHeld.2⟩ (fun hHeld => ?_)
          clear hK K
          refine wpAnyH_ready (rs := [11]) (by kernel_rfl) (by simp) ?_
          refine (AllReadyH.cons rfl (fun K hK => ?_) AllReadyH.nil)
          try simp only [List.getElem_toArray, List.getElem_cons_succ, List.getElem_cons_zero]
          have c0 := cell_of (o := 0) hb9_5 rfl
          have c1 := cell_of (o := 1) hb9_5 rfl
          have c2 := cell_of (o := 2) hb9_5 rfl
          have f0 := frozen_of (o := 0) hb9_5
          have f1 := frozen_of (o := 1) hb9_5
          have f2 := frozen_of (o := 2) hb9_5
          go_simp
          obtain ⟨w6, hw6⟩ : ∃ W, W = ((w5.setCell ⟨B9, 0, none⟩ (.int .i64 ((dstMark b).sym : Int))).setCell ⟨B9, 1, none⟩ (.int .i64 ((dstMark b).further : Int))).setCell ⟨B9, 2, none⟩ (.int .i64 ((dstMark b).size : Int)) := ⟨_, rfl⟩
          rw [← hw6]
          obtain ⟨hb9_6, hG6⟩ := set3 (.int .i64 ((dstMark b).sym : Int)) (.int .i64 ((dstMark b).further : Int)) (.int .i64 ((dstMark b).size : Int)) hb9_5
          rw [← hw6] at hb9_6 hG6
          have HF6 := hide (fr_false_new HF5.out hG6 (fun i e => by omega))
          have hb8_6 := cells_at hb8_5 hG6 (by omega)
          clear hw6 c0 c1 c2 f0 f1 f2
          refine hK.out _ _ ⟨(cell_blk (a := ⟨K0, 1, none⟩) (hG6.block K0 (cell_lt hHeld.1) (by omega))).trans hHeld.1, (cell_blk (a := ⟨K0, 2, none⟩) (hG6.block K0 (cell_lt hHeld.2) (by omega))).trans hHeld.2⟩ (fun hHeld => ?_)
          clear hK K
          refine wpAnyH_done (by kernel_rfl) ?_ _
          go_wp2
          go_meet
          exact ⟨B8, B9, rfl, rfl, hb8_6, hb9_6, by omega, by omega, HFz.out.join HF6.out⟩
      · skip
        try simp only [List.getElem_toArray, List.getElem_cons_succ, List.getElem_cons_zero]
        go_simp
        obtain ⟨w2, hw2⟩ : ∃ W, W = w1.alloc (.cells #[.int .i64 0, .int .i64 0, .int .i64 0] 158) := ⟨_, rfl⟩
        obtain ⟨B9, hB9⟩ : ∃ B, B = w1.heap.size := ⟨_, rfl⟩
        rw [← hw2, ← hB9]
        have hF2 : Fr (fun _ => False) w1 w2 := by rw [hw2]; exact Fr.of_alloc _ _
        have hb9_2 : w2.heap[B9]? = some (.cells #[.int .i64 0, .int .i64 0, .int .i64 0] 158 (0, 0)) := by rw [hw2]; exact heap_alloc_at hB9
        have hle9 : wz.heap.size ≤ B9 := by rw [hB9]; exact HF1.out.size
        clear hw2 hB9
        have HF2 := hide (HF1.out.join hF2)
        refine hK.out _ _ ⟨(cell_blk (a := ⟨K0, 1, none⟩) (hF2.block K0 (cell_lt hHeld.1) (fun e => e))).trans hHeld.1, (cell_blk (a := ⟨K0, 2, none⟩) (hF2.block K0 (cell_lt hHeld.2) (fun e => e))).trans hHeld.2⟩ (fun hHeld => ?_)
        clear hK K
        refine wpAnyH_ready (rs := [7, 8]) (by kernel_rfl) (by simp) ?_
        refine (AllReadyH.cons rfl (fun K hK => ?_) (AllReadyH.cons rfl (fun K hK => ?_) AllReadyH.nil))
        · skip
          try simp only [List.getElem_toArray, List.getElem_cons_succ, List.getElem_cons_zero]
          go_simp
          refine (calls_args (Hd1.out _ Hb1.out Hb2.out) (by rfl)).mono ?_
          rintro e w3 ⟨rfl, hF3⟩
          have HF3 := hide (HF2.out.join hF3)
          have hb9_3 := cells_at hb9_2 hF3 (fun e => e)
          refine hK.out _ _ ⟨(cell_blk (a := ⟨K0, 1, none⟩) (hF3.block K0 (cell_lt hHeld.1) (fun e => e))).trans hHeld.1, (cell_blk (a := ⟨K0, 2, none⟩) (hF3.block K0 (cell_lt hHeld.2) (fun e => e))).trans hHeld.2⟩ (fun hHeld => ?_)
          clear hK K
          refine wpAnyH_ready (rs := [8]) (by kernel_rfl) (by simp) ?_
          refine (AllReadyH.cons rfl (fun K hK => ?_) AllReadyH.nil)
          try simp only [List.getElem_toArray, List.getElem_cons_succ, List.getElem_cons_zero]
          go_simp
          obtain ⟨w4, hw4⟩ : ∃ W, W = w3.alloc (.cells #[.int .i64 0, .int .i64 0, .int .i64 0] 158) := ⟨_, rfl⟩
          obtain ⟨B8, hB8⟩ : ∃ B, B = w3.heap.size := ⟨_, rfl⟩
          rw [← hw4, ← hB8]
          have hF4 : Fr (fun _ => False) w3 w4 := by rw [hw4]; exact Fr.of_alloc _ _
          have hb8_4 : w4.heap[B8]? = some (.cells #[.int .i64 0, .int .i64 0, .int .i64 0] 158 (0, 0)) := by rw [hw4]; exact heap_alloc_at hB8
          have hle8 : wz.heap.size ≤ B8 := by rw [hB8]; exact HF3.out.size
          have hne : B9 ≠ B8 := by have := lt_of hb9_3; omega
          clear hw4 hB8
          have HF4 := hide (HF3.out.join hF4)
          have hb9_4 := cells_at hb9_3 hF4 (fun e => e)
          refine hK.out _ _ ⟨(cell_blk (a := ⟨K0, 1, none⟩) (hF4.block K0 (cell_lt hHeld.1) (fun e => e))).trans hHeld.1, (cell_blk (a := ⟨K0, 2, none⟩) (hF4.block K0 (cell_lt hHeld.2) (fun e => e))).trans hHeld.2⟩ (fun hHeld => ?_)
          clear hK K
          refine wpAnyH_ready (rs := [10]) (by kernel_rfl) (by simp) ?_
          refine (AllReadyH.cons rfl (fun K hK => ?_) AllReadyH.nil)
          try simp only [List.getElem_toArray, List.getElem_cons_succ, List.getElem_cons_zero]
          have c0 := cell_of (o := 0) hb8_4 rfl
          have c1 := cell_of (o := 1) hb8_4 rfl
          have c2 := cell_of (o := 2) hb8_4 rfl
          have f0 := frozen_of (o := 0) hb8_4
          have f1 := frozen_of (o := 1) hb8_4
          have f2 := frozen_of (o := 2) hb8_4
          go_simp
          obtain ⟨w5, hw5⟩ : ∃ W, W = ((w4.setCell ⟨B8, 0, none⟩ (.int .i64 ((lenMark l).sym : Int))).setCell ⟨B8, 1, none⟩ (.int .i64 ((lenMark l).further : Int))).setCell ⟨B8, 2, none⟩ (.int .i64 ((lenMark l).size : Int)) := ⟨_, rfl⟩
          rw [← hw5]
          obtain ⟨hb8_5, hG5⟩ := set3 (.int .i64 ((lenMark l).sym : Int)) (.int .i64 ((lenMark l).further : Int)) (.int .i64 ((lenMark l).size : Int)) hb8_4
          rw [← hw5] at hb8_5 hG5
          have HF5 := hide (fr_false_new HF4.out hG5 (fun i e => by omega))
          have hb9_5 := cells_at hb9_4 hG5 (by omega)
          clear hw5 c0 c1 c2 f0 f1 f2
          refine hK.out _ _ ⟨(cell_blk (a := ⟨K0, 1, none⟩) (hG5.block K0 (cell_lt hHeld.1) (by omega))).trans hHeld.1, (cell_blk (a := ⟨K0, 2, none⟩) (hG5.block K0 (cell_lt hHeld.2) (by omega))).trans hHeld.2⟩ (fun hHeld => ?_)
          clear hK K
          refine wpAnyH_ready (rs := [11]) (by kernel_rfl) (by simp) ?_
          refine (AllReadyH.cons rfl (fun K hK => ?_) AllReadyH.nil)
          try simp only [List.getElem_toArray, List.getElem_cons_succ, List.getElem_cons_zero]
          have c0 := cell_of (o := 0) hb9_5 rfl
          have c1 := cell_of (o := 1) hb9_5 rfl
          have c2 := cell_of (o := 2) hb9_5 rfl
          have f0 := frozen_of (o := 0) hb9_5
          have f1 := frozen_of (o := 1) hb9_5
          have f2 := frozen_of (o := 2) hb9_5
          go_simp
          obtain ⟨w6, hw6⟩ : ∃ W, W = ((w5.setCell ⟨B9, 0, none⟩ (.int .i64 ((dstMark b).sym : Int))).setCell ⟨B9, 1, none⟩ (.int .i64 ((dstMark b).further : Int))).setCell ⟨B9, 2, none⟩ (.int .i64 ((dstMark b).size : Int)) := ⟨_, rfl⟩
          rw [← hw6]
          obtain ⟨hb9_6, hG6⟩ := set3 (.int .i64 ((dstMark b).sym : Int)) (.int .i64 ((dstMark b).further : Int)) (.int .i64 ((dstMark b).size : Int)) hb9_5
          rw [← hw6] at hb9_6 hG6
          have HF6 := hide (fr_false_new HF5.out hG6 (fun i e => by omega))
          have hb8_6 := cells_at hb8_5 hG6 (by omega)
          clear hw6 c0 c1 c2 f0 f1 f2
          refine hK.out _ _ ⟨(cell_blk (a := ⟨K0, 1, none⟩) (hG6.block K0 (cell_lt hHeld.1) (by omega))).trans hHeld.1, (cell_blk (a := ⟨K0, 2, none⟩) (hG6.block K0 (cell_lt hHeld.2) (by omega))).trans hHeld.2⟩ (fun hHeld => ?_)
          clear hK K
          refine wpAnyH_done (by kernel_rfl) ?_ _
          go_wp2
          go_meet
          exact ⟨B8, B9, rfl, rfl, hb8_6, hb9_6, by omega, by omega, HFz.out.join HF6.out⟩
        · skip
          try simp only [List.getElem_toArray, List.getElem_cons_succ, List.getElem_cons_zero]
          go_simp
          obtain ⟨w3, hw3⟩ : ∃ W, W = w2.alloc (.cells #[.int .i64 0, .int .i64 0, .int .i64 0] 158) := ⟨_, rfl⟩
          obtain ⟨B8, hB8⟩ : ∃ B, B = w2.heap.size := ⟨_, rfl⟩
          rw [← hw3, ← hB8]
          have hF3 : Fr (fun _ => False) w2 w3 := by rw [hw3]; exact Fr.of_alloc _ _
          have hb8_3 : w3.heap[B8]? = some (.cells #[.int .i64 0, .int .i64 0, .int .i64 0] 158 (0, 0)) := by rw [hw3]; exact heap_alloc_at hB8
          have hle8 : wz.heap.size ≤ B8 := by rw [hB8]; exact HF2.out.size
          have hne : B9 ≠ B8 := by have := lt_of hb9_2; omega
          clear hw3 hB8
          have HF3 := hide (HF2.out.join hF3)
          have hb9_3 := cells_at hb9_2 hF3 (fun e => e)
          refine hK.out _ _ ⟨(cell_blk (a := ⟨K0, 1, none⟩) (hF3.block K0 (cell_lt hHeld.1) (fun e => e))).trans hHeld.1, (cell_blk (a := ⟨K0, 2, none⟩) (hF3.block K0 (cell_lt hHeld.2) (fun e => e))).trans hHeld.2⟩ (fun hHeld => ?_)
          clear hK K
          refine wpAnyH_ready (rs := [7]) (by kernel_rfl) (by simp) ?_
          refine (AllReadyH.cons rfl (fun K hK => ?_) AllReadyH.nil)
          try simp only [List.getElem_toArray, List.getElem_cons_succ, List.getElem_cons_zero]
          go_simp
          refine (calls_args (Hd1.out _ Hb1.out Hb2.out) (by rfl)).mono ?_
          rintro e w4 ⟨rfl, hF4⟩
          have HF4 := hide (HF3.out.join hF4)
          have hb9_4 := cells_at hb9_3 hF4 (fun e => e)
          have hb8_4 := cells_at hb8_3 hF4 (fun e => e)
          refine hK.out _ _ ⟨(cell_blk (a := ⟨K0, 1, none⟩) (hF4.block K0 (cell_lt hHeld.1) (fun e => e))).trans hHeld.1, (cell_blk (a := ⟨K0, 2, none⟩) (hF4.block K0 (cell_lt hHeld.2) (fun e => e))).trans hHeld.2⟩ (fun hHeld => ?_)
          clear hK K
          refine wpAnyH_ready (rs := [10]) (by kernel_rfl) (by simp) ?_
          refine (AllReadyH.cons rfl (fun K hK => ?_) AllReadyH.nil)
          try simp only [List.getElem_toArray, List.getElem_cons_succ, List.getElem_cons_zero]
          have c0 := cell_of (o := 0) hb8_4 rfl
          have c1 := cell_of (o := 1) hb8_4 rfl
          have c2 := cell_of (o := 2) hb8_4 rfl
          have f0 := frozen_of (o := 0) hb8_4
          have f1 := frozen_of (o := 1) hb8_4
          have f2 := frozen_of (o := 2) hb8_4
          go_simp
          obtain ⟨w5, hw5⟩ : ∃ W, W = ((w4.setCell ⟨B8, 0, none⟩ (.int .i64 ((lenMark l).sym : Int))).setCell ⟨B8, 1, none⟩ (.int .i64 ((lenMark l).further : Int))).setCell ⟨B8, 2, none⟩ (.int .i64 ((lenMark l).size : Int)) := ⟨_, rfl⟩
          rw [← hw5]
          obtain ⟨hb8_5, hG5⟩ := set3 (.int .i64 ((lenMark l).sym : Int)) (.int .i64 ((lenMark l).further : Int)) (.int .i64 ((lenMark l).size : Int)) hb8_4
          rw [← hw5] at hb8_5 hG5
          have HF5 := hide (fr_false_new HF4.out hG5 (fun i e => by omega))
          have hb9_5 := cells_at hb9_4 hG5 (by omega)
          clear hw5 c0 c1 c2 f0 f1 f2
          refine hK.out _ _ ⟨(cell_blk (a := ⟨K0, 1, none⟩) (hG5.block K0 (cell_lt hHeld.1) (by omega))).trans hHeld.1, (cell_blk (a := ⟨K0, 2, none⟩) (hG5.block K0 (cell_lt hHeld.2) (by omega))).trans hHeld.2⟩ (fun hHeld => ?_)
          clear hK K
          refine wpAnyH_ready (rs := [11]) (by kernel_rfl) (by simp) ?_
          refine (AllReadyH.cons rfl (fun K hK => ?_) AllReadyH.nil)
          try simp only [List.getElem_toArray, List.getElem_cons_succ, List.getElem_cons_zero]
          have c0 := cell_of (o := 0) hb9_5 rfl
          have c1 := cell_of (o := 1) hb9_5 rfl
          have c2 := cell_of (o := 2) hb9_5 rfl
          have f0 := frozen_of (o := 0) hb9_5
          have f1 := frozen_of (o := 1) hb9_5
          have f2 := frozen_of (o := 2) hb9_5
          go_simp
          obtain ⟨w6, hw6⟩ : ∃ W, W = ((w5.setCell ⟨B9, 0, none⟩ (.int .i64 ((dstMark b).sym : Int))).setCell ⟨B9, 1, none⟩ (.int .i64 ((dstMark b).further : Int))).setCell ⟨B9, 2, none⟩ (.int .i64 ((dstMark b).size : Int)) := ⟨_, rfl⟩
          rw [← hw6]
          obtain ⟨hb9_6, hG6⟩ := set3 (.int .i64 ((dstMark b).sym : Int)) (.int .i64 ((dstMark b).further : Int)) (.int .i64 ((dstMark b).size : Int)) hb9_5
          rw [← hw6] at hb9_6 hG6
          have HF6 := hide (fr_false_new HF5.out hG6 (fun i e => by omega))
          have hb8_6 := cells_at hb8_5 hG6 (by omega)
          clear hw6 c0 c1 c2 f0 f1 f2
          refine hK.out _ _ ⟨(cell_blk (a := ⟨K0, 1, none⟩) (hG6.block K0 (cell_lt hHeld.1) (by omega))).trans hHeld.1, (cell_blk (a := ⟨K0, 2, none⟩) (hG6.block K0 (cell_lt hHeld.2) (by omega))).trans hHeld.2⟩ (fun hHeld => ?_)
          clear hK K
          refine wpAnyH_done (by kernel_rfl) ?_ _
          go_wp2
          go_meet
          exact ⟨B8, B9, rfl, rfl, hb8_6, hb9_6, by omega, by omega, HFz.out.join HF6.out⟩
    · skip
      try simp only [List.getElem_toArray, List.getElem_cons_succ, List.getElem_cons_zero]
      go_simp
      obtain ⟨w1, hw1⟩ : ∃ W, W = wz.alloc (.cells #[.int .i64 0, .int .i64 0, .int .i64 0] 158) := ⟨_, rfl⟩
      obtain ⟨B8, hB8⟩ : ∃ B, B = wz.heap.size := ⟨_, rfl⟩
      rw [← hw1, ← hB8]
      have hF1 : Fr (fun _ => False) wz w1 := by rw [hw1]; exact Fr.of_alloc _ _
      have hb8_1 : w1.heap[B8]? = some (.cells #[.int .i64 0, .int .i64 0, .int .i64 0] 158 (0, 0)) := by rw [hw1]; exact heap_alloc_at hB8
      have hle8 : wz.heap.size ≤ B8 := by rw [hB8]; exact HF0.out.size
      clear hw1 hB8
      have HF1 := hide (HF0.out.join hF1)
      refine hK.out _ _ ⟨(cell_blk (a := ⟨K0, 1, none⟩) (hF1.block K0 (cell_lt hHeld.1) (fun e => e))).trans hHeld.1, (cell_blk (a := ⟨K0, 2, none⟩) (hF1.block K0 (cell_lt hHeld.2) (fun e => e))).trans hHeld.2⟩ (fun hHeld => ?_)
      clear hK K
      refine wpAnyH_ready (rs := [3, 9]) (by kernel_rfl) (by simp) ?_
      refine (AllReadyH.cons rfl (fun K hK => ?_) (AllReadyH.cons rfl (fun K hK => ?_) AllReadyH.nil))
      · skip
        try simp only [List.getElem_toArray, List.getElem_cons_succ, List.getElem_cons_zero]
        go_simp
        refine (calls_args (Hl1.out _ H3.out H258.out) (by rfl)).mono ?_
        rintro e w2 ⟨rfl, hF2⟩
        have HF2 := hide (HF1.out.join hF2)
        have hb8_2 := cells_at hb8_1 hF2 (fun e => e)
        refine hK.out _ _ ⟨(cell_blk (a := ⟨K0, 1, none⟩) (hF2.block K0 (cell_lt hHeld.1) (fun e => e))).trans hHeld.1, (cell_blk (a := ⟨K0, 2, none⟩) (hF2.block K0 (cell_lt hHeld.2) (fun e => e))).trans hHeld.2⟩ (fun hHeld => ?_)
        clear hK K
        refine wpAnyH_ready (rs := [7, 9]) (by kernel_rfl) (by simp) ?_
        refine (AllReadyH.cons rfl (fun K hK => ?_) (AllReadyH.cons rfl (fun K hK => ?_) AllReadyH.nil))
        · skip
          try simp only [List.getElem_toArray, List.getElem_cons_succ, List.getElem_cons_zero]
          go_simp
          refine (calls_args (Hd1.out _ Hb1.out Hb2.out) (by rfl)).mono ?_
          rintro e w3 ⟨rfl, hF3⟩
          have HF3 := hide (HF2.out.join hF3)
          have hb8_3 := cells_at hb8_2 hF3 (fun e => e)
          refine hK.out _ _ ⟨(cell_blk (a := ⟨K0, 1, none⟩) (hF3.block K0 (cell_lt hHeld.1) (fun e => e))).trans hHeld.1, (cell_blk (a := ⟨K0, 2, none⟩) (hF3.block K0 (cell_lt hHeld.2) (fun e => e))).trans hHeld.2⟩ (fun hHeld => ?_)
          clear hK K
          refine wpAnyH_ready (rs := [9]) (by kernel_rfl) (by simp) ?_
          refine (AllReadyH.cons rfl (fun K hK => ?_) AllReadyH.nil)
          try simp only [List.getElem_toArray, List.getElem_cons_succ, List.getElem_cons_zero]
          go_simp
          obtain ⟨w4, hw4⟩ : ∃ W, W = w3.alloc (.cells #[.int .i64 0, .int .i64 0, .int .i64 0] 158) := ⟨_, rfl⟩
          obtain ⟨B9, hB9⟩ : ∃ B, B = w3.heap.size := ⟨_, rfl⟩
          rw [← hw4, ← hB9]
          have hF4 : Fr (fun _ => False) w3 w4 := by rw [hw4]; exact Fr.of_alloc _ _
          have hb9_4 : w4.heap[B9]? = some (.cells #[.int .i64 0, .int .i64 0, .int .i64 0] 158 (0, 0)) := by rw [hw4]; exact heap_alloc_at hB9
          have hle9 : wz.heap.size ≤ B9 := by rw [hB9]; exact HF3.out.size
          have hne : B8 ≠ B9 := by have := lt_of hb8_3; omega
          clear hw4 hB9
          have HF4 := hide (HF3.out.join hF4)
          have hb8_4 := cells_at hb8_3 hF4 (fun e => e)
          refine hK.out _ _ ⟨(cell_blk (a := ⟨K0, 1, none⟩) (hF4.block K0 (cell_lt hHeld.1) (fun e => e))).trans hHeld.1, (cell_blk (a := ⟨K0, 2, none⟩) (hF4.block K0 (cell_lt hHeld.2) (fun e => e))).trans hHeld.2⟩ (fun hHeld => ?_)
          clear hK K
          refine wpAnyH_ready (rs := [10]) (by kernel_rfl) (by simp) ?_
          refine (AllReadyH.cons rfl (fun K hK => ?_) AllReadyH.nil)
          try simp only [List.getElem_toArray, List.getElem_cons_succ, List.getElem_cons_zero]
          have c0 := cell_of (o := 0) hb8_4 rfl
          have c1 := cell_of (o := 1) hb8_4 rfl
          have c2 := cell_of (o := 2) hb8_4 rfl
          have f0 := frozen_of (o := 0) hb8_4
          have f1 := frozen_of (o := 1) hb8_4
          have f2 := frozen_of (o := 2) hb8_4
          go_simp
          obtain ⟨w5, hw5⟩ : ∃ W, W = ((w4.setCell ⟨B8, 0, none⟩ (.int .i64 ((lenMark l).sym : Int))).setCell ⟨B8, 1, none⟩ (.int .i64 ((lenMark l).further : Int))).setCell ⟨B8, 2, none⟩ (.int .i64 ((lenMark l).size : Int)) := ⟨_, rfl⟩
          rw [← hw5]
          obtain ⟨hb8_5, hG5⟩ := set3 (.int .i64 ((lenMark l).sym : Int)) (.int .i64 ((lenMark l).further : Int)) (.int .i64 ((lenMark l).size : Int)) hb8_4
          rw [← hw5] at hb8_5 hG5
          have HF5 := hide (fr_false_new HF4.out hG5 (fun i e => by omega))
          have hb9_5 := cells_at hb9_4 hG5 (by omega)
          clear hw5 c0 c1 c2 f0 f1 f2
          refine hK.out _ _ ⟨(cell_blk (a := ⟨K0, 1, none⟩) (hG5.block K0 (cell_lt hHeld.1) (by omega))).trans hHeld.1, (cell_blk (a := ⟨K0, 2, none⟩) (hG5.block K0 (cell_lt hHeld.2) (by omega))).trans hHeld.2⟩ (fun hHeld => ?_)
          clear hK K
          refine wpAnyH_ready (rs := [11]) (by kernel_rfl) (by simp) ?_
          refine (AllReadyH.cons rfl (fun K hK => ?_) AllReadyH.nil)
          try simp only [List.getElem_toArray, List.getElem_cons_succ, List.getElem_cons_zero]
          have c0 := cell_of (o := 0) hb9_5 rfl
          have c1 := cell_of (o := 1) hb9_5 rfl
          have c2 := cell_of (o := 2) hb9_5 rfl
          have f0 := frozen_of (o := 0) hb9_5
          have f1 := frozen_of (o := 1) hb9_5
          have f2 := frozen_of (o := 2) hb9_5
          go_simp
          obtain ⟨w6, hw6⟩ : ∃ W, W = ((w5.setCell ⟨B9, 0, none⟩ (.int .i64 ((dstMark b).sym : Int))).setCell ⟨B9, 1, none⟩ (.int .i64 ((dstMark b).further : Int))).setCell ⟨B9, 2, none⟩ (.int .i64 ((dstMark b).size : Int)) := ⟨_, rfl⟩
          rw [← hw6]
          obtain ⟨hb9_6, hG6⟩ := set3 (.int .i64 ((dstMark b).sym : Int)) (.int .i64 ((dstMark b).further : Int)) (.int .i64 ((dstMark b).size : Int)) hb9_5
          rw [← hw6] at hb9_6 hG6
          have HF6 := hide (fr_false_new HF5.out hG6 (fun i e => by omega))
          have hb8_6 := cells_at hb8_5 hG6 (by omega)
          clear hw6 c0 c1 c2 f0 f1 f2
          refine hK.out _ _ ⟨(cell_blk (a := ⟨K0, 1, none⟩) (hG6.block K0 (cell_lt hHeld.1) (by omega))).trans hHeld.1, (cell_blk (a := ⟨K0, 2, none⟩) (hG6.block K0 (cell_lt hHeld.2) (by omega))).trans hHeld.2⟩ (fun hHeld => ?_)
          clear hK K
          refine wpAnyH_done (by kernel_rfl) ?_ _
          go_wp2
          go_meet
          exact ⟨B8, B9, rfl, rfl, hb8_6, hb9_6, by omega, by omega, HFz.out.join HF6.out⟩
        · skip
          try simp only [List.getElem_toArray, List.getElem_cons_succ, List.getElem_cons_zero]
          go_simp
          obtain ⟨w3, hw3⟩ : ∃ W, W = w2.alloc (.cells #[.int .i64 0, .int .i64 0, .int .i64 0] 158) := ⟨_, rfl⟩
          obtain ⟨B9, hB9⟩ : ∃ B, B = w2.heap.size := ⟨_, rfl⟩
          rw [← hw3, ← hB9]
          have hF3 : Fr (fun _ => False) w2 w3 := by rw [hw3]; exact Fr.of_alloc _ _
          have hb9_3 : w3.heap[B9]? = some (.cells #[.int .i64 0, .int .i64 0, .int .i64 0] 158 (0, 0)) := by rw [hw3]; exact heap_alloc_at hB9
          have hle9 : wz.heap.size ≤ B9 := by rw [hB9]; exact HF2.out.size
          have hne : B8 ≠ B9 := by have := lt_of hb8_2; omega
          clear hw3 hB9
          have HF3 := hide (HF2.out.join hF3)
          have hb8_3 := cells_at hb8_2 hF3 (fun e => e)
          refine hK.out _ _ ⟨(cell_blk (a := ⟨K0, 1, none⟩) (hF3.block K0 (cell_lt hHeld.1) (fun e => e))).trans hHeld.1, (cell_blk (a := ⟨K0, 2, none⟩) (hF3.block K0 (cell_lt hHeld.2) (fun e => e))).trans hHeld.2⟩ (fun hHeld => ?_)
          clear hK K
          refine wpAnyH_ready (rs := [7]) (by kernel_rfl) (by simp) ?_
          refine (AllReadyH.cons rfl (fun K hK => ?_) AllReadyH.nil)
          try simp only [List.getElem_toArray, List.getElem_cons_succ, List.getElem_cons_zero]
          go_simp
          refine (calls_args (Hd1.out _ Hb1.out Hb2.out) (by rfl)).mono ?_
          rintro e w4 ⟨rfl, hF4⟩
          have HF4 := hide (HF3.out.join hF4)
          have hb8_4 := cells_at hb8_3 hF4 (fun e => e)
          have hb9_4 := cells_at hb9_3 hF4 (fun e => e)
          refine hK.out _ _ ⟨(cell_blk (a := ⟨K0, 1, none⟩) (hF4.block K0 (cell_lt hHeld.1) (fun e => e))).trans hHeld.1, (cell_blk (a := ⟨K0, 2, none⟩) (hF4.block K0 (cell_lt hHeld.2) (fun e => e))).trans hHeld.2⟩ (fun hHeld => ?_)
          clear hK K
          refine wpAnyH_ready (rs := [10]) (by kernel_rfl) (by simp) ?_
          refine (AllReadyH.cons rfl (fun K hK => ?_) AllReadyH.nil)
          try simp only [List.getElem_toArray, List.getElem_cons_succ, List.getElem_cons_zero]
          have c0 := cell_of (o := 0) hb8_4 rfl
          have c1 := cell_of (o := 1) hb8_4 rfl
          have c2 := cell_of (o := 2) hb8_4 rfl
          have f0 := frozen_of (o := 0) hb8_4
          have f1 := frozen_of (o := 1) hb8_4
          have f2 := frozen_of (o := 2) hb8_4
          go_simp
          obtain ⟨w5, hw5⟩ : ∃ W, W = ((w4.setCell ⟨B8, 0, none⟩ (.int .i64 ((lenMark l).sym : Int))).setCell ⟨B8, 1, none⟩ (.int .i64 ((lenMark l).further : Int))).setCell ⟨B8, 2, none⟩ (.int .i64 ((lenMark l).size : Int)) := ⟨_, rfl⟩
          rw [← hw5]
          obtain ⟨hb8_5, hG5⟩ := set3 (.int .i64 ((lenMark l).sym : Int)) (.int .i64 ((lenMark l).further : Int)) (.int .i64 ((lenMark l).size : Int)) hb8_4
          rw [← hw5] at hb8_5 hG5
          have HF5 := hide (fr_false_new HF4.out hG5 (fun i e => by omega))
          have hb9_5 := cells_at hb9_4 hG5 (by omega)
          clear hw5 c0 c1 c2 f0 f1 f2
          refine hK.out _ _ ⟨(cell_blk (a := ⟨K0, 1, none⟩) (hG5.block K0 (cell_lt hHeld.1) (by omega))).trans hHeld.1, (cell_blk (a := ⟨K0, 2, none⟩) (hG5.block K0 (cell_lt hHeld.2) (by omega))).trans hHeld.2⟩ (fun hHeld => ?_)
          clear hK K
          refine wpAnyH_ready (rs := [11]) (by kernel_rfl) (by simp) ?_
          refine (AllReadyH.cons rfl (fun K hK => ?_) AllReadyH.nil)
          try simp only [List.getElem_toArray, List.getElem_cons_succ, List.getElem_cons_zero]
          have c0 := cell_of (o := 0) hb9_5 rfl
          have c1 := cell_of (o := 1) hb9_5 rfl
          have c2 := cell_of (o := 2) hb9_5 rfl
          have f0 := frozen_of (o := 0) hb9_5
          have f1 := frozen_of (o := 1) hb9_5
          have f2 := frozen_of (o := 2) hb9_5
          go_simp
          obtain ⟨w6, hw6⟩ : ∃ W, W = ((w5.setCell ⟨B9, 0, none⟩ (.int .i64 ((dstMark b).sym : Int))).setCell ⟨B9, 1, none⟩ (.int .i64 ((dstMark b).further : Int))).setCell ⟨B9, 2, none⟩ (.int .i64 ((dstMark b).size : Int)) := ⟨_, rfl⟩
          rw [← hw6]
          obtain ⟨hb9_6, hG6⟩ := set3 (.int .i64 ((dstMark b).sym : Int)) (.int .i64 ((dstMark b).further : Int)) (.int .i64 ((dstMark b).size : Int)) hb9_5
          rw [← hw6] at hb9_6 hG6
          have HF6 := hide (fr_false_new HF5.out hG6 (fun i e => by omega))
          have hb8_6 := cells_at hb8_5 hG6 (by omega)
          clear hw6 c0 c1 c2 f0 f1 f2
          refine hK.out _ _ ⟨(cell_blk (a := ⟨K0, 1, none⟩) (hG6.block K0 (cell_lt hHeld.1) (by omega))).trans hHeld.1, (cell_blk (a := ⟨K0, 2, none⟩) (hG6.block K0 (cell_lt hHeld.2) (by omega))).trans hHeld.2⟩ (fun hHeld => ?_)
          clear hK K
          refine wpAnyH_done (by kernel_rfl) ?_ _
          go_wp2
          go_meet
          exact ⟨B8, B9, rfl, rfl, hb8_6, hb9_6, by omega, by omega, HFz.out.join HF6.out⟩
      · skip
        try simp only [List.getElem_toArray, List.getElem_cons_succ, List.getElem_cons_zero]
        go_simp
        obtain ⟨w2, hw2⟩ : ∃ W, W = w1.alloc (.cells #[.int .i64 0, .int .i64 0, .int .i64 0] 158) := ⟨_, rfl⟩
        obtain ⟨B9, hB9⟩ : ∃ B, B = w1.heap.size := ⟨_, rfl⟩
        rw [← hw2, ← hB9]
        have hF2 : Fr (fun _ => False) w1 w2 := by rw [hw2]; exact Fr.of_alloc _ _
        have hb9_2 : w2.heap[B9]? = some (.cells #[.int .i64 0, .int .i64 0, .int .i64 0] 158 (0, 0)) := by rw [hw2]; exact heap_alloc_at hB9
        have hle9 : wz.heap.size ≤ B9 := by rw [hB9]; exact HF1.out.size
        have hne : B8 ≠ B9 := by have := lt_of hb8_1; omega
        clear hw2 hB9
        have HF2 := hide (HF1.out.join hF2)
        have hb8_2 := cells_at hb8_1 hF2 (fun e => e)
        refine hK.out _ _ ⟨(cell_blk (a := ⟨K0, 1, none⟩) (hF2.block K0 (cell_lt hHeld.1) (fun e => e))).trans hHeld.1, (cell_blk (a := ⟨K0, 2, none⟩) (hF2.block K0 (cell_lt hHeld.2) (fun e => e))).trans hHeld.2⟩ (fun hHeld => ?_)
        clear hK K
        refine wpAnyH_ready (rs := [3]) (by kernel_rfl) (by simp) ?_
        refine (AllReadyH.cons rfl (fun K hK => ?_) AllReadyH.nil)
        try simp only [List.getElem_toArray, List.getElem_cons_succ, List.getElem_cons_zero]
        go_simp
        refine (calls_args (Hl1.out _ H3.out H258.out) (by rfl)).mono ?_
        rintro e w3 ⟨rfl, hF3⟩
        have HF3 := hide (HF2.out.join hF3)
        have hb8_3 := cells_at hb8_2 hF3 (fun e => e)
        have hb9_3 := cells_at hb9_2 hF3 (fun e => e)
        refine hK.out _ _ ⟨(cell_blk (a := ⟨K0, 1, none⟩) (hF3.block K0 (cell_lt hHeld.1) (fun e => e))).trans hHeld.1, (cell_blk (a := ⟨K0, 2, none⟩) (hF3.block K0 (cell_lt hHeld.2) (fun e => e))).trans hHeld.2⟩ (fun hHeld => ?_)
        clear hK K
        refine wpAnyH_ready (rs := [7]) (by kernel_rfl) (by simp) ?_
        refine (AllReadyH.cons rfl (fun K hK => ?_) AllReadyH.nil)
        try simp only [List.getElem_toArray, List.getElem_cons_succ, List.getElem_cons_zero]
        go_simp
        refine (calls_args (Hd1.out _ Hb1.out Hb2.out) (by rfl)).mono ?_
        rintro e w4 ⟨rfl, hF4⟩
        have HF4 := hide (HF3.out.join hF4)
        have hb8_4 := cells_at hb8_3 hF4 (fun e => e)
        have hb9_4 := cells_at hb9_3 hF4 (fun e => e)
        refine hK.out _ _ ⟨(cell_blk (a := ⟨K0, 1, none⟩) (hF4.block K0 (cell_lt hHeld.1) (fun e => e))).trans hHeld.1, (cell_blk (a := ⟨K0, 2, none⟩) (hF4.block K0 (cell_lt hHeld.2) (fun e => e))).trans hHeld.2⟩ (fun hHeld => ?_)
        clear hK K
        refine wpAnyH_ready (rs := [10]) (by kernel_rfl) (by simp) ?_
        refine (AllReadyH.cons rfl (fun K hK => ?_) AllReadyH.nil)
        try simp only [List.getElem_toArray, List.getElem_cons_succ, List.getElem_cons_zero]
        have c0 := cell_of (o := 0) hb8_4 rfl
        have c1 := cell_of (o := 1) hb8_4 rfl
        have c2 := cell_of (o := 2) hb8_4 rfl
        have f0 := frozen_of (o := 0) hb8_4
        have f1 := frozen_of (o := 1) hb8_4
        have f2 := frozen_of (o := 2) hb8_4
        go_simp
        obtain ⟨w5, hw5⟩ : ∃ W, W = ((w4.setCell ⟨B8, 0, none⟩ (.int .i64 ((lenMark l).sym : Int))).setCell ⟨B8, 1, none⟩ (.int .i64 ((lenMark l).further : Int))).setCell ⟨B8, 2, none⟩ (.int .i64 ((lenMark l).size : Int)) := ⟨_, rfl⟩
        rw [← hw5]
        obtain ⟨hb8_5, hG5⟩ := set3 (.int .i64 ((lenMark l).sym : Int)) (.int .i64 ((lenMark l).further : Int)) (.int .i64 ((lenMark l).size : Int)) hb8_4
        rw [← hw5] at hb8_5 hG5
        have HF5 := hide (fr_false_new HF4.out hG5 (fun i e => by omega))
        have hb9_5 := cells_at hb9_4 hG5 (by omega)
        clear hw5 c0 c1 c2 f0 f1 f2
        refine hK.out _ _ ⟨(cell_blk (a := ⟨K0, 1, none⟩) (hG5.block K0 (cell_lt hHeld.1) (by omega))).trans hHeld.1, (cell_blk (a := ⟨K0, 2, none⟩) (hG5.block K0 (cell_lt hHeld.2) (by omega))).trans hHeld.2⟩ (fun hHeld => ?_)
        clear hK K
        refine wpAnyH_ready (rs := [11]) (by kernel_rfl) (by simp) ?_
        refine (AllReadyH.cons rfl (fun K hK => ?_) AllReadyH.nil)
        try simp only [List.getElem_toArray, List.getElem_cons_succ, List.getElem_cons_zero]
        have c0 := cell_of (o := 0) hb9_5 rfl
        have c1 := cell_of (o := 1) hb9_5 rfl
        have c2 := cell_of (o := 2) hb9_5 rfl
        have f0 := frozen_of (o := 0) hb9_5
        have f1 := frozen_of (o := 1) hb9_5
        have f2 := frozen_of (o := 2) hb9_5
        go_simp
        obtain ⟨w6, hw6⟩ : ∃ W, W = ((w5.setCell ⟨B9, 0, none⟩ (.int .i64 ((dstMark b).sym : Int))).setCell ⟨B9, 1, none⟩ (.int .i64 ((dstMark b).further : Int))).setCell ⟨B9, 2, none⟩ (.int .i64 ((dstMark b).size : Int)) := ⟨_, rfl⟩
        rw [← hw6]
        obtain ⟨hb9_6, hG6⟩ := set3 (.int .i64 ((dstMark b).sym : Int)) (.int .i64 ((dstMark b).further : Int)) (.int .i64 ((dstMark b).size : Int)) hb9_5
        rw [← hw6] at hb9_6 hG6
        have HF6 := hide (fr_false_new HF5.out hG6 (fun i e => by omega))
        have hb8_6 := cells_at hb8_5 hG6 (by omega)
        clear hw6 c0 c1 c2 f0 f1 f2
        refine hK.out _ _ ⟨(cell_blk (a := ⟨K0, 1, none⟩) (hG6.block K0 (cell_lt hHeld.1) (by omega))).trans hHeld.1, (cell_blk (a := ⟨K0, 2, none⟩) (hG6.block K0 (cell_lt hHeld.2) (by omega))).trans hHeld.2⟩ (fun hHeld => ?_)
        clear hK K
        refine wpAnyH_done (by kernel_rfl) ?_ _
        go_wp2
        go_meet
        exact ⟨B8, B9, rfl, rfl, hb8_6, hb9_6, by omega, by omega, HFz.out.join HF6.out⟩
    · skip
      try simp only [List.getElem_toArray, List.getElem_cons_succ, List.getElem_cons_zero]
      go_simp
      obtain ⟨w1, hw1⟩ : ∃ W, W = wz.alloc (.cells #[.int .i64 0, .int .i64 0, .int .i64 0] 158) := ⟨_, rfl⟩
      obtain ⟨B9, hB9⟩ : ∃ B, B = wz.heap.size := ⟨_, rfl⟩
      rw [← hw1, ← hB9]
      have hF1 : Fr (fun _ => False) wz w1 := by rw [hw1]; exact Fr.of_alloc _ _
      have hb9_1 : w1.heap[B9]? = some (.cells #[.int .i64 0, .int .i64 0, .int .i64 0] 158 (0, 0)) := by rw [hw1]; exact heap_alloc_at hB9
      have hle9 : wz.heap.size ≤ B9 := by rw [hB9]; exact HF0.out.size
      clear hw1 hB9
      have HF1 := hide (HF0.out.join hF1)
      refine hK.out _ _ ⟨(cell_blk (a := ⟨K0, 1, none⟩) (hF1.block K0 (cell_lt hHeld.1) (fun e => e))).trans hHeld.1, (cell_blk (a := ⟨K0, 2, none⟩) (hF1.block K0 (cell_lt hHeld.2) (fun e => e))).trans hHeld.2⟩ (fun hHeld => ?_)
      clear hK K
      refine wpAnyH_ready (rs := [3, 8]) (by kernel_rfl) (by simp) ?_
      refine (AllReadyH.cons rfl (fun K hK => ?_) (AllReadyH.cons rfl (fun K hK => ?_) AllReadyH.nil))
      · skip
        try simp only [List.getElem_toArray, List.getElem_cons_succ, List.getElem_cons_zero]
        go_simp
        refine (calls_args (Hl1.out _ H3.out H258.out) (by rfl)).mono ?_
        rintro e w2 ⟨rfl, hF2⟩
        have HF2 := hide (HF1.out.join hF2)
        have hb9_2 := cells_at hb9_1 hF2 (fun e => e)
        refine hK.out _ _ ⟨(cell_blk (a := ⟨K0, 1, none⟩) (hF2.block K0 (cell_lt hHeld.1) (fun e => e))).trans hHeld.1, (cell_blk (a := ⟨K0, 2, none⟩) (hF2.block K0 (cell_lt hHeld.2) (fun e => e))).trans hHeld.2⟩ (fun hHeld => ?_)
        clear hK K
        refine wpAnyH_ready (rs := [7, 8]) (by kernel_rfl) (by simp) ?_
        refine (AllReadyH.cons rfl (fun K hK => ?_) (AllReadyH.cons rfl (fun K hK => ?_) AllReadyH.nil))
        · skip
          try simp only [List.getElem_toArray, List.getElem_cons_succ, List.getElem_cons_zero]
          go_simp
          refine (calls_args (Hd1.out _ Hb1.out Hb2.out) (by rfl)).mono ?_
          rintro e w3 ⟨rfl, hF3⟩
          have HF3 := hide (HF2.out.join hF3)
          have hb9_3 := cells_at hb9_2 hF3 (fun e => e)
          refine hK.out _ _ ⟨(cell_blk (a := ⟨K0, 1, none⟩) (hF3.block K0 (cell_lt hHeld.1) (fun e => e))).trans hHeld.1, (cell_blk (a := ⟨K0, 2, none⟩) (hF3.block K0 (cell_lt hHeld.2) (fun e => e))).trans hHeld.2⟩ (fun hHeld => ?_)
          clear hK K
          refine wpAnyH_ready (rs := [8]) (by kernel_rfl) (by simp) ?_
          refine (AllReadyH.cons rfl (fun K hK => ?_) AllReadyH.nil)
          try simp only [List.getElem_toArray, List.getElem_cons_succ, List.getElem_cons_zero]
          go_simp
          obtain ⟨w4, hw4⟩ : ∃ W, W = w3.alloc (.cells #[.int .i64 0, .int .i64 0, .int .i64 0] 158) := ⟨_, rfl⟩
          obtain ⟨B8, hB8⟩ : ∃ B, B = w3.heap.size := ⟨_, rfl⟩
          rw [← hw4, ← hB8]
          have hF4 : Fr (fun _ => False) w3 w4 := by rw [hw4]; exact Fr.of_alloc _ _
          have hb8_4 : w4.heap[B8]? = some (.cells #[.int .i64 0, .int .i64 0, .int .i64 0] 158 (0, 0)) := by rw [hw4]; exact heap_alloc_at hB8
          have hle8 : wz.heap.size ≤ B8 := by rw [hB8]; exact HF3.out.size
          have hne : B9 ≠ B8 := by have := lt_of hb9_3; omega
          clear hw4 hB8
          have HF4 := hide (HF3.out.join hF4)
          have hb9_4 := cells_at hb9_3 hF4 (fun e => e)
          refine hK.out _ _ ⟨(cell_blk (a := ⟨K0, 1, none⟩) (hF4.block K0 (cell_lt hHeld.1) (fun e => e))).trans hHeld.1, (cell_blk (a := ⟨K0, 2, none⟩) (hF4.block K0 (cell_lt hHeld.2) (fun e => e))).trans hHeld.2⟩ (fun hHeld => ?_)
          clear hK K
          refine wpAnyH_ready (rs := [10]) (by kernel_rfl) (by simp) ?_
          refine (AllReadyH.cons rfl (fun K hK => ?_) AllReadyH.nil)
          try simp only [List.getElem_toArray, List.getElem_cons_succ, List.getElem_cons_zero]
          have c0 := cell_of (o := 0) hb8_4 rfl
          have c1 := cell_of (o := 1) hb8_4 rfl
          have c2 := cell_of (o := 2) hb8_4 rfl
          have f0 := frozen_of (o := 0) hb8_4
          have f1 := frozen_of (o := 1) hb8_4
          have f2 := frozen_of (o := 2) hb8_4
          go_simp
          obtain ⟨w5, hw5⟩ : ∃ W, W = ((w4.setCell ⟨B8, 0, none⟩ (.int .i64 ((lenMark l).sym : Int))).setCell ⟨B8, 1, none⟩ (.int .i64 ((lenMark l).further : Int))).setCell ⟨B8, 2, none⟩ (.int .i64 ((lenMark l).size : Int)) := ⟨_, rfl⟩
          rw [← hw5]
          obtain ⟨hb8_5, hG5⟩ := set3 (.int .i64 ((lenMark l).sym : Int)) (.int .i64 ((lenMark l).further : Int)) (.int .i64 ((lenMark l).size : Int)) hb8_4
          rw [← hw5] at hb8_5 hG5
          have HF5 := hide (fr_false_new HF4.out hG5 (fun i e => by omega))
          have hb9_5 := cells_at hb9_4 hG5 (by omega)
          clear hw5 c0 c1 c2 f0 f1 f2
          refine hK.out _ _ ⟨(cell_blk (a := ⟨K0, 1, none⟩) (hG5.block K0 (cell_lt hHeld.1) (by omega))).trans hHeld.1, (cell_blk (a := ⟨K0, 2, none⟩) (hG5.block K0 (cell_lt hHeld.2) (by omega))).trans hHeld.2⟩ (fun hHeld => ?_)
          clear hK K
          refine wpAnyH_ready (rs := [11]) (by kernel_rfl) (by simp) ?_
          refine (AllReadyH.cons rfl (fun K hK => ?_) AllReadyH.nil)
          try simp only [List.getElem_toArray, List.getElem_cons_succ, List.getElem_cons_zero]
          have c0 := cell_of (o := 0) hb9_5 rfl
          have c1 := cell_of (o := 1) hb9_5 rfl
          have c2 := cell_of (o := 2) hb9_5 rfl
          have f0 := frozen_of (o := 0) hb9_5
          have f1 := frozen_of (o := 1) hb9_5
          have f2 := frozen_of (o := 2) hb9_5
          go_simp
          obtain ⟨w6, hw6⟩ : ∃ W, W = ((w5.setCell ⟨B9, 0, none⟩ (.int .i64 ((dstMark b).sym : Int))).setCell ⟨B9, 1, none⟩ (.int .i64 ((dstMark b).further : Int))).setCell ⟨B9, 2, none⟩ (.int .i64 ((dstMark b).size : Int)) := ⟨_, rfl⟩
          rw [← hw6]
          obtain ⟨hb9_6, hG6⟩ := set3 (.int .i64 ((dstMark b).sym : Int)) (.int .i64 ((dstMark b).further : Int)) (.int .i64 ((dstMark b).size : Int)) hb9_5
          rw [← hw6] at hb9_6 hG6
          have HF6 := hide (fr_false_new HF5.out hG6 (fun i e => by omega))
          have hb8_6 := cells_at hb8_5 hG6 (by omega)
          clear hw6 c0 c1 c2 f0 f1 f2
          refine hK.out _ _ ⟨(cell_blk (a := ⟨K0, 1, none⟩) (hG6.block K0 (cell_lt hHeld.1) (by omega))).trans hHeld.1, (cell_blk (a := ⟨K0, 2, none⟩) (hG6.block K0 (cell_lt hHeld.2) (by omega))).trans hHeld.2⟩ (fun hHeld => ?_)
          clear hK K
          refine wpAnyH_done (by kernel_rfl) ?_ _
          go_wp2
          go_meet
          exact ⟨B8, B9, rfl, rfl, hb8_6, hb9_6, by omega, by omega, HFz.out.join HF6.out⟩
        · skip
          try simp only [List.getElem_toArray, List.getElem_cons_succ, List.getElem_cons_zero]
          go_simp
          obtain ⟨w3, hw3⟩ : ∃ W, W = w2.alloc (.cells #[.int .i64 0, .int .i64 0, .int .i64 0] 158) := ⟨_, rfl⟩
          obtain ⟨B8, hB8⟩ : ∃ B, B = w2.heap.size := ⟨_, rfl⟩
          rw [← hw3, ← hB8]
          have hF3 : Fr (fun _ => False) w2 w3 := by rw [hw3]; exact Fr.of_alloc _ _
          have hb8_3 : w3.heap[B8]? = some (.cells #[.int .i64 0, .int .i64 0, .int .i64 0] 158 (0, 0)) := by rw [hw3]; exact heap_alloc_at hB8
          have hle8 : wz.heap.size ≤ B8 := by rw [hB8]; exact HF2.out.size
          have hne : B9 ≠ B8 := by have := lt_of hb9_2; omega
          clear hw3 hB8
          have HF3 := hide (HF2.out.join hF3)
          have hb9_3 := cells_at hb9_2 hF3 (fun e => e)
          refine hK.out _ _ ⟨(cell_blk (a := ⟨K0, 1, none⟩) (hF3.block K0 (cell_lt hHeld.1) (fun e => e))).trans hHeld.1, (cell_blk (a := ⟨K0, 2, none⟩) (hF3.block K0 (cell_lt hHeld.2) (fun e => e))).trans hHeld.2⟩ (fun hHeld => ?_)
          clear hK K
          refine wpAnyH_ready (rs := [7]) (by kernel_rfl) (by simp) ?_
          refine (AllReadyH.cons rfl (fun K hK => ?_) AllReadyH.nil)
          try simp only [List.getElem_toArray, List.getElem_cons_succ, List.getElem_cons_zero]
          go_simp
          refine (calls_args (Hd1.out _ Hb1.out Hb2.out) (by rfl)).mono ?_
          rintro e w4 ⟨rfl, hF4⟩
          have HF4 := hide (HF3.out.join hF4)
          have hb9_4 := cells_at hb9_3 hF4 (fun e => e)
          have hb8_4 := cells_at hb8_3 hF4 (fun e => e)
          refine hK.out _ _ ⟨(cell_blk (a := ⟨K0, 1, none⟩) (hF4.block K0 (cell_lt hHeld.1) (fun e => e))).trans hHeld.1, (cell_blk (a := ⟨K0, 2, none⟩) (hF4.block K0 (cell_lt hHeld.2) (fun e => e))).trans hHeld.2⟩ (fun hHeld => ?_)
          clear hK K
          refine wpAnyH_ready (rs := [10]) (by kernel_rfl) (by simp) ?_
          refine (AllReadyH.cons rfl (fun K hK => ?_) AllReadyH.nil)
          try simp only [List.getElem_toArray, List.getElem_cons_succ, List.getElem_cons_zero]
          have c0 := cell_of (o := 0) hb8_4 rfl
          have c1 := cell_of (o := 1) hb8_4 rfl
          have c2 := cell_of (o := 2) hb8_4 rfl
          have f0 := frozen_of (o := 0) hb8_4
          have f1 := frozen_of (o := 1) hb8_4
          have f2 := frozen_of (o := 2) hb8_4
          go_simp
          obtain ⟨w5, hw5⟩ : ∃ W, W = ((w4.setCell ⟨B8, 0, none⟩ (.int .i64 ((lenMark l).sym : Int))).setCell ⟨B8, 1, none⟩ (.int .i64 ((lenMark l).further : Int))).setCell ⟨B8, 2, none⟩ (.int .i64 ((lenMark l).size : Int)) := ⟨_, rfl⟩
          rw [← hw5]
          obtain ⟨hb8_5, hG5⟩ := set3 (.int .i64 ((lenMark l).sym : Int)) (.int .i64 ((lenMark l).further : Int)) (.int .i64 ((lenMark l).size : Int)) hb8_4
          rw [← hw5] at hb8_5 hG5
          have HF5 := hide (fr_false_new HF4.out hG5 (fun i e => by omega))
          have hb9_5 := cells_at hb9_4 hG5 (by omega)
          clear hw5 c0 c1 c2 f0 f1 f2
          refine hK.out _ _ ⟨(cell_blk (a := ⟨K0, 1, none⟩) (hG5.block K0 (cell_lt hHeld.1) (by omega))).trans hHeld.1, (cell_blk (a := ⟨K0, 2, none⟩) (hG5.block K0 (cell_lt hHeld.2) (by omega))).trans hHeld.2⟩ (fun hHeld => ?_)
          clear hK K
          refine wpAnyH_ready (rs := [11]) (by kernel_rfl) (by simp) ?_
          refine (AllReadyH.cons rfl (fun K hK => ?_) AllReadyH.nil)
          try simp only [List.getElem_toArray, List.getElem_cons_succ, List.getElem_cons_zero]
          have c0 := cell_of (o := 0) hb9_5 rfl
          have c1 := cell_of (o := 1) hb9_5 rfl
          have c2 := cell_of (o := 2) hb9_5 rfl
          have f0 := frozen_of (o := 0) hb9_5
          have f1 := frozen_of (o := 1) hb9_5
          have f2 := frozen_of (o := 2) hb9_5
          go_simp
          obtain ⟨w6, hw6⟩ : ∃ W, W = ((w5.setCell ⟨B9, 0, none⟩ (.int .i64 ((dstMark b).sym : Int))).setCell ⟨B9, 1, none⟩ (.int .i64 ((dstMark b).further : Int))).setCell ⟨B9, 2, none⟩ (.int .i64 ((dstMark b).size : Int)) := ⟨_, rfl⟩
          rw [← hw6]
          obtain ⟨hb9_6, hG6⟩ := set3 (.int .i64 ((dstMark b).sym : Int)) (.int .i64 ((dstMark b).further : Int)) (.int .i64 ((dstMark b).size : Int)) hb9_5
          rw [← hw6] at hb9_6 hG6
          have HF6 := hide (fr_false_new HF5.out hG6 (fun i e => by omega))
          have hb8_6 := cells_at hb8_5 hG6 (by omega)
          clear hw6 c0 c1 c2 f0 f1 f2
          refine hK.out _ _ ⟨(cell_blk (a := ⟨K0, 1, none⟩) (hG6.block K0 (cell_lt hHeld.1) (by omega))).trans hHeld.1, (cell_blk (a := ⟨K0, 2, none⟩) (hG6.block K0 (cell_lt hHeld.2) (by omega))).trans hHeld.2⟩ (fun hHeld => ?_)
          clear hK K
          refine wpAnyH_done (by kernel_rfl) ?_ _
          go_wp2
          go_meet
          exact ⟨B8, B9, rfl, rfl, hb8_6, hb9_6, by omega, by omega, HFz.out.join HF6.out⟩
      · skip
        try simp only [List.getElem_toArray, List.getElem_cons_succ, List.getElem_cons_zero]
        go_simp
        obtain ⟨w2, hw2⟩ : ∃ W, W = w1.alloc (.cells #[.int .i64 0, .int .i64 0, .int .i64 0] 158) := ⟨_, rfl⟩
        obtain ⟨B8, hB8⟩ : ∃ B, B = w1.heap.size := ⟨_, rfl⟩
        rw [← hw2, ← hB8]
        have hF2 : Fr (fun _ => False) w1 w2 := by rw [hw2]; exact Fr.of_alloc _ _
        have hb8_2 : w2.heap[B8]? = some (.cells #[.int .i64 0, .int .i64 0, .int .i64 0] 158 (0, 0)) := by rw [hw2]; exact heap_alloc_at hB8
        have hle8 : wz.heap.size ≤ B8 := by rw [hB8]; exact HF1.out.size
        have hne : B9 ≠ B8 := by have := lt_of hb9_1; omega
        clear hw2 hB8
        have HF2 := hide (HF1.out.join hF2)
        have hb9_2 := cells_at hb9_1 hF2 (fun e => e)
        refine hK.out _ _ ⟨(cell_blk (a := ⟨K0, 1, none⟩) (hF2.block K0 (cell_lt hHeld.1) (fun e => e))).trans hHeld.1, (cell_blk (a := ⟨K0, 2, none⟩) (hF2.block K0 (cell_lt hHeld.2) (fun e => e))).trans hHeld.2⟩ (fun hHeld => ?_)
        clear hK K
        refine wpAnyH_ready (rs := [3]) (by kernel_rfl) (by simp) ?_
        refine (AllReadyH.cons rfl (fun K hK => ?_) AllReadyH.nil)
        try simp only [List.getElem_toArray, List.getElem_cons_succ, List.getElem_cons_zero]
        go_simp
        refine (calls_args (Hl1.out _ H3.out H258.out) (by rfl)).mono ?_
        rintro e w3 ⟨rfl, hF3⟩
        have HF3 := hide (HF2.out.join hF3)
        have hb9_3 := cells_at hb9_2 hF3 (fun e => e)
        have hb8_3 := cells_at hb8_2 hF3 (fun e => e)
        refine hK.out _ _ ⟨(cell_blk (a := ⟨K0, 1, none⟩) (hF3.block K0 (cell_lt hHeld.1) (fun e => e))).trans hHeld.1, (cell_blk (a := ⟨K0, 2, none⟩) (hF3.block K0 (cell_lt hHeld.2) (fun e => e))).trans hHeld.2⟩ (fun hHeld => ?_)
        clear hK K
        refine wpAnyH_ready (rs := [7]) (by kernel_rfl) (by simp) ?_
        refine (AllReadyH.cons rfl (fun K hK => ?_) AllReadyH.nil)
        try simp only [List.getElem_toArray, List.getElem_cons_succ, List.getElem_cons_zero]
        go_simp
        refine (calls_args (Hd1.out _ Hb1.out Hb2.out) (by rfl)).mono ?_
        rintro e w4 ⟨rfl, hF4⟩
        have HF4 := hide (HF3.out.join hF4)
        have hb9_4 := cells_at hb9_3 hF4 (fun e => e)
        have hb8_4 := cells_at hb8_3 hF4 (fun e => e)
        refine hK.out _ _ ⟨(cell_blk (a := ⟨K0, 1, none⟩) (hF4.block K0 (cell_lt hHeld.1) (fun e => e))).trans hHeld.1, (cell_blk (a := ⟨K0, 2, none⟩) (hF4.block K0 (cell_lt hHeld.2) (fun e => e))).trans hHeld.2⟩ (fun hHeld => ?_)
        clear hK K
        refine wpAnyH_ready (rs := [10]) (by kernel_rfl) (by simp) ?_
        refine (AllReadyH.cons rfl (fun K hK => ?_) AllReadyH.nil)
        try simp only [List.getElem_toArray, List.getElem_cons_succ, List.getElem_cons_zero]
        have c0 := cell_of (o := 0) hb8_4 rfl
        have c1 := cell_of (o := 1) hb8_4 rfl
        have c2 := cell_of (o := 2) hb8_4 rfl
        have f0 := frozen_of (o := 0) hb8_4
        have f1 := frozen_of (o := 1) hb8_4
        have f2 := frozen_of (o := 2) hb8_4
        go_simp
        obtain ⟨w5, hw5⟩ : ∃ W, W = ((w4.setCell ⟨B8, 0, none⟩ (.int .i64 ((lenMark l).sym : Int))).setCell ⟨B8, 1, none⟩ (.int .i64 ((lenMark l).further : Int))).setCell ⟨B8, 2, none⟩ (.int .i64 ((lenMark l).size : Int)) := ⟨_, rfl⟩
        rw [← hw5]
        obtain ⟨hb8_5, hG5⟩ := set3 (.int .i64 ((lenMark l).sym : Int)) (.int .i64 ((lenMark l).further : Int)) (.int .i64 ((lenMark l).size : Int)) hb8_4
        rw [← hw5] at hb8_5 hG5
        have HF5 := hide (fr_false_new HF4.out hG5 (fun i e => by omega))
        have hb9_5 := cells_at hb9_4 hG5 (by omega)
        clear hw5 c0 c1 c2 f0 f1 f2
        refine hK.out _ _ ⟨(cell_blk (a := ⟨K0, 1, none⟩) (hG5.block K0 (cell_lt hHeld.1) (by omega))).trans hHeld.1, (cell_blk (a := ⟨K0, 2, none⟩) (hG5.block K0 (cell_lt hHeld.2) (by omega))).trans hHeld.2⟩ (fun hHeld => ?_)
        clear hK K
        refine wpAnyH_ready (rs := [11]) (by kernel_rfl) (by simp) ?_
        refine (AllReadyH.cons rfl (fun K hK => ?_) AllReadyH.nil)
        try simp only [List.getElem_toArray, List.getElem_cons_succ, List.getElem_cons_zero]
        have c0 := cell_of (o := 0) hb9_5 rfl
        have c1 := cell_of (o := 1) hb9_5 rfl
        have c2 := cell_of (o := 2) hb9_5 rfl
        have f0 := frozen_of (o := 0) hb9_5
        have f1 := frozen_of (o := 1) hb9_5
        have f2 := frozen_of (o := 2) hb9_5
        go_simp
        obtain ⟨w6, hw6⟩ : ∃ W, W = ((w5.setCell ⟨B9, 0, none⟩ (.int .i64 ((dstMark b).sym : Int))).setCell ⟨B9, 1, none⟩ (.int .i64 ((dstMark b).further : Int))).setCell ⟨B9, 2, none⟩ (.int .i64 ((dstMark b).size : Int)) := ⟨_, rfl⟩
        rw [← hw6]
        obtain ⟨hb9_6, hG6⟩ := set3 (.int .i64 ((dstMark b).sym : Int)) (.int .i64 ((dstMark b).further : Int)) (.int .i64 ((dstMark b).size : Int)) hb9_5
        rw [← hw6] at hb9_6 hG6
        have HF6 := hide (fr_false_new HF5.out hG6 (fun i e => by omega))
        have hb8_6 := cells_at hb8_5 hG6 (by omega)
        clear hw6 c0 c1 c2 f0 f1 f2
        refine hK.out _ _ ⟨(cell_blk (a := ⟨K0, 1, none⟩) (hG6.block K0 (cell_lt hHeld.1) (by omega))).trans hHeld.1, (cell_blk (a := ⟨K0, 2, none⟩) (hG6.block K0 (cell_lt hHeld.2) (by omega))).trans hHeld.2⟩ (fun hHeld => ?_)
        clear hK K
        refine wpAnyH_done (by kernel_rfl) ?_ _
        go_wp2
        go_meet
        exact ⟨B8, B9, rfl, rfl, hb8_6, hb9_6, by omega, by omega, HFz.out.join HF6.out⟩
  case rest =>
    obtain ⟨B4, B5, rfl, rfl, hb4, hb5, hn4, hn5, hFx⟩ := hcut
    obtain ⟨a1, a2, a3, _⟩ := lenMark_ok l H3.out H258.out
    obtain ⟨b1, b2, _⟩ := dstMark_ok b Hb1.out Hb2.out
    have hadd : addZ Z ⟨lt, l, b⟩ = inc (inc (inc Z (lenMark l).sym 1) (286 + (dstMark b).sym) 1) 316 (((lenMark l).size + (dstMark b).size : Nat) : Int) := by
      unfold addZ
      rw [if_neg (by have := H3.out; show ¬ l = 0; omega)]
    have Hadd := hide hadd
    clear hadd
    generalize lenMark l = m1 at *
    generalize dstMark b = m2 at *
    obtain ⟨y1, u1, s1⟩ := m1
    obtain ⟨y2, u2, s2⟩ := m2
    simp only at a1 a2 a3 b1 b2 hb4 hb5 Hadd
    have hT1 := HT0.out.fr hFx (fun e => e)
    have z1 := Hz.out y1
    have z2 := Hz.out (286 + y2)
    have z3 := Hz.out 316
    have d0 := cell_of (o := 0) hb4 rfl
    have d2 := cell_of (o := 2) hb4 rfl
    have e0 := cell_of (o := 0) hb5 rfl
    have e2 := cell_of (o := 2) hb5 rfl
    have t1 := hT1.cell (i := y1) (by omega)
    have t2 := hT1.cell (i := 286 + y2) (by omega)
    have t3 := hT1.cell (i := 316) (by omega)
    have g1 := frozen_of (o := y1) hT1.blk
    have g2 := frozen_of (o := 286 + y2) hT1.blk
    have g3 := frozen_of (o := 316) hT1.blk
    obtain ⟨x1, hx1⟩ : ∃ x, x = at0 Z y1 := ⟨_, rfl⟩
    obtain ⟨x2, hx2⟩ : ∃ x, x = at0 Z (286 + y2) := ⟨_, rfl⟩
    obtain ⟨x3, hx3⟩ : ∃ x, x = at0 Z 316 := ⟨_, rfl⟩
    rw [← hx1] at t1 z1
    rw [← hx2] at t2 z2
    rw [← hx3] at t3 z3
    have i1 : (y1 : Int) < 286 := by omega
    have i2 : (y2 : Int) < 30 := by omega
    have i3 : (s1 : Int) ≤ 5 := by omega
    have i4 : (s2 : Int) ≤ 13 := by omega
    obtain ⟨z1a, z1b⟩ := z1
    obtain ⟨z2a, z2b⟩ := z2
    obtain ⟨z3a, z3b⟩ := z3
    have HT1 := hide hT1
    have HFx := hide hFx
    have Hx1 := hide hx1
    have Hx2 := hide hx2
    have Hx3 := hide hx3
    have n1 : ¬ y1 = 286 + y2 := by omega
    have n2 : ¬ y1 = 316 := by omega
    have n3 : ¬ 286 + y2 = 316 := by omega
    clear hT1 hFx hx1 hx2 hx3 hb4 hb5 c1 c2 q1 q2
    go_wp2_with fail
    go_region
    go_wp2_with fail
    go_region
    go_wp2_with fail
    go_region
    go_wp2
    go_end0
    have h1 := HT1.out.set y1 1
    rw [← Hx1.out] at h1
    have h2 := h1.set (286 + y2) 1
    have v2 : at0 (inc Z y1 1) (286 + y2) = x2 := by rw [inc_at _ _ _ _ (by rw [HT0.out.len]; omega), if_neg (by omega), Hx2.out]
    rw [v2] at h2
    have h3 := h2.set 316 ((s1 + s2 : Nat) : Int)
    have v3 : at0 (inc (inc Z y1 1) (286 + y2) 1) 316 = x3 := by rw [inc_at _ _ _ _ (by rw [inc_len, HT0.out.len]; omega), if_neg (by omega), inc_at _ _ _ _ (by rw [HT0.out.len]; omega), if_neg (by omega), Hx3.out]
    rw [v3, Int.natCast_add] at h3
    rw [Hadd.out, Int.natCast_add]
    refine ⟨rfl, h3.fr (Fr.of_drewN _ 3) (fun e => e), ?_⟩
    exact ((((HF0.out.join HFx.out).trans (((Fr.of_setCell wc ⟨A, y1, none⟩ _).join (Fr.of_setCell _ ⟨A, 286 + y2, none⟩ _)).join (Fr.of_setCell _ ⟨A, 316, none⟩ _))).trans (Fr.of_drewN _ 3))).mono fun i _ e => by
      rcases e with (e | e) | e
      · exact e.elim
      · exact e
      · exact e.elim
theorem tallyAdd_c (A : Nat) (p : Pc) (out : List Nat) (Z : List Int) (w : World) (h : Tl w A Z) (hm : p.may out) (hz : ∀ i, 0 ≤ at0 Z i ∧ at0 Z i ≤ 10000000) :
    Calls Tryz.prog 96 #[.pointer (some ⟨A, 0, none⟩), .agg #[.int .u8 (p.lit : Int), .int .u16 (p.len : Int), .int .u16 (p.back : Int)]] w fun e w' => e = .returned (.tuple #[]) ∧ Tl w' A (addZ Z p) ∧ Fr (fun i => i = A) w w' := by
  rcases hm with ⟨h0, h1⟩ | ⟨h3, h4, h5, h6, _⟩
  · have := tallyAdd_lit A p.lit p.back Z w h h1 ⟨(hz p.lit).1, by have := (hz p.lit).2; omega⟩
    have e : addZ Z p = inc Z p.lit 1 := by unfold addZ; rw [if_pos h0]
    rw [e, h0]
    exact this
  · exact tallyAdd_row A p.lit p.len p.back Z w h h3 h4 h5 h6 hz
end Go.Proofs.YtdpmpllbdoefdaaGreatDoor
namespace Go.Proofs.YtdpmpllbdoefdaaGreatDoor
open Go.RowKit
def fL (Z : List Int) : List Int := Z.take 286
def fD (Z : List Int) : List Int := (Z.drop 286).take 30
theorem fL_len {Z : List Int} (h : Z.length = 317) : (fL Z).length = 286 := by simp [fL, h]
theorem fD_len {Z : List Int} (h : Z.length = 317) : (fD Z).length = 30 := by simp [fD, h]
theorem fL_at (Z : List Int) {i : Nat} (h : i < 286) : at0 (fL Z) i = at0 Z i := by
  unfold fL at0
  simp only [List.getD_eq_getElem?_getD]
  rw [List.getElem?_take_of_lt h]
theorem fD_at (Z : List Int) {i : Nat} (h : i < 30) : at0 (fD Z) i = at0 Z (286 + i) := by
  unfold fD at0
  simp only [List.getD_eq_getElem?_getD]
  rw [List.getElem?_take_of_lt h, List.getElem?_drop]
theorem bitsF_step {ls f g : List Int} {j : Nat} : ∀ k, (∀ i, i < k → at0 g i = at0 f i + if i = j then 1 else 0) → bitsF ls g k = bitsF ls f k + if j < k then at0 ls j else 0 := by
  intro k
  induction k with
  | zero => intro _; simp [bitsF]
  | succ k ih =>
    intro h
    simp only [bitsF]
    rw [ih (fun i hi => h i (by omega)), h k (by omega)]
    by_cases hk : k = j
    · subst hk
      rw [if_pos rfl, if_neg (by omega), if_pos (by omega), Int.add_mul, Int.one_mul]
      omega
    · rw [if_neg hk, Int.add_zero]
      by_cases hj : j < k
      · rw [if_pos hj, if_pos (by omega)]; omega
      · rw [if_neg hj, if_neg (by omega)]; omega
def allB (ll dl Z : List Int) : Int := bitsF ll (fL Z) 286 + bitsF dl (fD Z) 30 + at0 Z 316
theorem allB_L {ll dl Z : List Int} {j : Nat} (hj : j < 286) (hZ : Z.length = 317) : allB ll dl (inc Z j 1) = allB ll dl Z + at0 ll j := by
  have h1 := bitsF_step (ls := ll) (f := fL Z) (g := fL (inc Z j 1)) (j := j) 286 (fun i hi => by
    rw [fL_at _ hi, fL_at _ hi, inc_at _ _ _ _ (by omega)]
    split
    · next e => rw [e]
    · omega)
  have h2 := bitsF_step (ls := dl) (f := fD Z) (g := fD (inc Z j 1)) (j := 30) 30 (fun i hi => by
    rw [fD_at _ hi, fD_at _ hi, inc_at _ _ _ _ (by omega), if_neg (by omega), if_neg (by omega)]
    omega)
  rw [if_pos hj] at h1
  rw [if_neg (by omega)] at h2
  unfold allB
  rw [h1, h2, inc_at _ _ _ _ (by omega), if_neg (by omega)]
  omega
theorem allB_D {ll dl Z : List Int} {j : Nat} (hj : j < 30) (hZ : Z.length = 317) : allB ll dl (inc Z (286 + j) 1) = allB ll dl Z + at0 dl j := by
  have h1 := bitsF_step (ls := ll) (f := fL Z) (g := fL (inc Z (286 + j) 1)) (j := 286) 286 (fun i hi => by
    rw [fL_at _ hi, fL_at _ hi, inc_at _ _ _ _ (by omega), if_neg (by omega), if_neg (by omega)]
    omega)
  have h2 := bitsF_step (ls := dl) (f := fD Z) (g := fD (inc Z (286 + j) 1)) (j := j) 30 (fun i hi => by
    rw [fD_at _ hi, fD_at _ hi, inc_at _ _ _ _ (by omega)]
    by_cases e : i = j
    · rw [if_pos (by omega), if_pos e, e]
    · rw [if_neg (by omega), if_neg e]; omega)
  rw [if_neg (by omega)] at h1
  rw [if_pos hj] at h2
  unfold allB
  rw [h1, h2, inc_at _ _ _ _ (by omega), if_neg (by omega)]
  omega
theorem allB_F {ll dl Z : List Int} {d : Int} (hZ : Z.length = 317) : allB ll dl (inc Z 316 d) = allB ll dl Z + d := by
  have h1 := bitsF_step (ls := ll) (f := fL Z) (g := fL (inc Z 316 d)) (j := 286) 286 (fun i hi => by
    rw [fL_at _ hi, fL_at _ hi, inc_at _ _ _ _ (by omega), if_neg (by omega), if_neg (by omega)]
    omega)
  have h2 := bitsF_step (ls := dl) (f := fD Z) (g := fD (inc Z 316 d)) (j := 30) 30 (fun i hi => by
    rw [fD_at _ hi, fD_at _ hi, inc_at _ _ _ _ (by omega), if_neg (by omega), if_neg (by omega)]
    omega)
  rw [if_neg (by omega)] at h1
  rw [if_neg (by omega)] at h2
  unfold allB
  rw [h1, h2, inc_at _ _ _ _ (by omega), if_pos rfl]
  omega
theorem addZ_len (Z : List Int) (p : Pc) : (addZ Z p).length = Z.length := by
  unfold addZ
  split <;> simp [inc_len]
def Pc.cost (p : Pc) (ll dl : List Int) : Nat := if p.len = 0 then wn ll p.lit else wn ll (lenMark p.len).sym + (lenMark p.len).size + (wn dl (dstMark p.back).sym + (dstMark p.back).size)
theorem put_cost (p : Pc) (ll dl : List Int) (t : Bt) : (p.put ll dl t).p = t.p + p.cost ll dl := by
  unfold Pc.put Pc.cost
  split
  · rw [putM_p]; rfl
  · rw [putM_p, putM_p]; omega
theorem wn_at {ls : List Int} (h : good ls) (i : Nat) : ((wn ls i : Nat) : Int) = at0 ls i := by
  have := (at_all h i).1
  unfold wn
  omega
theorem allB_add {ll dl Z : List Int} (gl : good ll) (gd : good dl) {p : Pc} {out : List Nat} (hm : p.may out) (hZ : Z.length = 317) : allB ll dl (addZ Z p) = allB ll dl Z + (p.cost ll dl : Nat) := by
  unfold addZ Pc.cost
  rcases hm with ⟨h0, h1⟩ | ⟨h3, h4, h5, h6, _⟩
  · rw [if_pos h0, if_pos h0, allB_L (by omega) hZ, wn_at gl]
  · rw [if_neg (by omega), if_neg (by omega)]
    have a := lenMark_ok p.len h3 h4
    have b := dstMark_ok p.back h5 h6
    rw [allB_F (by simp [inc_len, hZ]), allB_D b.1 (by simp [inc_len, hZ]), allB_L (by omega) hZ]
    have e1 := wn_at gl (lenMark p.len).sym
    have e2 := wn_at gd (dstMark p.back).sym
    omega
def cntZ : List Pc → List Int → List Int
  | [], Z => Z
  | p :: ps, Z => cntZ ps (addZ Z p)
theorem cntZ_snoc (ps : List Pc) (p : Pc) (Z : List Int) : cntZ (ps ++ [p]) Z = addZ (cntZ ps Z) p := by
  induction ps generalizing Z with
  | nil => rfl
  | cons q ps ih => exact ih _
theorem cntZ_len (ps : List Pc) (Z : List Int) : (cntZ ps Z).length = Z.length := by
  induction ps generalizing Z with
  | nil => rfl
  | cons q ps ih => exact (ih _).trans (addZ_len Z q)
theorem puts_cost {ll dl : List Int} (gl : good ll) (gd : good dl) : ∀ (ps : List Pc) (out : List Nat) (Z : List Int) (t : Bt), mays ps out → Z.length = 317 → allB ll dl (cntZ ps Z) + (t.p : Int) = allB ll dl Z + ((puts ll dl ps t).p : Int) := by
  intro ps
  induction ps with
  | nil => intro out Z t _ _; rfl
  | cons p ps ih =>
    intro out Z t hm hZ
    have h1 := ih (p.play out) (addZ Z p) (p.put ll dl t) hm.2 ((addZ_len Z p).trans hZ)
    have h2 := allB_add (ll := ll) (dl := dl) gl gd hm.1 hZ
    have h3 := put_cost p ll dl t
    show allB ll dl (cntZ ps (addZ Z p)) + (t.p : Int) = allB ll dl Z + ((puts ll dl ps (p.put ll dl t)).p : Int)
    omega
def zero317 : List Int := List.replicate 317 0
theorem zero317_len : zero317.length = 317 := List.length_replicate
def tally (ps : List Pc) : List Int := inc (cntZ ps zero317) 256 1
theorem tally_len (ps : List Pc) : (tally ps).length = 317 := by
  unfold tally
  rw [inc_len, cntZ_len, zero317_len]
theorem at_zero (i : Nat) : at0 zero317 i = 0 := by
  unfold zero317 at0
  simp only [List.getD_eq_getElem?_getD, List.getElem?_replicate]
  split <;> rfl
theorem bitsF_zero (ls : List Int) (f : List Int) : ∀ k, (∀ i, i < k → at0 f i = 0) → bitsF ls f k = 0 := by
  intro k
  induction k with
  | zero => intro _; rfl
  | succ k ih => intro h; simp only [bitsF]; rw [ih (fun i hi => h i (by omega)), h k (by omega)]; omega
theorem tally_cost {ll dl : List Int} (gl : good ll) (gd : good dl) {ps : List Pc} {out : List Nat} (hm : mays ps out) (t : Bt) : allB ll dl (tally ps) + (t.p : Int) = ((putP ll dl ps t).p : Int) := by
  have h1 := puts_cost (ll := ll) (dl := dl) gl gd ps out zero317 t hm zero317_len
  have h2 := allB_L (ll := ll) (dl := dl) (Z := cntZ ps zero317) (j := 256) (by omega) (by rw [cntZ_len, zero317_len])
  have h3 : allB ll dl zero317 = 0 := by
    unfold allB
    rw [bitsF_zero _ _ _ (fun i hi => by rw [fL_at _ hi]; exact at_zero i), bitsF_zero _ _ _ (fun i hi => by rw [fD_at _ hi]; exact at_zero _), at_zero]
    rfl
  have h4 : (putP ll dl ps t).p = (puts ll dl ps t).p + wn ll 256 := rfl
  have h5 := wn_at gl 256
  unfold tally
  omega
structure Zn (Z : List Int) (n : Nat) : Prop where
  len : Z.length = 317
  low : ∀ i, 0 ≤ at0 Z i
  high : ∀ i, i < 316 → at0 Z i ≤ (n : Int)
  far : at0 Z 316 ≤ 18 * (n : Int)
theorem Zn.zero : Zn zero317 0 := ⟨zero317_len, fun i => by rw [at_zero]; omega, fun i _ => by rw [at_zero]; omega, by rw [at_zero]; omega⟩
theorem Zn.all {Z : List Int} {n : Nat} (h : Zn Z n) (i : Nat) : 0 ≤ at0 Z i ∧ at0 Z i ≤ 18 * (n : Int) := by
  refine ⟨h.low i, ?_⟩
  rcases Nat.lt_trichotomy i 316 with e | e | e
  · have := h.high i e; omega
  · rw [e]; exact h.far
  · have : at0 Z i = 0 := at0_end Z i (by have := h.len; omega)
    omega
theorem add_at {Z : List Int} {p : Pc} {out : List Nat} (hm : p.may out) (hZ : Z.length = 317) (i : Nat) :
    at0 Z i ≤ at0 (addZ Z p) i ∧ (i < 316 → at0 (addZ Z p) i ≤ at0 Z i + 1) ∧ at0 (addZ Z p) 316 ≤ at0 Z 316 + 18 := by
  unfold addZ
  rcases hm with ⟨h0, h1⟩ | ⟨h3, h4, h5, h6, _⟩
  · rw [if_pos h0, inc_at _ _ _ _ (by omega), inc_at _ _ _ _ (by omega), if_neg (show ¬ 316 = p.lit by omega)]
    split
    · next e => subst e; omega
    · omega
  · have a := lenMark_ok p.len h3 h4
    have b := dstMark_ok p.back h5 h6
    rw [if_neg (by omega)]
    generalize (lenMark p.len).size = s1 at *
    generalize (dstMark p.back).size = s2 at *
    generalize (lenMark p.len).sym = y1 at *
    generalize (dstMark p.back).sym = y2 at *
    have l1 : (inc Z y1 1).length = 317 := by rw [inc_len]; exact hZ
    have l2 : (inc (inc Z y1 1) (286 + y2) 1).length = 317 := by rw [inc_len]; exact l1
    have e316 : at0 (inc (inc (inc Z y1 1) (286 + y2) 1) 316 ((s1 + s2 : Nat) : Int)) 316 = at0 Z 316 + ((s1 + s2 : Nat) : Int) := by
      rw [inc_at _ _ _ _ (by omega), if_pos rfl, inc_at _ _ _ _ (by omega), if_neg (by omega), inc_at _ _ _ _ (by omega), if_neg (by omega)]
    rw [e316, inc_at _ _ _ _ (by omega), inc_at _ _ 316 _ (by omega), if_neg (show ¬ 316 = 286 + y2 by omega), inc_at _ _ 316 _ (by omega), if_neg (show ¬ 316 = y1 by omega)]
    rw [inc_at _ _ i _ (by omega), inc_at _ _ i _ (by omega), inc_at _ _ (286 + y2) _ (by omega), if_neg (show ¬ 286 + y2 = y1 by omega)]
    have hsz : ((s1 + s2 : Nat) : Int) ≤ 18 := by omega
    by_cases e1 : i = 316
    · subst e1; rw [if_pos rfl]; omega
    · rw [if_neg e1]
      by_cases e2 : i = 286 + y2
      · rw [if_pos e2, e2]; omega
      · rw [if_neg e2]
        by_cases e3 : i = y1
        · rw [if_pos e3, e3]; omega
        · rw [if_neg e3]; omega
theorem Zn.add {Z : List Int} {n : Nat} (h : Zn Z n) {p : Pc} {out : List Nat} (hm : p.may out) : Zn (addZ Z p) (n + 1) :=
  ⟨(addZ_len Z p).trans h.len, fun i => Int.le_trans (h.low i) (add_at hm h.len i).1, fun i hi => by have := (add_at hm h.len i).2.1 hi; have := h.high i hi; omega, by have := (add_at hm h.len 0).2.2; have := h.far; omega⟩
theorem Zn.cnt : ∀ (ps : List Pc) (out : List Nat) (Z : List Int) (n : Nat), Zn Z n → mays ps out → Zn (cntZ ps Z) (n + ps.length) := by
  intro ps
  induction ps with
  | nil => intro out Z n h _; exact h
  | cons p ps ih =>
    intro out Z n h hm
    have := ih (p.play out) (addZ Z p) (n + 1) (h.add hm.1) hm.2
    rw [show n + (p :: ps).length = n + 1 + ps.length by simp; omega]
    exact this
theorem cnt_mono : ∀ (ps : List Pc) (out : List Nat) (Z : List Int), mays ps out → Z.length = 317 → ∀ i, at0 Z i ≤ at0 (cntZ ps Z) i := by
  intro ps
  induction ps with
  | nil => intro out Z _ _ i; exact Int.le_refl _
  | cons p ps ih =>
    intro out Z hm hZ i
    exact Int.le_trans (add_at hm.1 hZ i).1 (ih (p.play out) (addZ Z p) hm.2 ((addZ_len Z p).trans hZ) i)
def Pc.seen (p : Pc) (Z : List Int) : Prop := if p.len = 0 then p.lit < 256 ∧ 1 ≤ at0 Z p.lit else ((lenMark p.len).sym < 286 ∧ 1 ≤ at0 Z (lenMark p.len).sym) ∧ (dstMark p.back).sym < 30 ∧ 1 ≤ at0 Z (286 + (dstMark p.back).sym)
theorem Pc.seen.more {p : Pc} {Z Y : List Int} (h : p.seen Z) (hY : ∀ i, at0 Z i ≤ at0 Y i) : p.seen Y := by
  unfold Pc.seen at *
  split
  · next h0 => rw [if_pos h0] at h; exact ⟨h.1, Int.le_trans h.2 (hY _)⟩
  · next h0 => rw [if_neg h0] at h; exact ⟨⟨h.1.1, Int.le_trans h.1.2 (hY _)⟩, h.2.1, Int.le_trans h.2.2 (hY _)⟩
theorem seen_add {Z : List Int} {p : Pc} {out : List Nat} (hm : p.may out) (hZ : Z.length = 317) (hl : ∀ i, 0 ≤ at0 Z i) : p.seen (addZ Z p) := by
  unfold Pc.seen addZ
  rcases hm with ⟨h0, h1⟩ | ⟨h3, h4, h5, h6, _⟩
  · rw [if_pos h0, if_pos h0, inc_at _ _ _ _ (by omega), if_pos rfl]
    have := hl p.lit
    omega
  · have a := lenMark_ok p.len h3 h4
    have b := dstMark_ok p.back h5 h6
    rw [if_neg (by omega), if_neg (by omega)]
    generalize (lenMark p.len).size = s1 at *
    generalize (dstMark p.back).size = s2 at *
    generalize (lenMark p.len).sym = y1 at *
    generalize (dstMark p.back).sym = y2 at *
    have l1 : (inc Z y1 1).length = 317 := by rw [inc_len]; exact hZ
    have l2 : (inc (inc Z y1 1) (286 + y2) 1).length = 317 := by rw [inc_len]; exact l1
    rw [inc_at _ _ _ _ (by omega), if_neg (by omega), inc_at _ _ _ _ (by omega), if_neg (by omega), inc_at _ _ _ _ (by omega), if_pos rfl]
    rw [inc_at _ _ _ _ (by omega), if_neg (by omega), inc_at _ _ _ _ (by omega), if_pos rfl, inc_at _ _ _ _ (by omega), if_neg (by omega)]
    have h1 := hl y1
    have h2 := hl (286 + y2)
    omega
theorem cnt_seen : ∀ (ps : List Pc) (out : List Nat) (Z : List Int), mays ps out → Z.length = 317 → (∀ i, 0 ≤ at0 Z i) → ∀ p ∈ ps, p.seen (cntZ ps Z) := by
  intro ps
  induction ps with
  | nil => intro out Z _ _ _ p hp; cases hp
  | cons q ps ih =>
    intro out Z hm hZ hl p hp
    have hl' : ∀ i, 0 ≤ at0 (addZ Z q) i := fun i => Int.le_trans (hl i) (add_at hm.1 hZ i).1
    rcases List.mem_cons.1 hp with rfl | hp
    · exact (seen_add hm.1 hZ hl).more (cnt_mono ps _ _ hm.2 ((addZ_len Z p).trans hZ))
    · exact ih (q.play out) (addZ Z q) hm.2 ((addZ_len Z q).trans hZ) hl' p hp
theorem tally_at (ps : List Pc) (i : Nat) : at0 (tally ps) i = at0 (cntZ ps zero317) i + if i = 256 then 1 else 0 := by
  unfold tally
  rw [inc_at _ _ _ _ (by rw [cntZ_len, zero317_len]; decide)]
  split
  · next e => rw [e]
  · omega
theorem tally_zn {ps : List Pc} {out : List Nat} (hm : mays ps out) : Zn (tally ps) (ps.length + 1) := by
  have h := Zn.cnt ps out zero317 0 Zn.zero hm
  refine ⟨tally_len ps, fun i => ?_, fun i hi => ?_, ?_⟩
  · rw [tally_at]; have := h.low i; split <;> omega
  · rw [tally_at]; have := h.high i hi; split <;> omega
  · rw [tally_at, if_neg (by omega)]; have := h.far; omega
theorem tally_seen {ps : List Pc} {out : List Nat} (hm : mays ps out) : ∀ p ∈ ps, p.seen (tally ps) := fun p hp =>
  (cnt_seen ps out zero317 hm zero317_len (fun i => by rw [at_zero]; omega) p hp).more (fun i => by rw [tally_at]; split <;> omega)
theorem tally_end {ps : List Pc} {out : List Nat} (hm : mays ps out) : 1 ≤ at0 (tally ps) 256 := by
  have h := Zn.cnt ps out zero317 0 Zn.zero hm
  rw [tally_at, if_pos rfl]
  have := h.low 256
  omega
theorem tally_good {ps : List Pc} {out : List Nat} (hm : mays ps out) (hp : ps.length ≤ 65535) : goodF (fL (tally ps)) ∧ goodF (fD (tally ps)) := by
  have h := tally_zn hm
  refine ⟨⟨by rw [fL_len h.len]; decide, fun i hi => ?_⟩, ⟨by rw [fD_len h.len]; decide, fun i hi => ?_⟩⟩
  · rw [fL_len h.len] at hi
    rw [fL_at _ hi]
    have := h.low i
    have := h.high i (by omega)
    omega
  · rw [fD_len h.len] at hi
    rw [fD_at _ hi]
    have := h.low (286 + i)
    have := h.high (286 + i) (by omega)
    omega
theorem tally_told {ps : List Pc} {out : List Nat} (hm : mays ps out) {oL oD : List Int} (h1 : LenOk (fL (tally ps)) 15 oL) (h2 : LenOk (fD (tally ps)) 15 oD) : ∀ p ∈ ps, p.told (trim oL 257) (trim oD 1) := by
  have tl := tally_len ps
  have kL : ∀ i, i < 286 → 1 ≤ at0 (tally ps) i → 1 ≤ at0 (trim oL 257) i ∧ i < (trim oL 257).length := fun i hi hp => by
    have := (h1.pos i (by rw [fL_len tl]; exact hi) (by rw [fL_at _ hi]; omega)).1
    refine ⟨by rw [trim_at]; omega, Nat.lt_of_not_le fun hc => ?_⟩
    have e := at0_end (trim oL 257) i hc
    rw [trim_at] at e
    omega
  have kD : ∀ i, i < 30 → 1 ≤ at0 (tally ps) (286 + i) → 1 ≤ at0 (trim oD 1) i ∧ i < (trim oD 1).length := fun i hi hp => by
    have := (h2.pos i (by rw [fD_len tl]; exact hi) (by rw [fD_at _ hi]; omega)).1
    refine ⟨by rw [trim_at]; omega, Nat.lt_of_not_le fun hc => ?_⟩
    have e := at0_end (trim oD 1) i hc
    rw [trim_at] at e
    omega
  intro p hp
  have hs := tally_seen hm p hp
  unfold Pc.seen at hs
  unfold Pc.told
  split
  · next h0 => rw [if_pos h0] at hs; exact kL _ (by omega) hs.2
  · next h0 => rw [if_neg h0] at hs; exact ⟨kL _ hs.1.1 hs.1.2, kD _ hs.2.1 hs.2.2⟩
end Go.Proofs.YtdpmpllbdoefdaaGreatDoor
namespace Go.Proofs.YtdpmpllbdoefdaaGreatDoor
open Go Go.RowKit
section
variable {P : Program} {ops : Array Oper} {Q : Exit → Act → World → Prop} {md : Region.Mode} {S : World → Prop} {L : Nat}
def wpAnyL (P : Program) (md : Region.Mode) (ops : Array Oper) (Q : Exit → Act → World → Prop) (S : World → Prop) (L : Nat) : Nat → Array Bool → Act → World → Prop
  | 0, listed, a, w => Region.ready md ops listed = [] ∧ Q .normal a w
  | fuel + 1, listed, a, w =>
    (Region.ready md ops listed = [] → Q .normal a w) ∧
    ∀ i ∈ Region.ready md ops listed, wpOp P ops Q i (fun a' w' => (i ≠ L → S w') ∧ wpAnyL P md ops Q S L fuel (listed.setIfInBounds i true) a' w') a w
theorem wpAny_of_L : ∀ (fuel : Nat) (listed : Array Bool) (a : Act) (w : World), wpAnyL P md ops Q S L fuel listed a w → wpAny P md ops Q fuel listed a w
  | 0, _, _, _, h => h
  | fuel + 1, _, _, _, h => ⟨h.1, fun i hi => wpOp_mono (fun a' w' h' => wpAny_of_L fuel _ a' w' h'.2) (h.2 i hi)⟩
def blocked (md : Region.Mode) (ops : Array Oper) (listed : Array Bool) (i L : Nat) (bl : List Nat) : Bool :=
  bl.contains L && !bl.contains i && bl.all fun j => !listed.getD j true && (match ops[j]? with
    | some oj => oj.after.any fun e => Region.binds md e && (e.on == i || bl.contains e.on)
    | none => false)
theorem not_ready {listed : Array Bool} {i : Nat} {bl : List Nat} (hi : listed.getD i true = false) (hb : blocked md ops listed i L bl = true) : ∀ j ∈ bl, j ∉ Region.ready md ops listed := by
  intro j hj hr
  simp only [blocked, Bool.and_eq_true, List.all_eq_true] at hb
  obtain ⟨_, oj, hoj, hall⟩ := mem_ready.1 hr
  have h1 := (hb.2 j hj).2
  simp only [hoj] at h1
  obtain ⟨e, he, h2⟩ := Array.any_eq_true'.1 h1
  simp only [Bool.and_eq_true, Bool.or_eq_true, beq_iff_eq, List.contains_iff_mem] at h2
  have h3 := hall e he h2.1
  have key : ∀ k, listed.getD k true = false → listed.getD k false = true → False := by
    intro k a b
    rw [Array.getD_eq_getD_getElem?] at a b
    cases h : listed[k]? with
    | none => rw [h] at a; cases a
    | some x => rw [h] at a b; simp only [Option.getD_some] at a b; rw [a] at b; cases b
  rcases h2.2 with h4 | h4
  · rw [h4] at h3; exact key i hi h3
  · have h5 := (hb.2 e.on h4).1
    exact key e.on (by simpa using h5) h3
theorem blocked_set {listed : Array Bool} {i j : Nat} {bl : List Nat} (hj : j ∉ bl) (hb : blocked md ops listed i L bl = true) : blocked md ops (listed.setIfInBounds j true) i L bl = true := by
  simp only [blocked, Bool.and_eq_true, List.all_eq_true] at hb ⊢
  refine ⟨hb.1, fun k hk => ⟨?_, (hb.2 k hk).2⟩⟩
  rw [getD_set_ne true (fun e => hj (by rw [e]; exact hk))]
  exact (hb.2 k hk).1
theorem wpAnyL_first {i : Nat} {oi : Oper} {v : Value} {bl : List Nat} (hi : ops[i]? = some oi) (hsel : ∀ (j : Nat) (o : Oper) cs b, ops[j]? = some o → o.op ≠ .select cs b)
    (hQ : ∀ c a w, Q (.panic c) (a.put oi.dst v) w → Q (.panic c) a w) :
    ∀ (fuel : Nat) (listed : Array Bool) (a : Act) (w : World),
      (∀ j oj, ops[j]? = some oj → j ≠ i → listed.getD j true = false → (∀ e ∈ oj.after, Region.binds md e = true → e.on ≠ i) → oi.apart ops oj = true) →
      i ∈ Region.ready md ops listed → blocked md ops listed i L bl = true → YieldsIf P ops S oi v a → S w →
      wpAnyL P md ops Q S L fuel (listed.setIfInBounds i true) (a.put oi.dst v) w → wpAnyL P md ops Q S L (fuel + 1) listed a w := by
  intro fuel
  induction fuel with
  | zero =>
    intro listed a w _ hr _ hy hS H
    refine ⟨fun h => (by rw [h] at hr; cases hr), fun j hj => ?_⟩
    by_cases hji : j = i
    · subst hji; exact hy.wpOp hi hS ⟨fun _ => hS, H⟩
    · have := ready_mono hj hji
      rw [H.1] at this
      cases this
  | succ fuel ih =>
    intro listed a w hfree hr hb hy hS H
    refine ⟨fun h => (by rw [h] at hr; cases hr), fun j hj => ?_⟩
    by_cases hji : j = i
    · subst hji; exact hy.wpOp hi hS ⟨fun _ => hS, H⟩
    · have h1 := H.2 j (ready_mono hj hji)
      obtain ⟨hjun, oj, hoj, hall⟩ := mem_ready.1 hj
      have hiun := (mem_ready.1 hr).1
      have hjbl : j ∉ bl := fun h => not_ready hiun hb j h hj
      have hLbl : L ∈ bl := by
        simp only [blocked, Bool.and_eq_true, List.contains_iff_mem] at hb
        exact hb.1.1
      have hjL : j ≠ L := fun e => hjbl (by rw [e]; exact hLbl)
      have hnot : ∀ e ∈ oj.after, Region.binds md e = true → e.on ≠ i := fun e he hb heq => by
        have h1 := hall e he hb
        have h0 := (mem_ready.1 hr).1
        rw [heq] at h1
        rcases Nat.lt_or_ge i listed.size with h' | h'
        · simp [h'] at h0 h1; rw [h0] at h1; cases h1
        · simp [Array.getElem?_eq_none h'] at h1
      have h2 := wpOp_putIf hoj (hfree j oj hoj hji hjun hnot) (fun cs b => hsel i oi cs b hi) (fun cs b => hsel j oj cs b hoj) hQ hy h1
      have hfree' : ∀ k ok, ops[k]? = some ok → k ≠ i → (listed.setIfInBounds j true).getD k true = false →
          (∀ e ∈ ok.after, Region.binds md e = true → e.on ≠ i) → oi.apart ops ok = true := fun k ok hk hki hun hno => by
        refine hfree k ok hk hki ?_ hno
        by_cases hjk : j = k
        · subst hjk; exact hjun
        · rw [getD_set_ne true hjk] at hun; exact hun
      refine wpOp_mono (fun a' w' h3 => ⟨fun _ => h3.2.1 hjL, ih (listed.setIfInBounds j true) a' w' hfree' (ready_mono hr (Ne.symm hji)) (blocked_set hjbl hb) h3.1 (h3.2.1 hjL) ?_⟩) h2
      rw [Array.setIfInBounds_comm _ _ hji]
      exact h3.2.2
theorem wpAnyL_take {i : Nat} {oi : Oper} {v : Value} {fuel : Nat} {listed : Array Bool} {a : Act} {w : World} (bl : List Nat) (hi : ops[i]? = some oi)
    (hs : Region.noSelect ops = true) (hf : Region.free md ops listed i = true) (hr : (Region.ready md ops listed).contains i = true) (hb : blocked md ops listed i L bl = true)
    (hQ : ∀ c a w, Q (.panic c) (a.put oi.dst v) w → Q (.panic c) a w) (hy : YieldsIf P ops S oi v a) (hS : S w)
    (h : wpAnyL P md ops Q S L fuel (listed.setIfInBounds i true) (a.put oi.dst v) w) : wpAnyL P md ops Q S L (fuel + 1) listed a w :=
  wpAnyL_first hi (Region.noSelect_spec hs) hQ fuel listed a w (Region.free_spec hi hf) (by simpa using hr) hb hy hS h
theorem wpAnyL_one {i : Nat} {o : Oper} {fuel : Nat} {listed : Array Bool} {a : Act} {w : World} (hr : Region.ready md ops listed = [i]) (ho : ops[i]? = some o)
    (h : ∀ K' : Act → World → Prop, Shut (∀ a w, (i ≠ L → S w) → ((i ≠ L → S w) → wpAnyL P md ops Q S L fuel (listed.setIfInBounds i true) a w) → K' a w) → if Region.wanted o (yielded ops a.tmps) = true then Oper.wp P o a w K' Q else K' (a.put o.dst undef) w) :
    wpAnyL P md ops Q S L (fuel + 1) listed a w :=
  ⟨fun h0 => absurd (hr ▸ h0) (by simp), by
    rw [hr]
    intro j hj
    rcases List.mem_singleton.1 hj with rfl
    exact wpOp_step ho (fun K' hK => h K' (fun a w hS hW => hK a w ⟨hS, hW hS⟩))⟩
theorem wpAnyL_done {listed : Array Bool} {a : Act} {w : World} (hr : Region.ready md ops listed = []) (h : Q .normal a w) :
    ∀ fuel, wpAnyL P md ops Q S L fuel listed a w
  | 0 => ⟨hr, h⟩
  | _ + 1 => ⟨fun _ => h, by rw [hr]; simp⟩
theorem wp_region_L {id : Nat} {a : Act} {w : World} (L : Nat) (hm : P.follows .mixedOrders = true) (hS : S w.drew)
    (h : S w.drew → wpAnyL P .any ops Q S L ops.size (Array.replicate ops.size false) a w.drew) : (Code.region id ops true).wp P Q a w :=
  wp_region_any hm (wpAny_of_L _ _ _ _ (h hS))
theorem wp_store_row {op : Oper} {a : Act} {w : World} {K : Act → World → Prop} (ty : TypeId) (x y : Operand) (ho : op.op = .store ty x y) (g : Nat) (t : TypeId) (old cells : Array Value)
    (hx : a.eval x = .pointer (some ⟨g, 0, none⟩)) (hy : a.eval y = .agg cells) (hg : w.heap[g]? = some (.cells old t (0, 0))) (hi : (P.info? ty).map (·.size) = some cells.size)
    (hz : old.size = cells.size) (h1 : cells.all (·.oneCell') = true) (h : K (a.put op.dst undef) (w.setRow g cells)) : op.wp P a w K Q := by
  unfold Oper.wp execOp
  simp only [ho, hx, hy, Instr.storeAt, Instr.sureAddr, Sem.run_bind, Sem.run_pure, Result.andThen_ok, run_storeVar_row w g t ty old cells hg hi hz h1]
  exact h
end
end Go.Proofs.YtdpmpllbdoefdaaGreatDoor
namespace Go.Proofs.YtdpmpllbdoefdaaGreatDoor
open Go.RowKit
theorem Tryz.zero94 (w : World) : (zeroValue 122).run Tryz.prog w = .ok (.agg (cellsZ zero317).toArray) w := by kernel_rfl
theorem results_cell {fn : Func} {tmps : Array Value} {P : Program} {w : World} {t : Nat} {ty : TypeId} {a : Addr} {v : Value} (hf : fn.results = #[.cell t ty]) (ht : tmps[t]? = some (.pointer (some a))) (hl : (loadVar ty a).run P w = .ok v w) :
    (results fn tmps).run P w = .ok v w := by
  simp [results, hf, asAddr, ht, hl]
theorem row_of {P : Program} {ty : TypeId} (h : (P.underlying ty).map TypeDesc.isRow = some true) : ∃ d, P.underlying ty = some d ∧ d.isRow = true := by
  cases e : P.underlying ty with
  | none => rw [e] at h; cases h
  | some d => rw [e] at h; exact ⟨d, rfl, by simpa using h⟩
theorem Tryz.und94 : ∃ d, Tryz.prog.underlying 122 = some d ∧ d.isRow = true ∧ (Tryz.prog.info? 122).map (·.size) = some 317 := by
  obtain ⟨d, h1, h2⟩ := row_of (P := Tryz.prog) (ty := 122) (by kernel_rfl)
  exact ⟨d, h1, h2, by kernel_rfl⟩
theorem cntZ_zn {ps : List Pc} {out : List Nat} (hm : mays ps out) (i : Nat) : Zn (cntZ (ps.take i) zero317) (ps.take i).length := by
  have := Zn.cnt (ps.take i) out zero317 0 Zn.zero (mays_take hm i)
  rwa [Nat.zero_add] at this
theorem rangeAt_cells {w : World} {b : Nat} {cs : List Value} {T : TypeId} (h : w.heap[b]? = some (.cells cs.toArray T (0, 0))) : w.rangeAt b 0 cs := fun j v hv => by
  rw [Nat.zero_add]
  exact cell_of h (by simpa using hv)
set_option maxHeartbeats 1600000 in
set_option maxRecDepth 100000 in
theorem count_c (a : Option Addr) (D f n c : Nat) (ps : List Pc) (out : List Nat) (w : World) (ha : 0 < n → a = some ⟨D, f, none⟩) (hP : LiesP w D f ps) (hn : n = ps.length) (hn6 : n ≤ 65535) (hm : mays ps out) :
    Calls Tryz.prog 73 #[.slice a n c] w fun e w' => e = .returned (.agg (cellsZ (tally ps)).toArray) ∧ Fr (fun _ => False) w w' := by
  have hz := Tryz.zero94
  obtain ⟨zs, hzs⟩ : ∃ zs, zs = (cellsZ zero317).toArray := ⟨_, rfl⟩
  rw [← hzs] at hz
  obtain ⟨R, hR⟩ : ∃ R, R = w.heap.size := ⟨_, rfl⟩
  obtain ⟨w1, hw1⟩ : ∃ w1, w1 = w.alloc (.cells zs 122) := ⟨_, rfl⟩
  obtain ⟨A, hA⟩ : ∃ A, A = w1.heap.size := ⟨_, rfl⟩
  obtain ⟨w2, hw2⟩ : ∃ w2, w2 = w1.alloc (.cells zs 122) := ⟨_, rfl⟩
  have hF1 : Fr (fun _ => False) w w1 := by rw [hw1]; exact Fr.of_alloc _ _
  have hF2 : Fr (fun _ => False) w1 w2 := by rw [hw2]; exact Fr.of_alloc _ _
  have hbR : w2.heap[R]? = some (.cells zs 122 (0, 0)) := cells_at (by rw [hw1]; exact heap_alloc_at hR) hF2 (fun e => e)
  have hbA : w2.heap[A]? = some (.cells zs 122 (0, 0)) := by rw [hw2]; exact heap_alloc_at hA
  have hTA : Tl w2 A zero317 := ⟨by rw [← hzs]; exact hbA, zero317_len⟩
  have hRA : R < A := by rw [hR, hA, hw1]; simp
  have HA' : Hid (A = w.heap.size + 1) := by show _ = _; rw [hA, hw1]; simp
  have hwR : w.heap.size ≤ R := by omega
  have hDl : ∀ v j, w.cell? ⟨D, j, none⟩ = some v → D < R := fun v j hv => by rw [hR]; exact cell_lt hv
  have HDl := hide hDl
  have HP := hide hP
  have Ha := hide ha
  have Hn := hide hn
  have Hm := hide hm
  have HTA := hide hTA
  have HbR := hide hbR
  have HF2 := hide (hF1.join hF2)
  have Hw1 := hide hw1
  have Hw2 := hide hw2
  have HR := hide hR
  have HA := hide hA
  have Hzs := hide hzs
  have hni : (n : Int) ≤ 65535 := by omega
  clear hDl hP ha hn hm hTA hbR hbA hF1 hF2 hw1 hw2 hR hA hzs
  go_enter Tryz.func73, Tryz.ntmps73
  go_wp2_with fail
  rw [← Hw1.out, ← Hw2.out, ← HA'.out, ← HR.out]
  go_loopw [5, 8] (fun _ ti wr => ∃ i : Nat, ti = .int .i64 i ∧ i ≤ n ∧ Tl wr A (cntZ (ps.take i) zero317) ∧ Fr (fun k => k = A) w2 wr) (fun _ ti _ => n - (intOf ti).toNat)
  case atStart => exact ⟨0, rfl, by omega, HTA.out, Fr.refl _ _⟩
  case round =>
    obtain ⟨i, rfl, hi, hT, hF⟩ := hrel
    by_cases hlt : i < n
    · obtain rfl := Ha.out (by omega)
      have hlti : (i : Int) < (n : Int) := by omega
      have hil : i < ps.length := by have := Hn.out; omega
      obtain ⟨p, hpv⟩ : ∃ p, p = ps.getD i ⟨0, 0, 0⟩ := ⟨_, rfl⟩
      have hcell : ∀ k, k < 3 → wr.cell? ⟨D, f + i * 3 + k, none⟩ = (pcCells p)[k]? := by
        intro k hk
        have h1 := HP.out i hil k hk
        rw [← hpv] at h1
        rw [← h1]
        have hk' : k < (pcCells p).length := hk
        have hv : w.cell? ⟨D, f + i * 3 + k, none⟩ = some ((pcCells p)[k]) := by rw [h1]; exact List.getElem?_eq_getElem hk'
        have hlD := HDl.out _ _ hv
        exact (cell_blk (hF.block D (Nat.lt_of_lt_of_le (cell_lt hv) HF2.out.size) (by omega))).trans (cell_blk (HF2.out.block D (cell_lt hv) (fun e => e)))
      have d0 : wr.cell? ⟨D, f + i * 3, none⟩ = some (.int .u8 (p.lit : Int)) := hcell 0 (by omega)
      have d1 : wr.cell? ⟨D, f + i * 3 + 1, none⟩ = some (.int .u16 (p.len : Int)) := hcell 1 (by omega)
      have d2 : wr.cell? ⟨D, f + i * 3 + 2, none⟩ = some (.int .u16 (p.back : Int)) := hcell 2 (by omega)
      have hmay := mays_at Hm.out hil
      rw [← hpv] at hmay
      have hnext : cntZ (ps.take (i + 1)) zero317 = addZ (cntZ (ps.take i) zero317) p := by rw [take_pc ps i hil, cntZ_snoc, ← hpv]
      have Hnext := hide hnext
      have hZ := cntZ_zn Hm.out i
      have hZb : ∀ j, 0 ≤ at0 (cntZ (ps.take i) zero317) j ∧ at0 (cntZ (ps.take i) zero317) j ≤ 10000000 := fun j => by
        have := hZ.all j
        have hl : (ps.take i).length ≤ i := List.length_take_le _ _
        exact ⟨this.1, by omega⟩
      have HZb := hide hZb
      have Hmay := hide hmay
      have HT := hide hT
      have HF := hide hF
      clear hcell hmay hnext hZ hZb hT hF hpv
      obtain ⟨lt, l, b⟩ := p
      simp only at d0 d1 d2
      go_wp2_with fail
      obtain ⟨w3, hw3⟩ : ∃ w3, w3 = wr.alloc (.cells #[.int .u8 (lt : Int), .int .u16 (l : Int), .int .u16 (b : Int)] 113) := ⟨_, rfl⟩
      have hF3 : Fr (fun _ => False) wr w3 := by rw [hw3]; exact Fr.of_alloc _ _
      rw [← hw3]
      have HF3 := hide hF3
      clear hw3 hF3
      refine (calls_args (tallyAdd_c A ⟨lt, l, b⟩ _ _ w3 (HT.out.fr HF3.out (fun e => e)) Hmay.out HZb.out) (by rfl)).mono ?_
      rintro e w4 ⟨rfl, hT4, hF4⟩
      have HT4 := hide hT4
      have HF4 := hide ((HF.out.trans (HF3.out.trans hF4)).mono (S' := fun k => k = A) fun _ _ e => by
        rcases e with e | e | e
        · exact e
        · exact e.elim
        · exact e)
      clear hT4 hF4
      go_wp2_with fail
      go_roundw
      case rel =>
        refine ⟨i + 1, by go_num, by omega, ?_, HF4.out⟩
        rw [Hnext.out]
        exact HT4.out
      case measure => simp [intOf]; omega
    · obtain rfl : i = n := by omega
      have e : ps.take i = ps := by rw [Hn.out, List.take_length]
      rw [e] at hT
      have hZ := cntZ_zn Hm.out ps.length
      rw [List.take_length] at hZ
      have t1 := hT.cell (i := 256) (by omega)
      have t2 := frozen_of (o := 256) hT.blk
      have z1 := hZ.low 256
      have z2 := hZ.high 256 (by omega)
      have z3 : at0 (cntZ ps zero317) 256 ≤ 65535 := by have := Hn.out; omega
      obtain ⟨x, hx⟩ : ∃ x, x = at0 (cntZ ps zero317) 256 := ⟨_, rfl⟩
      rw [← hx] at t1 z1 z3
      have hT5 := hT.set 256 1
      rw [← hx] at hT5
      have HT5 := hide hT5
      have HF := hide hF
      clear hT hF hZ z2 hx hT5 e hz
      go_upto_region 8 with fail
      obtain ⟨w5, hw5⟩ : ∃ w5, w5 = wr.setCell ⟨A, 256, none⟩ (.int .i64 (x + 1)) := ⟨_, rfl⟩
      have HT6 : Hid (Tl w5 A (tally ps)) := by show Tl _ _ _; rw [hw5]; exact HT5.out
      have HG5 : Hid (Fr (fun k => k = A) w2 w5) := by show Fr _ _ _; rw [hw5]; exact HF.out.join (Fr.of_setCell _ ⟨A, 256, none⟩ _)
      rw [← hw5]
      clear hw5 t1 t2
      obtain ⟨L, hL⟩ : ∃ L, L = cellsZ (tally ps) := ⟨_, rfl⟩
      have hsz : L.length = 317 := by rw [hL]; simp [cellsZ, tally_len]
      have hone : L.toArray.all (·.oneCell') = true := by rw [hL]; exact all_oneCell_toArray cellsZ_one
      have hblk : w5.heap[A]? = some (.cells L.toArray 122 (0, 0)) := by rw [hL]; exact HT6.out.blk
      have hblR : w5.heap[R]? = some (.cells zs 122 (0, 0)) := cells_at HbR.out HG5.out (by omega)
      have hzsz : zs.size = L.toArray.size := by rw [Hzs.out]; simp [cellsZ, zero317_len, hsz]
      obtain ⟨d, u1, u2, u3⟩ := Tryz.und94
      rw [← hsz] at u3
      have HL := hide hL
      have HbR5 := hide hblR
      have Hblk := hide hblk
      have U1 := hide u1
      have U3 := hide u3
      have Hone := hide hone
      clear hL u1 u3 hblR hblk hone
      apply wp_region_lit
      refine wpList_load_mid rfl 122 (.tmp 3) rfl A 0 rfl L d (rangeAt_cells Hblk.out) U1.out u2 U3.out ?_
      refine wpList_plain rfl fun K hK => wp_store_row 122 (.tmp 2) (.tmp 21) rfl R 122 zs L.toArray rfl rfl HbR5.out (by rw [List.size_toArray]; exact U3.out) hzsz Hone.out ?_
      refine hK _ _ (wpList_nil ?_)
      have hfin := setRow_heap w5 R zs L.toArray 122 (0, 0) HbR5.out
      have hfr : Fr (fun k => k = R) w5 (w5.setRow R L.toArray) := ⟨rfl, rfl, rfl, by simp, fun j _ hj => setRow_other _ _ _ _ hj⟩
      generalize w5.setRow R L.toArray = w6 at *
      have Hfin := hide hfin
      have HFr : Hid (Fr (fun _ => False) w w6) := ((HF2.out.trans HG5.out).trans hfr).mono fun j hj e => by
        rcases e with (e | e) | e
        · exact e
        · omega
        · omega
      clear hK K hfin hfr
      go_wp2
      refine bodyPost_ret (v := .agg L.toArray) ?_ rfl ⟨by rw [HL.out], HFr.out⟩
      have hld := run_loadVar_mid w6 R 0 122 L d (rangeAt_cells Hfin.out) U1.out u2 U3.out
      exact results_cell (t := 2) Tryz.results73 rfl hld
end Go.Proofs.YtdpmpllbdoefdaaGreatDoor
namespace Go.Proofs.YtdpmpllbdoefdaaGreatDoor
open Go.RowKit
def headOk (a b : Nat) : Bool := decide (a % 16 = 8) && (decide (a / 16 ≤ 7) && (decide ((a * 256 + b) % 31 = 0) && decide (b / 32 % 2 = 0)))
theorem u8_and15 (a : Nat) (h : a < 256) : bits .and .u8 (a : Int) 15 = ((a % 16 : Nat) : Int) := by
  have all : ∀ x : Fin 256, bits .and .u8 (x.1 : Int) 15 = ((x.1 % 16 : Nat) : Int) := by decide +kernel
  exact all ⟨a, h⟩
theorem u8_and32 (a : Nat) (h : a < 256) : bits .and .u8 (a : Int) 32 = ((a / 32 % 2 * 32 : Nat) : Int) := by
  have all : ∀ x : Fin 256, bits .and .u8 (x.1 : Int) 32 = ((x.1 / 32 % 2 * 32 : Nat) : Int) := by decide +kernel
  exact all ⟨a, h⟩
theorem retb {a b : Bool} (h : a = b) : Ending.returned (.bool a) = .returned (.bool b) := by rw [h]
set_option maxHeartbeats 400000 in
set_option maxRecDepth 100000 in
theorem mayBeHead_c (a b : Nat) (ha : a < 256) (hb : b < 256) (w : World) :
    Calls Tryz.prog 13 #[.int .u8 (a : Int), .int .u8 (b : Int)] w fun e w' => e = .returned (.bool (headOk a b)) ∧ w = w' := by
  have h1 := u8_and15 a ha
  have h4 := u8_and32 b hb
  have h3 := or_i64' 8 b (a * 256) (by omega) (by omega) (by omega)
  rw [show ((a * 256 : Nat) : Int) = (a : Int) * 256 by omega] at h3
  go_enter Tryz.func13, Tryz.ntmps13
  go_wp2
  · next g1 g2 g3 =>
    go_ret
    refine ⟨retb ?_, rfl⟩
    simp only [headOk, decide_eq_true (show a % 16 = 8 by omega), decide_eq_true (show a / 16 ≤ 7 by omega), decide_eq_true (show (a * 256 + b) % 31 = 0 by omega), Bool.true_and]
    rw [Bool.eq_iff_iff]
    simp only [beq_iff_eq, decide_eq_true_eq]
    omega
  · next g1 g2 g3 =>
    go_ret
    refine ⟨retb ?_, rfl⟩
    simp only [headOk, decide_eq_false (show ¬ (a * 256 + b) % 31 = 0 by omega), Bool.false_and, Bool.and_false]
    try rfl
  · next g1 g2 =>
    go_ret
    refine ⟨retb ?_, rfl⟩
    simp only [headOk, decide_eq_false (show ¬ a / 16 ≤ 7 by omega), Bool.false_and, Bool.and_false]
    try rfl
  · next g1 =>
    go_ret
    refine ⟨retb ?_, rfl⟩
    simp only [headOk, decide_eq_false (show ¬ a % 16 = 8 by omega), Bool.false_and]
    try rfl
def sumB (s : Nat) : List Nat := [s / 16777216 % 256, s / 65536 % 256, s / 256 % 256, s % 256]
theorem Lz.fr {w w' : World} {a : Option Addr} {bs : List Nat} (h : Lz w a bs) (F : Fr (fun _ => False) w w') : Lz w' a bs := ⟨h.1, fun j hj => by
  obtain ⟨ad, e, hc⟩ := h.2 j hj
  refine ⟨ad, e, ?_⟩
  rw [cell_blk (F.block _ (cell_lt hc) (fun h => h))]
  exact hc⟩
theorem alloc_here (w : World) (o : Obj) : (w.alloc o).heap[w.heap.size]? = some o := by
  show (w.heap.push o)[w.heap.size]? = some o
  simp
theorem Tryz.und50 : ∃ d, Tryz.prog.underlying 50 = some d ∧ d.isRow = true ∧ (Tryz.prog.info? 50).map (·.size) = some 4 := by
  obtain ⟨d, h1, h2⟩ := row_of (P := Tryz.prog) (ty := 50) (by kernel_rfl)
  exact ⟨d, h1, h2, by kernel_rfl⟩
set_option maxHeartbeats 400000 in
set_option maxRecDepth 100000 in
theorem sumOf_c (a : Option Addr) (c : Nat) (bs : List Nat) (w : World) (hl : Lz w a bs) (hlen : bs.length ≤ 2147483648) :
    Calls Tryz.prog 19 #[.slice a bs.length c] w fun e w' => e = .returned (.agg (cellsOf (sumB (adler 1 bs))).toArray) ∧ Fr (fun _ => False) w w' := by
  have Hs := hide (adler_lt 1 bs (by decide))
  go_enter Tryz.func19, Tryz.ntmps19
  go_wp2_with fail
  refine (adler_c a c bs _ (hl.fr (Fr.of_alloc w _)) hlen).mono ?_
  rintro e w1 ⟨rfl, rfl⟩
  obtain ⟨s, es⟩ : ∃ s, s = adler 1 bs := ⟨_, rfl⟩
  rw [← es] at Hs ⊢
  have Es := hide es
  clear es
  have hs : s < 4294967296 := Hs.out
  have q1 : IntKind.u8.wrap ((s : Int) / 16777216) = ((s / 16777216 % 256 : Nat) : Int) := by rw [IntKind.wrap_u8']; omega
  have q2 : IntKind.u8.wrap ((s : Int) / 65536) = ((s / 65536 % 256 : Nat) : Int) := by rw [IntKind.wrap_u8']; omega
  have q3 : IntKind.u8.wrap ((s : Int) / 256) = ((s / 256 % 256 : Nat) : Int) := by rw [IntKind.wrap_u8']; omega
  have q4 : IntKind.u8.wrap (s : Int) = ((s % 256 : Nat) : Int) := by rw [IntKind.wrap_u8']; omega
  go_wp2
  obtain ⟨d, u1, u2, u3⟩ := Tryz.und50
  have hL : (w.alloc (Obj.cells (cellsOf (sumB s)).toArray 50)).heap[w.heap.size]? = some (.cells (cellsOf (sumB s)).toArray 50 (0, 0)) :=
    alloc_here w _
  have hld := run_loadVar_mid (w.alloc (Obj.cells (cellsOf (sumB s)).toArray 50)) w.heap.size 0 50 (cellsOf (sumB s)) d (rangeAt_cells hL) u1 u2 u3
  exact bodyPost_ret (v := .agg (cellsOf (sumB s)).toArray) (results_cell (t := 2) Tryz.results19 rfl hld) rfl ⟨by rw [Es.out], Fr.of_alloc w _⟩
end Go.Proofs.YtdpmpllbdoefdaaGreatDoor
