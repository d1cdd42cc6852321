/-
  depth: DepthFits.
-/
import Derived.Test.YthdilabmajaehaaXb
import Derived.Test.YthdilabmajaehaaDc
namespace Go.Proofs.Ythdilabmajaehaa
open Go.RowKit

/-- Both Fits answer alike. -/
theorem fits_both (W H f : Int) (a : Option Addr) (n c : Nat) (px : List Nat) (hp : px.length = n) (hc : n ≤ c) : ∃ V : Bool, (∀ w, Lies w a px → Calls Try.prog 21 #[rasV W H a n c, .int .i64 f] w fun e w' => Fr (fun _ => False) w w' ∧ e = .returned (.bool V)) ∧ (∀ w, Lies w a px → Calls Try.prog 22 #[rasV W H a n c, .int .i64 f] w fun e w' => Fr (fun _ => False) w w' ∧ e = .returned (.bool V)) := by
  cases hmay : mayB W H n with
  | false => exact ⟨false, fun w _ => fits_no W H f a n c w hmay, fun w _ => rfits_out W H f a n c w (Or.inl hmay)⟩
  | true =>
    obtain ⟨m, hm, hnm, hmb, hm1⟩ := may_nums hmay
    by_cases f1 : f < 1
    · refine ⟨false, fun w hl => ?_, fun w _ => rfits_out W H f a n c w (Or.inr (Or.inl f1))⟩
      have h := fits_yes W H f a n c m px w hl hp hc hmay hm
      rw [show fitsV f px m = false by unfold fitsV; rw [if_neg (by omega), if_neg (by omega), if_neg (by omega)]] at h
      exact h
    · by_cases f3 : 3 < f
      · refine ⟨false, fun w hl => ?_, fun w _ => rfits_out W H f a n c w (Or.inr (Or.inr f3))⟩
        have h := fits_yes W H f a n c m px w hl hp hc hmay hm
        rw [show fitsV f px m = false by unfold fitsV; rw [if_neg (by omega), if_neg (by omega), if_neg (by omega)]] at h
        exact h
      · exact ⟨_, fun w hl => fits_yes W H f a n c m px w hl hp hc hmay hm, fun w hl => rfits_yes W H f a n c m px w hl hp hc hmay hm f1 f3⟩

set_option maxHeartbeats 800000 in
set_option maxRecDepth 100000 in
theorem fits_law (W H : Int) (a : Option Addr) (n c : Nat) (px : List Nat) (f : Int) (w : World) (hl : Lies w a px) (hp : px.length = n) (hc : n ≤ c) :
    Calls Try.prog 5 #[rasV W H a n c, .int .i64 f] w fun e w' => e = .returned (.bool true) ∧ Fr (fun _ => False) w w' := by
  obtain ⟨V, hx, hy⟩ := fits_both W H f a n c px hp hc
  obtain ⟨w1, hw1⟩ : ∃ w1, w1 = w.alloc (.cells #[.int .i64 W, .int .i64 H, .slice a n c] 24) := ⟨_, rfl⟩
  have hb1 : w1.heap[w.heap.size]? = some (.cells #[.int .i64 W, .int .i64 H, .slice a n c] 24 (0, 0)) := by rw [hw1]; exact heap_alloc_at rfl
  have hF1 : Fr (fun _ => False) w w1 := by rw [hw1]; exact Fr.of_alloc _ _
  have HA := hide (awake9_c w1)
  have HX := hide hx
  have HY := hide hy
  have HL := hide (hl.keep0 hF1)
  have Hb2 := hide hb1
  have HF2 := hide hF1
  have Hw1 := hide hw1
  have k2 := cell_of (o := 2) hb1 rfl
  clear hl hp hc hx hy hb1 hF1 hw1
  go_enter Try.func5, Try.ntmps5
  go_wp2_with fail
  rw [← Hw1.out]
  refine HA.out.mono ?_
  rintro e w2 ⟨rfl, rfl⟩
  have HL2 := HL
  by_cases hbig : (8000 : Int) < (n : Int)
  · go_wp2_with fail
    go_ret
    exact ⟨rfl, HF2.out⟩
  go_upto_region 5 with fail
  clear k2
  refine wp_region_held_drew (S := fun W' => Fr (fun _ => False) w2 W') (by kernel_rfl) (by exact Fr.drew1 _ w2) (fun hHeld => ?_)
  obtain ⟨v0, hv0⟩ : ∃ W, W = w2.drew := ⟨_, rfl⟩
  rw [← hv0] at hHeld ⊢
  clear hv0
  refine wpAnyH_take (i := 0) (v := ?v0_1) rfl (by kernel_rfl) (by kernel_rfl) (by kernel_rfl) (fun _ _ _ h => h) (Or.inl ⟨by rfl, ?hy0_1⟩) hHeld ?rest0_1
  case hy0_1 => (intro W hSw; (try dsimp only at hSw); have hcs := cells_at Hb2.out hSw (fun e => e); have k0 := cell_of (o := 0) hcs rfl; have k1 := cell_of (o := 1) hcs rfl; have k2 := cell_of (o := 2) hcs rfl; go_simp; all_goals (with_reducible rfl))
  change wpAnyH _ _ _ _ _ _ _ (Act.put _ (some 11) _) _
  simp only [Act.put, List.setIfInBounds_toArray, List.set_cons_zero, List.set_cons_succ]
  refine wpAnyH_take (i := 1) (v := ?v1_1) rfl (by kernel_rfl) (by kernel_rfl) (by kernel_rfl) (fun _ _ _ h => h) (Or.inl ⟨by rfl, ?hy1_1⟩) hHeld ?rest1_1
  case hy1_1 => (intro W hSw; (try dsimp only at hSw); have hcs := cells_at Hb2.out hSw (fun e => e); have k0 := cell_of (o := 0) hcs rfl; have k1 := cell_of (o := 1) hcs rfl; have k2 := cell_of (o := 2) hcs rfl; go_simp; all_goals (with_reducible rfl))
  change wpAnyH _ _ _ _ _ _ _ (Act.put _ (some 12) _) _
  simp only [Act.put, List.setIfInBounds_toArray, List.set_cons_zero, List.set_cons_succ]
  refine wpAnyH_take (i := 3) (v := ?v3_1) rfl (by kernel_rfl) (by kernel_rfl) (by kernel_rfl) (fun _ _ _ h => h) (Or.inl ⟨by rfl, ?hy3_1⟩) hHeld ?rest3_1
  case hy3_1 => (intro W hSw; (try dsimp only at hSw); have hcs := cells_at Hb2.out hSw (fun e => e); have k0 := cell_of (o := 0) hcs rfl; have k1 := cell_of (o := 1) hcs rfl; have k2 := cell_of (o := 2) hcs rfl; go_simp; all_goals (with_reducible rfl))
  change wpAnyH _ _ _ _ _ _ _ (Act.put _ (some 14) _) _
  simp only [Act.put, List.setIfInBounds_toArray, List.set_cons_zero, List.set_cons_succ]
  refine wpAnyH_take (i := 4) (v := ?v4_1) rfl (by kernel_rfl) (by kernel_rfl) (by kernel_rfl) (fun _ _ _ h => h) (Or.inl ⟨by rfl, ?hy4_1⟩) hHeld ?rest4_1
  case hy4_1 => (intro W hSw; (try dsimp only at hSw); have hcs := cells_at Hb2.out hSw (fun e => e); have k0 := cell_of (o := 0) hcs rfl; have k1 := cell_of (o := 1) hcs rfl; have k2 := cell_of (o := 2) hcs rfl; go_simp; all_goals (with_reducible rfl))
  change wpAnyH _ _ _ _ _ _ _ (Act.put _ (some 15) _) _
  simp only [Act.put, List.setIfInBounds_toArray, List.set_cons_zero, List.set_cons_succ]
  refine wpAnyH_ready (rs := [2]) (by kernel_rfl) (by simp) ?_
  refine (AllReadyH.cons rfl (fun K hK => ?_) AllReadyH.nil)
  try simp only [List.getElem_toArray, List.getElem_cons_succ, List.getElem_cons_zero]
  go_simp
  refine (HX.out v0 (HL2.out.keep0 hHeld)).mono ?_
  rintro e v1 ⟨hF1, rfl⟩
  refine hK.out _ _ (hHeld.join hF1) (fun hHeld => ?_)
  clear hK K
  refine wpAnyH_ready (rs := [5]) (by kernel_rfl) (by simp) ?_
  refine (AllReadyH.cons rfl (fun K hK => ?_) AllReadyH.nil)
  try simp only [List.getElem_toArray, List.getElem_cons_succ, List.getElem_cons_zero]
  go_simp
  refine (HY.out v1 (HL2.out.keep0 hHeld)).mono ?_
  rintro e v2 ⟨hF2, rfl⟩
  refine hK.out _ _ (hHeld.join hF2) (fun hHeld => ?_)
  clear hK K
  refine wpAnyH_take (i := 6) (v := ?v6_2) rfl (by kernel_rfl) (by kernel_rfl) (by kernel_rfl) (fun _ _ _ h => h) (Or.inl ⟨by rfl, ?hy6_2⟩) hHeld ?rest6_2
  case hy6_2 => (intro W hSw; (try dsimp only at hSw); have hcs := cells_at Hb2.out hSw (fun e => e); have k0 := cell_of (o := 0) hcs rfl; have k1 := cell_of (o := 1) hcs rfl; have k2 := cell_of (o := 2) hcs rfl; go_simp; all_goals (with_reducible rfl))
  change wpAnyH _ _ _ _ _ _ _ (Act.put _ (some 17) _) _
  simp only [Act.put, List.setIfInBounds_toArray, List.set_cons_zero, List.set_cons_succ]
  refine wpAnyH_ready (rs := [7]) (by kernel_rfl) (by simp) ?_
  refine (AllReadyH.cons rfl (fun K hK => ?_) AllReadyH.nil)
  try simp only [List.getElem_toArray, List.getElem_cons_succ, List.getElem_cons_zero]
  go_simp
  refine hK.out _ _ hHeld (fun hHeld => ?_)
  clear hK K
  refine wpAnyH_done (by kernel_rfl) ?_ _
  go_wp2_with fail
  go_ret
  exact ⟨by simp, HF2.out.join hHeld⟩
end Go.Proofs.Ythdilabmajaehaa
