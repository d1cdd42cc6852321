/-
  lzw: the Reader goes on by a code.
-/
import Derived.Test.YtdbgolklgiadeaaXt
import Derived.Test.YtdbgolklgiadeaaHg
namespace Go.Proofs.Ytdbgolklgiadeaa
open Go.RowKit

set_option maxHeartbeats 3200000 in
set_option maxRecDepth 100000 in
/-- Behind a row: a code. -/
theorem advance_code (lo M B : Nat) (bs : List Nat) (k most : Nat) (q : Rq) (ra : Option Addr) (rc : Nat) (oa : Option Addr) (oc : Nat) (w : World) (hk : 2 ≤ k ∧ k ≤ 8) (h : Rx w lo M B bs k most q ra rc oa oc) (hlt : q.lt = 0) (hs : q.p + wid k q.rs.length ≤ 8 * bs.length) (Q : Ending → World → Prop)
    (hQ : ∀ w2, Rx w2 lo M B bs k most { q with p := q.p + wid k q.rs.length } ra rc oa oc → Fr (fun j => j = B) w w2 → Calls Try.prog 43 #[.pointer (some ⟨M, 0, none⟩), .int .i64 ((lowBits (leNum bs) q.p (wid k q.rs.length) : Nat) : Int)] w2 fun e w' => (∃ b, e = .returned (.bool b)) ∧ Q e w') :
    Calls Try.prog 32 #[.pointer (some ⟨M, 0, none⟩)] w Q := by
  have m10 : w.cell? ⟨M, 10, none⟩ = some (.int .i64 0) := by
    have := cell_of (o := 10) h.obj rfl
    rw [show (0 : Int) = (q.lt : Int) by omega]
    exact this
  have m0 : w.cell? ⟨M, 0, none⟩ = some (.pointer (some ⟨B, 0, none⟩)) := cell_of (o := 0) h.obj rfl
  have m5 : w.cell? ⟨M, 5, none⟩ = some (.int .i64 ((wid k q.rs.length : Nat) : Int)) := cell_of (o := 5) h.obj rfl
  have hw12 := wid_le k hk q.rs.length
  obtain ⟨W, hW⟩ : ∃ W, W = wid k q.rs.length := ⟨_, rfl⟩
  rw [← hW] at m5 hs hw12 hQ
  have hpo := h.rd.epos
  have hbl := h.rd.elen
  have HR := hide h.rd
  have H := hide h
  have hlti : ¬ 8 * (bs.length : Int) - (q.p : Int) < (W : Int) := by omega
  obtain ⟨N, hN⟩ : ∃ N : Int, N = 8 * (bs.length : Int) - (q.p : Int) := ⟨_, rfl⟩
  have HLf : Hid (∀ d, Calls Try.prog 41 #[.pointer (some ⟨B, 0, none⟩)] (w.drewN d) fun e w' => e = .returned (.int .i64 N) ∧ ∃ d', w' = (w.drewN d).drewN d') := fun d => by rw [hN]; exact low_left (w.drewN d) lo M B bs q.p (.slice none 0 0) 0 (HR.out.drewN d)
  have HTk : Hid (∀ wd, Fr (fun _ => False) w wd → Calls Try.prog 44 #[.pointer (some ⟨B, 0, none⟩), .int .i64 (W : Int)] wd fun e w' => e = .returned (.int .i64 (lowBits (leNum bs) q.p W : Nat)) ∧ Rd 84 w' lo M B bs (q.p + W) (.slice none 0 0) 0 ∧ Fr (fun k => k = B) wd w') := fun wd F => low_take wd lo M B bs q.p W (.slice none 0 0) 0 (HR.out.keep F (fun _ _ _ h => h)) (by omega) hs
  rw [← hN] at hlti
  have HQ := hide hQ
  have HW := hide hW
  clear h hW hN hs hQ
  go_enter Try.func32, Try.ntmps32
  go_upto_region 3 with fail
  refine wp_region_held_drew (S := fun W' => W'.cell? ⟨M, 0, none⟩ = some (.pointer (some ⟨B, 0, none⟩)) ∧ W'.cell? ⟨M, 5, none⟩ = some (.int .i64 (W : Int))) (by kernel_rfl) ⟨m0, m5⟩ (fun hHeld => ?_)
  refine wpAnyH_take (i := 0) (v := ?v0) rfl (by kernel_rfl) (by kernel_rfl) (by kernel_rfl) (fun _ _ _ h => h) (Or.inl ⟨by rfl, ?hy0⟩) hHeld ?rest0
  case hy0 => (intro W hSw; (try dsimp only at hSw); obtain ⟨s0, s5⟩ := hSw; go_simp; all_goals (with_reducible rfl))
  change wpAnyH _ _ _ _ _ _ _ (Act.put _ (some 10) _) _
  simp only [Act.put, List.setIfInBounds_toArray, List.set_cons_zero, List.set_cons_succ]
  refine wpAnyH_take (i := 5) (v := ?v5) rfl (by kernel_rfl) (by kernel_rfl) (by kernel_rfl) (fun _ _ _ h => h) (Or.inl ⟨by rfl, ?hy5⟩) hHeld ?rest5
  case hy5 => (intro W hSw; (try dsimp only at hSw); obtain ⟨s0, s5⟩ := hSw; go_simp; all_goals (with_reducible rfl))
  change wpAnyH _ _ _ _ _ _ _ (Act.put _ (some 15) _) _
  simp only [Act.put, List.setIfInBounds_toArray, List.set_cons_zero, List.set_cons_succ]
  refine wpAnyH_take (i := 1) (v := ?v1) rfl (by kernel_rfl) (by kernel_rfl) (by kernel_rfl) (fun _ _ _ h => h) (Or.inl ⟨by rfl, ?hy1⟩) hHeld ?rest1
  case hy1 => (intro W hSw; (try dsimp only at hSw); obtain ⟨s0, s5⟩ := hSw; go_simp; all_goals (with_reducible rfl))
  change wpAnyH _ _ _ _ _ _ _ (Act.put _ (some 11) _) _
  simp only [Act.put, List.setIfInBounds_toArray, List.set_cons_zero, List.set_cons_succ]
  refine wpAnyH_take (i := 6) (v := ?v6) rfl (by kernel_rfl) (by kernel_rfl) (by kernel_rfl) (fun _ _ _ h => h) (Or.inl ⟨by rfl, ?hy6⟩) hHeld ?rest6
  case hy6 => (intro W hSw; (try dsimp only at hSw); obtain ⟨s0, s5⟩ := hSw; go_simp; all_goals (with_reducible rfl))
  change wpAnyH _ _ _ _ _ _ _ (Act.put _ (some 16) _) _
  simp only [Act.put, List.setIfInBounds_toArray, List.set_cons_zero, List.set_cons_succ]
  refine wpAnyH_take (i := 2) (v := ?v2) rfl (by kernel_rfl) (by kernel_rfl) (by kernel_rfl) (fun _ _ _ h => h) (Or.inl ⟨by rfl, ?hy2⟩) hHeld ?rest2
  case hy2 => (intro W hSw; (try dsimp only at hSw); obtain ⟨s0, s5⟩ := hSw; go_simp; all_goals (with_reducible rfl))
  change wpAnyH _ _ _ _ _ _ _ (Act.put _ (some 12) _) _
  simp only [Act.put, List.setIfInBounds_toArray, List.set_cons_zero, List.set_cons_succ]
  refine wpAnyH_take (i := 7) (v := ?v7) rfl (by kernel_rfl) (by kernel_rfl) (by kernel_rfl) (fun _ _ _ h => h) (Or.inl ⟨by rfl, ?hy7⟩) hHeld ?rest7
  case hy7 => (intro W hSw; (try dsimp only at hSw); obtain ⟨s0, s5⟩ := hSw; go_simp; all_goals (with_reducible rfl))
  change wpAnyH _ _ _ _ _ _ _ (Act.put _ (some 17) _) _
  simp only [Act.put, List.setIfInBounds_toArray, List.set_cons_zero, List.set_cons_succ]
  refine wpAnyH_take (i := 3) (v := ?v3) rfl (by kernel_rfl) (by kernel_rfl) (by kernel_rfl) (fun _ _ _ h => h) (Or.inl ⟨by rfl, ?hy3⟩) hHeld ?rest3
  case hy3 => (intro W hSw; (try dsimp only at hSw); obtain ⟨s0, s5⟩ := hSw; go_simp; all_goals (with_reducible rfl))
  change wpAnyH _ _ _ _ _ _ _ (Act.put _ (some 13) _) _
  simp only [Act.put, List.setIfInBounds_toArray, List.set_cons_zero, List.set_cons_succ]
  refine wpAnyH_take (i := 8) (v := ?v8) rfl (by kernel_rfl) (by kernel_rfl) (by kernel_rfl) (fun _ _ _ h => h) (Or.inl ⟨by rfl, ?hy8⟩) hHeld ?rest8
  case hy8 => (intro W hSw; (try dsimp only at hSw); obtain ⟨s0, s5⟩ := hSw; go_simp; all_goals (with_reducible rfl))
  change wpAnyH _ _ _ _ _ _ _ (Act.put _ (some 18) _) _
  simp only [Act.put, List.setIfInBounds_toArray, List.set_cons_zero, List.set_cons_succ]
  refine wpAnyH_take (i := 9) (v := ?v9) rfl (by kernel_rfl) (by kernel_rfl) (by kernel_rfl) (fun _ _ _ h => h) (Or.inl ⟨by rfl, ?hy9⟩) hHeld ?rest9
  case hy9 => (intro W hSw; (try dsimp only at hSw); obtain ⟨s0, s5⟩ := hSw; go_simp; all_goals (with_reducible rfl))
  change wpAnyH _ _ _ _ _ _ _ (Act.put _ (some 19) _) _
  simp only [Act.put, List.setIfInBounds_toArray, List.set_cons_zero, List.set_cons_succ]
  refine wpAnyH_ready (rs := [4]) (by kernel_rfl) (by simp) ?_
  refine AllReadyH.cons rfl (fun K hK => ?_) AllReadyH.nil
  try simp only [List.getElem_toArray, List.getElem_cons_succ, List.getElem_cons_zero]
  go_simp
  refine (HLf.out 1).mono ?_
  rintro e w1 ⟨rfl, d, rfl⟩
  refine hK.out _ _ hHeld (fun hHeld => ?_)
  clear hK K
  refine wpAnyH_take (i := 10) (v := ?v10) rfl (by kernel_rfl) (by kernel_rfl) (by kernel_rfl) (fun _ _ _ h => h) (Or.inl ⟨by rfl, ?hy10⟩) hHeld ?rest10
  case hy10 => (intro W hSw; (try dsimp only at hSw); obtain ⟨s0, s5⟩ := hSw; go_simp; all_goals (with_reducible rfl))
  change wpAnyH _ _ _ _ _ _ _ (Act.put _ (some 20) _) _
  simp only [Act.put, List.setIfInBounds_toArray, List.set_cons_zero, List.set_cons_succ]
  refine wpAnyH_done (by kernel_rfl) ?_ _
  clear hHeld
  go_upto_region 5 with fail
  have hFz : Fr (fun _ => False) w (w.drewN (1 + d + 1)) := Fr.of_drewN w _
  have HFz := hide hFz
  clear hFz
  refine wp_region_G (S := fun W' => W'.cell? ⟨M, 0, none⟩ = some (.pointer (some ⟨B, 0, none⟩)) ∧ W'.cell? ⟨M, 5, none⟩ = some (.int .i64 (W : Int))) 11 (by kernel_rfl) ⟨m0, m5⟩ (fun hHeld => ?_)
  refine wpAnyG_take [11, 12] (i := 0) (v := ?v0g) rfl (by kernel_rfl) (by kernel_rfl) (by kernel_rfl) (by kernel_rfl) (fun _ _ _ h => h) (Or.inl ⟨by rfl, ?hy0g⟩) hHeld ?rest0g
  case hy0g => (intro W hSw; (try dsimp only at hSw); obtain ⟨s0, s5⟩ := hSw; go_simp; all_goals (with_reducible rfl))
  change wpAnyG _ _ _ _ _ _ _ _ (Act.put _ (some 23) _) _
  simp only [Act.put, List.setIfInBounds_toArray, List.set_cons_zero, List.set_cons_succ]
  refine wpAnyG_take [2, 3, 4, 10, 11, 12] (i := 1) (v := ?v1g) rfl (by kernel_rfl) (by kernel_rfl) (by kernel_rfl) (by kernel_rfl) (fun _ _ _ h => h) (Or.inl ⟨by rfl, ?hy1g⟩) hHeld ?rest1g
  case hy1g => (intro W hSw; (try dsimp only at hSw); obtain ⟨s0, s5⟩ := hSw; go_simp; all_goals (with_reducible rfl))
  change wpAnyG _ _ _ _ _ _ _ _ (Act.put _ (some 24) _) _
  simp only [Act.put, List.setIfInBounds_toArray, List.set_cons_zero, List.set_cons_succ]
  refine wpAnyG_take [6, 7, 8, 9, 10, 11, 12] (i := 5) (v := ?v5g) rfl (by kernel_rfl) (by kernel_rfl) (by kernel_rfl) (by kernel_rfl) (fun _ _ _ h => h) (Or.inl ⟨by rfl, ?hy5g⟩) hHeld ?rest5g
  case hy5g => (intro W hSw; (try dsimp only at hSw); obtain ⟨s0, s5⟩ := hSw; go_simp; all_goals (with_reducible rfl))
  change wpAnyG _ _ _ _ _ _ _ _ (Act.put _ (some 28) _) _
  simp only [Act.put, List.setIfInBounds_toArray, List.set_cons_zero, List.set_cons_succ]
  refine wpAnyG_take [3, 4, 10, 11, 12] (i := 2) (v := ?v2g) rfl (by kernel_rfl) (by kernel_rfl) (by kernel_rfl) (by kernel_rfl) (fun _ _ _ h => h) (Or.inl ⟨by rfl, ?hy2g⟩) hHeld ?rest2g
  case hy2g => (intro W hSw; (try dsimp only at hSw); obtain ⟨s0, s5⟩ := hSw; go_simp; all_goals (with_reducible rfl))
  change wpAnyG _ _ _ _ _ _ _ _ (Act.put _ (some 25) _) _
  simp only [Act.put, List.setIfInBounds_toArray, List.set_cons_zero, List.set_cons_succ]
  refine wpAnyG_take [7, 8, 9, 10, 11, 12] (i := 6) (v := ?v6g) rfl (by kernel_rfl) (by kernel_rfl) (by kernel_rfl) (by kernel_rfl) (fun _ _ _ h => h) (Or.inl ⟨by rfl, ?hy6g⟩) hHeld ?rest6g
  case hy6g => (intro W hSw; (try dsimp only at hSw); obtain ⟨s0, s5⟩ := hSw; go_simp; all_goals (with_reducible rfl))
  change wpAnyG _ _ _ _ _ _ _ _ (Act.put _ (some 29) _) _
  simp only [Act.put, List.setIfInBounds_toArray, List.set_cons_zero, List.set_cons_succ]
  refine wpAnyG_take [4, 10, 11, 12] (i := 3) (v := ?v3g) rfl (by kernel_rfl) (by kernel_rfl) (by kernel_rfl) (by kernel_rfl) (fun _ _ _ h => h) (Or.inl ⟨by rfl, ?hy3g⟩) hHeld ?rest3g
  case hy3g => (intro W hSw; (try dsimp only at hSw); obtain ⟨s0, s5⟩ := hSw; go_simp; all_goals (with_reducible rfl))
  change wpAnyG _ _ _ _ _ _ _ _ (Act.put _ (some 26) _) _
  simp only [Act.put, List.setIfInBounds_toArray, List.set_cons_zero, List.set_cons_succ]
  refine wpAnyG_take [8, 9, 10, 11, 12] (i := 7) (v := ?v7g) rfl (by kernel_rfl) (by kernel_rfl) (by kernel_rfl) (by kernel_rfl) (fun _ _ _ h => h) (Or.inl ⟨by rfl, ?hy7g⟩) hHeld ?rest7g
  case hy7g => (intro W hSw; (try dsimp only at hSw); obtain ⟨s0, s5⟩ := hSw; go_simp; all_goals (with_reducible rfl))
  change wpAnyG _ _ _ _ _ _ _ _ (Act.put _ (some 30) _) _
  simp only [Act.put, List.setIfInBounds_toArray, List.set_cons_zero, List.set_cons_succ]
  refine wpAnyG_take [10, 11, 12] (i := 4) (v := ?v4g) rfl (by kernel_rfl) (by kernel_rfl) (by kernel_rfl) (by kernel_rfl) (fun _ _ _ h => h) (Or.inl ⟨by rfl, ?hy4g⟩) hHeld ?rest4g
  case hy4g => (intro W hSw; (try dsimp only at hSw); obtain ⟨s0, s5⟩ := hSw; go_simp; all_goals (with_reducible rfl))
  change wpAnyG _ _ _ _ _ _ _ _ (Act.put _ (some 27) _) _
  simp only [Act.put, List.setIfInBounds_toArray, List.set_cons_zero, List.set_cons_succ]
  refine wpAnyG_take [9, 10, 11, 12] (i := 8) (v := ?v8g) rfl (by kernel_rfl) (by kernel_rfl) (by kernel_rfl) (by kernel_rfl) (fun _ _ _ h => h) (Or.inl ⟨by rfl, ?hy8g⟩) hHeld ?rest8g
  case hy8g => (intro W hSw; (try dsimp only at hSw); obtain ⟨s0, s5⟩ := hSw; go_simp; all_goals (with_reducible rfl))
  change wpAnyG _ _ _ _ _ _ _ _ (Act.put _ (some 31) _) _
  simp only [Act.put, List.setIfInBounds_toArray, List.set_cons_zero, List.set_cons_succ]
  refine wpAnyG_take [10, 11, 12] (i := 9) (v := ?v9g) rfl (by kernel_rfl) (by kernel_rfl) (by kernel_rfl) (by kernel_rfl) (fun _ _ _ h => h) (Or.inl ⟨by rfl, ?hy9g⟩) hHeld ?rest9g
  case hy9g => (intro W hSw; (try dsimp only at hSw); obtain ⟨s0, s5⟩ := hSw; go_simp; all_goals (with_reducible rfl))
  change wpAnyG _ _ _ _ _ _ _ _ (Act.put _ (some 32) _) _
  simp only [Act.put, List.setIfInBounds_toArray, List.set_cons_zero, List.set_cons_succ]
  refine wpAnyG_one (i := 10) (by kernel_rfl) rfl (fun K hK => ?_)
  try simp only [List.getElem_toArray, List.getElem_cons_succ, List.getElem_cons_zero]
  go_simp
  refine (HTk.out _ HFz.out).mono ?_
  rintro e w2 ⟨rfl, hR2, hF2⟩
  have hFw : Fr (fun j => j = B) w w2 := (HFz.out.mono fun _ _ h => h.elim).join hF2
  have hX2 := H.out.keepB hR2 hFw
  have hS2 : w2.cell? ⟨M, 0, none⟩ = some (.pointer (some ⟨B, 0, none⟩)) ∧ w2.cell? ⟨M, 5, none⟩ = some (.int .i64 (W : Int)) := ⟨cell_of (o := 0) hX2.obj rfl, by rw [HW.out]; exact cell_of (o := 5) hX2.obj rfl⟩
  have HX2 := hide hX2
  have HFw := hide hFw
  clear hR2 hF2 hFw hX2
  refine hK.out _ _ (fun _ => hS2) (fun hHeld0 => ?_)
  have hHeld := hHeld0 (by decide)
  clear hHeld0
  clear hK K
  refine wpAnyG_one (i := 11) (by kernel_rfl) rfl (fun K hK => ?_)
  try simp only [List.getElem_toArray, List.getElem_cons_succ, List.getElem_cons_zero]
  go_simp
  refine (HQ.out w2 HX2.out HFw.out).mono ?_
  rintro e w3 ⟨⟨b, rfl⟩, hq⟩
  have Hq := hide hq
  clear hq
  refine hK.out _ _ (fun h => absurd h (by decide)) (fun _ => ?_)
  clear hK K
  refine wpAnyG_one (i := 12) (by kernel_rfl) rfl (fun K hK => ?_)
  try simp only [List.getElem_toArray, List.getElem_cons_succ, List.getElem_cons_zero]
  go_simp
  refine hK.out _ _ (fun h => absurd h (by decide)) (fun _ => ?_)
  clear hK K
  refine wpAnyG_done (by kernel_rfl) ?_ _
  go_wp2_with fail
  exact Hq.out
end Go.Proofs.Ytdbgolklgiadeaa
