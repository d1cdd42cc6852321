/-
  lzw: the Reader goes on by a code.
-/
import Derived.Test.YtdbgolklgiadeaaXs
namespace Go.Proofs.Ytdbgolklgiadeaa
open Go.RowKit

theorem Rx.keepB {w w1 : World} {lo M B : Nat} {bs : List Nat} {k most : Nat} {q : Rq} {ra : Option Addr} {rc : Nat} {oa : Option Addr} {oc : Nat} {p : Nat} (h : Rx w lo M B bs k most q ra rc oa oc) (hr : Rd 84 w1 lo M B bs p (.slice none 0 0) 0) (F : Fr (fun j => j = B) w w1) : Rx w1 lo M B bs k most { q with p := p } ra rc oa oc := by
  have hB := h.rd.ehi
  exact ⟨cells_at h.obj F (fun e => by have e2 : M = B := e; omega), hr, own_keepR h.rws F (fun j hj e => by have := (World.ownsRow.lt h.rws j hj).1; have e2 : j = B := e; omega), own_keepB h.own F (fun j hj e => by have := (World.ownsRow.lt h.own j hj).1; have e2 : j = B := e; omega), h.next, h.byt, h.len, h.big, h.ll⟩

set_option maxHeartbeats 3200000 in
set_option maxRecDepth 100000 in
/-- Behind a row: too few bits. -/
theorem advance_short (lo M B : Nat) (bs : List Nat) (k most : Nat) (q : Rq) (ra : Option Addr) (rc : Nat) (oa : Option Addr) (oc : Nat) (w : World) (h : Rx w lo M B bs k most q ra rc oa oc) (hlt : q.lt = 0) (hs : 8 * bs.length < q.p + wid k q.rs.length) :
    Calls Try.prog 32 #[.pointer (some ⟨M, 0, none⟩)] w fun e w' => e = .returned (.bool false) ∧ w'.heap[M]? = some (.cells (dcells (.slice none 0 0) 2).toArray 71 (0, 0)) ∧ Fr (fun j => j = M) w w' := by
  have m10 : w.cell? ⟨M, 10, none⟩ = some (.int .i64 0) := by
    have := cell_of (o := 10) h.obj rfl
    rw [show (0 : Int) = (q.lt : Int) by omega]
    exact this
  have m0 : w.cell? ⟨M, 0, none⟩ = some (.pointer (some ⟨B, 0, none⟩)) := cell_of (o := 0) h.obj rfl
  have m5 : w.cell? ⟨M, 5, none⟩ = some (.int .i64 ((wid k q.rs.length : Nat) : Int)) := cell_of (o := 5) h.obj rfl
  obtain ⟨W, hW⟩ : ∃ W, W = wid k q.rs.length := ⟨_, rfl⟩
  rw [← hW] at m5 hs
  have hpo := h.rd.epos
  have hbl := h.rd.elen
  have HR := hide h.rd
  have H := hide h
  have hlti : 8 * (bs.length : Int) - (q.p : Int) < (W : Int) := by omega
  obtain ⟨N, hN⟩ : ∃ N : Int, N = 8 * (bs.length : Int) - (q.p : Int) := ⟨_, rfl⟩
  have HLf : Hid (∀ d, Calls Try.prog 41 #[.pointer (some ⟨B, 0, none⟩)] (w.drewN d) fun e w' => e = .returned (.int .i64 N) ∧ ∃ d', w' = (w.drewN d).drewN d') := fun d => by rw [hN]; exact low_left (w.drewN d) lo M B bs q.p (.slice none 0 0) 0 (HR.out.drewN d)
  have HFl : Hid (∀ d, Calls Try.prog 42 #[.pointer (some ⟨M, 0, none⟩), .int .i64 2] (w.drewN d) fun e w' => e = .returned (.bool false) ∧ w'.heap[M]? = some (.cells (dcells (.slice none 0 0) 2).toArray 71 (0, 0)) ∧ Fr (fun k => k = M) (w.drewN d) w') := fun d => fail_c M _ 2 (w.drewN d) h.obj rfl
  rw [← hN] at hlti
  clear h hW hN hs
  go_enter Try.func32, Try.ntmps32
  go_upto_region 3 with fail
  refine wp_region_held_drew (S := fun W' => W'.cell? ⟨M, 0, none⟩ = some (.pointer (some ⟨B, 0, none⟩)) ∧ W'.cell? ⟨M, 5, none⟩ = some (.int .i64 (W : Int))) (by kernel_rfl) ⟨m0, m5⟩ (fun hHeld => ?_)
  refine wpAnyH_take (i := 0) (v := ?v0) rfl (by kernel_rfl) (by kernel_rfl) (by kernel_rfl) (fun _ _ _ h => h) (Or.inl ⟨by rfl, ?hy0⟩) hHeld ?rest0
  case hy0 => (intro W hSw; (try dsimp only at hSw); obtain ⟨s0, s5⟩ := hSw; go_simp; all_goals (with_reducible rfl))
  change wpAnyH _ _ _ _ _ _ _ (Act.put _ (some 10) _) _
  simp only [Act.put, List.setIfInBounds_toArray, List.set_cons_zero, List.set_cons_succ]
  refine wpAnyH_take (i := 5) (v := ?v5) rfl (by kernel_rfl) (by kernel_rfl) (by kernel_rfl) (fun _ _ _ h => h) (Or.inl ⟨by rfl, ?hy5⟩) hHeld ?rest5
  case hy5 => (intro W hSw; (try dsimp only at hSw); obtain ⟨s0, s5⟩ := hSw; go_simp; all_goals (with_reducible rfl))
  change wpAnyH _ _ _ _ _ _ _ (Act.put _ (some 15) _) _
  simp only [Act.put, List.setIfInBounds_toArray, List.set_cons_zero, List.set_cons_succ]
  refine wpAnyH_take (i := 1) (v := ?v1) rfl (by kernel_rfl) (by kernel_rfl) (by kernel_rfl) (fun _ _ _ h => h) (Or.inl ⟨by rfl, ?hy1⟩) hHeld ?rest1
  case hy1 => (intro W hSw; (try dsimp only at hSw); obtain ⟨s0, s5⟩ := hSw; go_simp; all_goals (with_reducible rfl))
  change wpAnyH _ _ _ _ _ _ _ (Act.put _ (some 11) _) _
  simp only [Act.put, List.setIfInBounds_toArray, List.set_cons_zero, List.set_cons_succ]
  refine wpAnyH_take (i := 6) (v := ?v6) rfl (by kernel_rfl) (by kernel_rfl) (by kernel_rfl) (fun _ _ _ h => h) (Or.inl ⟨by rfl, ?hy6⟩) hHeld ?rest6
  case hy6 => (intro W hSw; (try dsimp only at hSw); obtain ⟨s0, s5⟩ := hSw; go_simp; all_goals (with_reducible rfl))
  change wpAnyH _ _ _ _ _ _ _ (Act.put _ (some 16) _) _
  simp only [Act.put, List.setIfInBounds_toArray, List.set_cons_zero, List.set_cons_succ]
  refine wpAnyH_take (i := 2) (v := ?v2) rfl (by kernel_rfl) (by kernel_rfl) (by kernel_rfl) (fun _ _ _ h => h) (Or.inl ⟨by rfl, ?hy2⟩) hHeld ?rest2
  case hy2 => (intro W hSw; (try dsimp only at hSw); obtain ⟨s0, s5⟩ := hSw; go_simp; all_goals (with_reducible rfl))
  change wpAnyH _ _ _ _ _ _ _ (Act.put _ (some 12) _) _
  simp only [Act.put, List.setIfInBounds_toArray, List.set_cons_zero, List.set_cons_succ]
  refine wpAnyH_take (i := 7) (v := ?v7) rfl (by kernel_rfl) (by kernel_rfl) (by kernel_rfl) (fun _ _ _ h => h) (Or.inl ⟨by rfl, ?hy7⟩) hHeld ?rest7
  case hy7 => (intro W hSw; (try dsimp only at hSw); obtain ⟨s0, s5⟩ := hSw; go_simp; all_goals (with_reducible rfl))
  change wpAnyH _ _ _ _ _ _ _ (Act.put _ (some 17) _) _
  simp only [Act.put, List.setIfInBounds_toArray, List.set_cons_zero, List.set_cons_succ]
  refine wpAnyH_take (i := 3) (v := ?v3) rfl (by kernel_rfl) (by kernel_rfl) (by kernel_rfl) (fun _ _ _ h => h) (Or.inl ⟨by rfl, ?hy3⟩) hHeld ?rest3
  case hy3 => (intro W hSw; (try dsimp only at hSw); obtain ⟨s0, s5⟩ := hSw; go_simp; all_goals (with_reducible rfl))
  change wpAnyH _ _ _ _ _ _ _ (Act.put _ (some 13) _) _
  simp only [Act.put, List.setIfInBounds_toArray, List.set_cons_zero, List.set_cons_succ]
  refine wpAnyH_take (i := 8) (v := ?v8) rfl (by kernel_rfl) (by kernel_rfl) (by kernel_rfl) (fun _ _ _ h => h) (Or.inl ⟨by rfl, ?hy8⟩) hHeld ?rest8
  case hy8 => (intro W hSw; (try dsimp only at hSw); obtain ⟨s0, s5⟩ := hSw; go_simp; all_goals (with_reducible rfl))
  change wpAnyH _ _ _ _ _ _ _ (Act.put _ (some 18) _) _
  simp only [Act.put, List.setIfInBounds_toArray, List.set_cons_zero, List.set_cons_succ]
  refine wpAnyH_take (i := 9) (v := ?v9) rfl (by kernel_rfl) (by kernel_rfl) (by kernel_rfl) (fun _ _ _ h => h) (Or.inl ⟨by rfl, ?hy9⟩) hHeld ?rest9
  case hy9 => (intro W hSw; (try dsimp only at hSw); obtain ⟨s0, s5⟩ := hSw; go_simp; all_goals (with_reducible rfl))
  change wpAnyH _ _ _ _ _ _ _ (Act.put _ (some 19) _) _
  simp only [Act.put, List.setIfInBounds_toArray, List.set_cons_zero, List.set_cons_succ]
  refine wpAnyH_ready (rs := [4]) (by kernel_rfl) (by simp) ?_
  refine AllReadyH.cons rfl (fun K hK => ?_) AllReadyH.nil
  try simp only [List.getElem_toArray, List.getElem_cons_succ, List.getElem_cons_zero]
  go_simp
  refine (HLf.out 1).mono ?_
  rintro e w1 ⟨rfl, d, rfl⟩
  refine hK.out _ _ hHeld (fun hHeld => ?_)
  clear hK K
  refine wpAnyH_take (i := 10) (v := ?v10) rfl (by kernel_rfl) (by kernel_rfl) (by kernel_rfl) (fun _ _ _ h => h) (Or.inl ⟨by rfl, ?hy10⟩) hHeld ?rest10
  case hy10 => (intro W hSw; (try dsimp only at hSw); obtain ⟨s0, s5⟩ := hSw; go_simp; all_goals (with_reducible rfl))
  change wpAnyH _ _ _ _ _ _ _ (Act.put _ (some 20) _) _
  simp only [Act.put, List.setIfInBounds_toArray, List.set_cons_zero, List.set_cons_succ]
  refine wpAnyH_done (by kernel_rfl) ?_ _
  go_wp2_with fail
  refine (HFl.out (1 + d)).mono ?_
  rintro e w2 ⟨rfl, h1, h2⟩
  have H1 := hide h1
  have H2 := hide (((Fr.of_drewN w (1 + d)).mono fun _ _ h => h.elim : Fr (fun j => j = M) w (w.drewN (1 + d))).join h2)
  clear h1 h2
  go_wp2_with fail
  go_ret
  exact ⟨rfl, H1.out, H2.out⟩
end Go.Proofs.Ytdbgolklgiadeaa
