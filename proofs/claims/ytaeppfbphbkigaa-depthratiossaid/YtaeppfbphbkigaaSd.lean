/-
  raster: the document's At, where there is a pixel.
-/
import Derived.Test.YtaeppfbphbkigaaSc
namespace Go.Proofs.Ytaeppfbphbkigaa
open Go.RowKit

theorem Fr.drew1 (S : Nat → Prop) (w : World) : Fr S w w.drew := (Fr.of_drewN w 1).mono fun _ _ h => h.elim

theorem setRow_fr (w : World) (g : Nat) (cs : Array Value) : Fr (fun j => j = g) w (w.setRow g cs) := ⟨rfl, rfl, rfl, by simp [World.setRow], fun j _ hj => setRow_other _ _ _ _ hj⟩

set_option maxHeartbeats 200000 in
set_option maxRecDepth 100000 in
theorem rat_yes (W H x y : Int) (b o : Nat) (px : List Nat) (n c k : Nat) (w : World) (h : inB W H n x y = true) (hk : (k : Int) = 4 * (y * W + x)) (hk4 : k + 4 ≤ n) (hl : Lies w (some ⟨b, o, none⟩) px) (hp : px.length = n) (hc : n ≤ c) :
    Calls Try.prog 15 #[rasV W H (some ⟨b, o, none⟩) n c, .int .i64 x, .int .i64 y] w fun e w' => e = .returned (.tuple #[.agg (pixL px k).toArray, .bool true]) ∧ Fr (fun _ => False) w w' := by
  obtain ⟨hm, hx, hy⟩ := inB_true h
  obtain ⟨hs, hn⟩ := mayB_true hm
  obtain ⟨h1, h2, h3, h4, h5⟩ := size_ok hs
  have hm0 : 0 ≤ y * W := Int.mul_nonneg (by omega) (by omega)
  have hkb : k ≤ 65536 := by
    have e4 : 4 * W * H = 4 * (W * H) := Int.mul_assoc _ _ _
    omega
  obtain ⟨m, hym⟩ : ∃ m, y * W = m := ⟨_, rfl⟩
  rw [hym] at hm0 hk
  obtain ⟨j, hmj⟩ : ∃ j, m + x = j := ⟨_, rfl⟩
  rw [hmj] at hk
  have hmb : m ≤ 65536 := by omega
  have hj0 : 0 ≤ j := by omega
  have hj1 : j ≤ 65536 := by omega
  have h4j : 4 * j = (k : Int) := hk.symm
  have q1 : wrap64 m = m := wrap64_id _ (by omega) (by omega)
  have q2 : wrap64 j = j := wrap64_id _ (by omega) (by omega)
  have q3 : wrap64 (k : Int) = (k : Int) := wrap64_id _ (by omega) (by omega)
  have r1 : IntKind.i64.wrap m = m := wrap_i64_id _ (by omega) (by omega)
  have r2 : IntKind.i64.wrap j = j := wrap_i64_id _ (by omega) (by omega)
  have r3 : IntKind.i64.wrap (k : Int) = (k : Int) := wrap_i64_id _ (by omega) (by omega)
  have hck : ¬ c = k := by omega
  have hxl : ¬ x < 0 := by omega
  have hyl : ¬ y < 0 := by omega
  have hxg : ¬ W ≤ x := by omega
  have hyg : ¬ H ≤ y := by omega
  have hki : (k : Int) ≤ (n : Int) := by omega
  have hkn : k ≤ n := by omega
  obtain ⟨p0, hp0⟩ : ∃ v, v = ((px.getD k 0 : Nat) : Int) := ⟨_, rfl⟩
  obtain ⟨p1, hp1⟩ : ∃ v, v = ((px.getD (k + 1) 0 : Nat) : Int) := ⟨_, rfl⟩
  obtain ⟨p2, hp2⟩ : ∃ v, v = ((px.getD (k + 2) 0 : Nat) : Int) := ⟨_, rfl⟩
  obtain ⟨p3, hp3⟩ : ∃ v, v = ((px.getD (k + 3) 0 : Nat) : Int) := ⟨_, rfl⟩
  have ep : pixL px k = [.int .u16 p0, .int .u16 p1, .int .u16 p2, .int .u16 p3] := by rw [hp0, hp1, hp2, hp3]; rfl
  obtain ⟨w1, hw1⟩ : ∃ w1, w1 = ((w.alloc (.cells #[.int .i64 W, .int .i64 H, .slice (some ⟨b, o, none⟩) n c] 24)).alloc (.cells #[.int .u16 0, .int .u16 0, .int .u16 0, .int .u16 0] 27)).alloc (.cells #[.int .u16 0, .int .u16 0, .int .u16 0, .int .u16 0] 27) := ⟨_, rfl⟩
  have hba : w1.heap[w.heap.size]? = some (.cells #[.int .i64 W, .int .i64 H, .slice (some ⟨b, o, none⟩) n c] 24 (0, 0)) := by rw [hw1]; exact (Below.heap_alloc _ _ _ (by simp; omega)).trans ((Below.heap_alloc _ _ _ (by simp)).trans (heap_alloc_at rfl))
  have hbb : w1.heap[w.heap.size + 1]? = some (.cells #[.int .u16 0, .int .u16 0, .int .u16 0, .int .u16 0] 27 (0, 0)) := by rw [hw1]; exact (Below.heap_alloc _ _ _ (by simp)).trans (heap_alloc_at (by simp))
  have hbc : w1.heap[w.heap.size + 2]? = some (.cells #[.int .u16 0, .int .u16 0, .int .u16 0, .int .u16 0] 27 (0, 0)) := by rw [hw1]; exact heap_alloc_at (by simp)
  have hF : Fr (fun _ => False) w w1 := by rw [hw1]; exact ((Fr.of_alloc _ _).join (Fr.of_alloc _ _)).join (Fr.of_alloc _ _)
  have HM := hide (rmay_c W H (some ⟨b, o, none⟩) n c w1)
  rw [hm] at HM
  have Hq := hide (And.intro hp (And.intro hk4 hc))
  have Hep := hide ep
  have Ha := hide hba
  have Hb := hide hbb
  have Hc := hide hbc
  have HF := hide hF
  have Hl := hide hl
  have Hw1 := hide hw1
  rw [ep]
  clear hs hn hx hy hk hba hbb hbc hF hw1 hl hk4 h hm hp hp0 hp1 hp2 hp3 ep h1 h2 h3 h4 h5
  go_enter Try.func15, Try.ntmps15
  go_wp2_with fail
  rw [← Hw1.out]
  refine HM.out.mono ?_
  rintro e w2 ⟨rfl, hF2⟩
  have hb2 := cells_at Ha.out hF2 (fun e => e)
  have k0 := cell_of (o := 0) hb2 rfl
  have k1 := cell_of (o := 1) hb2 rfl
  have k2 := cell_of (o := 2) hb2 rfl
  have HA2 := hide hb2
  have HB2 := hide (cells_at Hb.out hF2 (fun e => e))
  have HC2 := hide (cells_at Hc.out hF2 (fun e => e))
  have HF2 := hide (HF.out.join hF2)
  clear hb2 hF2
  go_upto_region 4 with fail
  clear k0 k1 k2
  refine wp_region_held_drew (S := fun w' => Fr (fun i => i = w.heap.size + 2) w2 w') (by kernel_rfl) (by exact (Fr.of_drewN _ 1).mono fun _ _ h => h.elim) (fun hHeld => ?_)
  refine wpAnyH_take (i := 0) (v := ?v0) rfl (by kernel_rfl) (by kernel_rfl) (by kernel_rfl) (fun _ _ _ h => h) (Or.inl ⟨by rfl, ?hy0⟩) hHeld ?rest0
  case hy0 => (intro W hSw; (try dsimp only at hSw); have hcs := cells_at HA2.out hSw (fun e => absurd e (by omega)); have k0 := cell_of (o := 0) hcs rfl; have k1 := cell_of (o := 1) hcs rfl; have k2 := cell_of (o := 2) hcs rfl; have he := add_none b o k; go_simp; all_goals (with_reducible rfl))
  change wpAnyH _ _ _ _ _ _ _ (Act.put _ (some 33) _) _
  simp only [Act.put, List.setIfInBounds_toArray, List.set_cons_zero, List.set_cons_succ]
  refine wpAnyH_take (i := 1) (v := ?v1) rfl (by kernel_rfl) (by kernel_rfl) (by kernel_rfl) (fun _ _ _ h => h) (Or.inl ⟨by rfl, ?hy1⟩) hHeld ?rest1
  case hy1 => (intro W hSw; (try dsimp only at hSw); have hcs := cells_at HA2.out hSw (fun e => absurd e (by omega)); have k0 := cell_of (o := 0) hcs rfl; have k1 := cell_of (o := 1) hcs rfl; have k2 := cell_of (o := 2) hcs rfl; have he := add_none b o k; go_simp; all_goals (with_reducible rfl))
  change wpAnyH _ _ _ _ _ _ _ (Act.put _ (some 34) _) _
  simp only [Act.put, List.setIfInBounds_toArray, List.set_cons_zero, List.set_cons_succ]
  refine wpAnyH_take (i := 3) (v := ?v3) rfl (by kernel_rfl) (by kernel_rfl) (by kernel_rfl) (fun _ _ _ h => h) (Or.inl ⟨by rfl, ?hy3⟩) hHeld ?rest3
  case hy3 => (intro W hSw; (try dsimp only at hSw); have hcs := cells_at HA2.out hSw (fun e => absurd e (by omega)); have k0 := cell_of (o := 0) hcs rfl; have k1 := cell_of (o := 1) hcs rfl; have k2 := cell_of (o := 2) hcs rfl; have he := add_none b o k; go_simp; all_goals (with_reducible rfl))
  change wpAnyH _ _ _ _ _ _ _ (Act.put _ (some 36) _) _
  simp only [Act.put, List.setIfInBounds_toArray, List.set_cons_zero, List.set_cons_succ]
  refine wpAnyH_take (i := 4) (v := ?v4) rfl (by kernel_rfl) (by kernel_rfl) (by kernel_rfl) (fun _ _ _ h => h) (Or.inl ⟨by rfl, ?hy4⟩) hHeld ?rest4
  case hy4 => (intro W hSw; (try dsimp only at hSw); have hcs := cells_at HA2.out hSw (fun e => absurd e (by omega)); have k0 := cell_of (o := 0) hcs rfl; have k1 := cell_of (o := 1) hcs rfl; have k2 := cell_of (o := 2) hcs rfl; have he := add_none b o k; go_simp; all_goals (with_reducible rfl))
  change wpAnyH _ _ _ _ _ _ _ (Act.put _ (some 37) _) _
  simp only [Act.put, List.setIfInBounds_toArray, List.set_cons_zero, List.set_cons_succ]
  refine wpAnyH_take (i := 7) (v := ?v7) rfl (by kernel_rfl) (by kernel_rfl) (by kernel_rfl) (fun _ _ _ h => h) (Or.inl ⟨by rfl, ?hy7⟩) hHeld ?rest7
  case hy7 => (intro W hSw; (try dsimp only at hSw); have hcs := cells_at HA2.out hSw (fun e => absurd e (by omega)); have k0 := cell_of (o := 0) hcs rfl; have k1 := cell_of (o := 1) hcs rfl; have k2 := cell_of (o := 2) hcs rfl; have he := add_none b o k; go_simp; all_goals (with_reducible rfl))
  change wpAnyH _ _ _ _ _ _ _ (Act.put _ (some 40) _) _
  simp only [Act.put, List.setIfInBounds_toArray, List.set_cons_zero, List.set_cons_succ]
  refine wpAnyH_take (i := 2) (v := ?v2) rfl (by kernel_rfl) (by kernel_rfl) (by kernel_rfl) (fun _ _ _ h => h) (Or.inl ⟨by rfl, ?hy2⟩) hHeld ?rest2
  case hy2 => (intro W hSw; (try dsimp only at hSw); have hcs := cells_at HA2.out hSw (fun e => absurd e (by omega)); have k0 := cell_of (o := 0) hcs rfl; have k1 := cell_of (o := 1) hcs rfl; have k2 := cell_of (o := 2) hcs rfl; have he := add_none b o k; go_simp; all_goals (with_reducible rfl))
  change wpAnyH _ _ _ _ _ _ _ (Act.put _ (some 35) _) _
  simp only [Act.put, List.setIfInBounds_toArray, List.set_cons_zero, List.set_cons_succ]
  refine wpAnyH_take (i := 5) (v := ?v5) rfl (by kernel_rfl) (by kernel_rfl) (by kernel_rfl) (fun _ _ _ h => h) (Or.inl ⟨by rfl, ?hy5⟩) hHeld ?rest5
  case hy5 => (intro W hSw; (try dsimp only at hSw); have hcs := cells_at HA2.out hSw (fun e => absurd e (by omega)); have k0 := cell_of (o := 0) hcs rfl; have k1 := cell_of (o := 1) hcs rfl; have k2 := cell_of (o := 2) hcs rfl; have he := add_none b o k; go_simp; all_goals (with_reducible rfl))
  change wpAnyH _ _ _ _ _ _ _ (Act.put _ (some 38) _) _
  simp only [Act.put, List.setIfInBounds_toArray, List.set_cons_zero, List.set_cons_succ]
  refine wpAnyH_take (i := 6) (v := ?v6) rfl (by kernel_rfl) (by kernel_rfl) (by kernel_rfl) (fun _ _ _ h => h) (Or.inl ⟨by rfl, ?hy6⟩) hHeld ?rest6
  case hy6 => (intro W hSw; (try dsimp only at hSw); have hcs := cells_at HA2.out hSw (fun e => absurd e (by omega)); have k0 := cell_of (o := 0) hcs rfl; have k1 := cell_of (o := 1) hcs rfl; have k2 := cell_of (o := 2) hcs rfl; have he := add_none b o k; go_simp; all_goals (with_reducible rfl))
  change wpAnyH _ _ _ _ _ _ _ (Act.put _ (some 39) _) _
  simp only [Act.put, List.setIfInBounds_toArray, List.set_cons_zero, List.set_cons_succ]
  refine wpAnyH_take (i := 8) (v := ?v8) rfl (by kernel_rfl) (by kernel_rfl) (by kernel_rfl) (fun _ _ _ h => h) (Or.inl ⟨by rfl, ?hy8⟩) hHeld ?rest8
  case hy8 => (intro W hSw; (try dsimp only at hSw); have hcs := cells_at HA2.out hSw (fun e => absurd e (by omega)); have k0 := cell_of (o := 0) hcs rfl; have k1 := cell_of (o := 1) hcs rfl; have k2 := cell_of (o := 2) hcs rfl; have he := add_none b o k; go_simp; all_goals (with_reducible rfl))
  change wpAnyH _ _ _ _ _ _ _ (Act.put _ (some 41) _) _
  simp only [Act.put, List.setIfInBounds_toArray, List.set_cons_zero, List.set_cons_succ]
  refine wpAnyH_take (i := 9) (v := ?v9) rfl (by kernel_rfl) (by kernel_rfl) (by kernel_rfl) (fun _ _ _ h => h) (Or.inl ⟨by rfl, ?hy9⟩) hHeld ?rest9
  case hy9 => (intro W hSw; (try dsimp only at hSw); have hcs := cells_at HA2.out hSw (fun e => absurd e (by omega)); have k0 := cell_of (o := 0) hcs rfl; have k1 := cell_of (o := 1) hcs rfl; have k2 := cell_of (o := 2) hcs rfl; have he := add_none b o k; go_simp; all_goals (with_reducible rfl))
  change wpAnyH _ _ _ _ _ _ _ (Act.put _ (some 42) _) _
  simp only [Act.put, List.setIfInBounds_toArray, List.set_cons_zero, List.set_cons_succ]
  refine wpAnyH_take (i := 10) (v := ?v10) rfl (by kernel_rfl) (by kernel_rfl) (by kernel_rfl) (fun _ _ _ h => h) (Or.inl ⟨by rfl, ?hy10⟩) hHeld ?rest10
  case hy10 => (intro W hSw; (try dsimp only at hSw); have hcs := cells_at HA2.out hSw (fun e => absurd e (by omega)); have k0 := cell_of (o := 0) hcs rfl; have k1 := cell_of (o := 1) hcs rfl; have k2 := cell_of (o := 2) hcs rfl; have he := add_none b o k; go_simp; all_goals (with_reducible rfl))
  change wpAnyH _ _ _ _ _ _ _ (Act.put _ (some 43) _) _
  simp only [Act.put, List.setIfInBounds_toArray, List.set_cons_zero, List.set_cons_succ]
  refine wpAnyH_ready (rs := [11]) (by kernel_rfl) (by simp) ?_
  refine AllReadyH.cons rfl (fun K hK => ?_) AllReadyH.nil
  try simp only [List.getElem_toArray, List.getElem_cons_succ, List.getElem_cons_zero]
  rw [if_pos (by rfl)]
  have hcb : w2.drew.heap[w.heap.size + 2]? = some (.cells #[.int .u16 0, .int .u16 0, .int .u16 0, .int .u16 0] 27 (0, 0)) := HC2.out
  refine wp_copy_own _ _ 22 22 rfl 26 Try.underlying22 (by kernel_rfl) (w.heap.size + 2) 0 4 4 ⟨b, o + k, none⟩ (n - k) (c - k) rfl rfl _ 27 hcb (pixL px k) ?hmin (pixL_cell (Hl.out.keep0 (HF2.out.join (Fr.of_drewN w2 1))) (by have := Hq.out; omega)) (by simp [pixL]) (pixL_one px k) ?_
  case hmin => (have := Hq.out; show 4 = min (n - k) 4; omega)
  refine hK.out _ _ ((Fr.drew1 _ w2).join (setRow_fr _ _ _)) (fun hHeld => ?_)
  clear hK K
  refine wpAnyH_done (by kernel_rfl) ?_ _
  have hr3 := setRow_heap w2.drew (w.heap.size + 2) _ (pixL px k).toArray 27 _ HC2.out
  have hf3 := setRow_fr w2.drew (w.heap.size + 2) (pixL px k).toArray
  have hw3 : ∀ (L M : List Value), L = M → w2.drew.setRow (w.heap.size + 2) L.toArray = w2.drew.setRow (w.heap.size + 2) M.toArray := fun L M e => by rw [e]
  rw [hw3 _ (pixL px k) (by simp [pixL])]
  generalize w2.drew.setRow (w.heap.size + 2) (pixL px k).toArray = w3 at hr3 hf3 ⊢
  have hcc := hr3
  rw [Hep.out] at hcc
  have c0 := cell_of (o := 0) hcc rfl
  have c1 := cell_of (o := 1) hcc rfl
  have c2 := cell_of (o := 2) hcc rfl
  have c3 := cell_of (o := 3) hcc rfl
  have hb3 := cells_at HB2.out ((Fr.drew1 _ w2).join hf3) (fun e => by have e2 : w.heap.size + 1 = w.heap.size + 2 := e; omega)
  have d0 := cell_of (o := 0) hb3 rfl
  have f0 := frozen_of (o := 0) hb3
  have d1 := cell_of (o := 1) hb3 rfl
  have f1 := frozen_of (o := 1) hb3
  have d2 := cell_of (o := 2) hb3 rfl
  have f2 := frozen_of (o := 2) hb3
  have d3 := cell_of (o := 3) hb3 rfl
  have f3 := frozen_of (o := 3) hb3
  have HB2 := hide hb3
  have HF2 : Hid (Fr (fun _ => False) w w3) := frJ (HF2.out.join (Fr.of_drewN w2 1)) hf3 (fun i e => by have e2 : i = w.heap.size + 2 := e; omega)
  clear hb3 hcc hr3 hf3 hHeld hw3
  go_wp2_with fail
  obtain ⟨d, u1, u2, u3⟩ := Try.und27
  obtain ⟨B, hB⟩ : ∃ B, B = w.heap.size + 1 := ⟨_, rfl⟩
  have hb0 := HB2.out
  rw [← hB] at hb0 ⊢
  have e1 := heap_setCell_own (o := 3) (.int .u16 p3) (heap_setCell_own (o := 2) (.int .u16 p2) (heap_setCell_own (o := 1) (.int .u16 p1) (heap_setCell_own (o := 0) (.int .u16 p0) hb0)))
  have hf9 := (((Fr.of_setCell w3 ⟨B, 0, none⟩ (.int .u16 p0)).join (Fr.of_setCell _ ⟨B, 1, none⟩ (.int .u16 p1))).join (Fr.of_setCell _ ⟨B, 2, none⟩ (.int .u16 p2))).join (Fr.of_setCell _ ⟨B, 3, none⟩ (.int .u16 p3))
  obtain ⟨w9, hw9⟩ : ∃ w9, w9 = (((w3.setCell ⟨B, 0, none⟩ (.int .u16 p0)).setCell ⟨B, 1, none⟩ (.int .u16 p1)).setCell ⟨B, 2, none⟩ (.int .u16 p2)).setCell ⟨B, 3, none⟩ (.int .u16 p3) := ⟨_, rfl⟩
  rw [← hw9] at e1 hf9 ⊢
  have hb9 : w9.heap[B]? = some (.cells [.int .u16 p0, .int .u16 p1, .int .u16 p2, .int .u16 p3].toArray 27 (0, 0)) := e1
  have hld := run_loadVar_mid (P := Try.prog) w9 B 0 27 [.int .u16 p0, .int .u16 p1, .int .u16 p2, .int .u16 p3] d (rangeAt_cells hb9) u1 u2 u3
  have hfin : Fr (fun _ => False) w w9 := frJ HF2.out hf9 fun j hj => by
    have e : j = B := hj
    omega
  exact bodyPost_ret (results_two (t := 6) (s := 7) Try.results15 rfl hld rfl) rfl ⟨rfl, hfin⟩
end Go.Proofs.Ytaeppfbphbkigaa
