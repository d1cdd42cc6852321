/-
  lzw: the writer takes a value: a row's number is written.
-/
import Derived.Test.YtdbgolklgiadeaaYj
namespace Go.Proofs.Ytdbgolklgiadeaa
open Go.RowKit

theorem Mp.storeAll {w : World} {b n : Nat} {F : Nat → Nat → Option Nat} (h : Mp w b n F) {r v c : Nat} (hr : r < 5000) (hv : v < 256) (hc : c < 5000) (hn : n ≤ 2000000) : ∃ w', (Instr.mapUpdate 86 (.map (some b)) (.agg #[.int .i64 (r : Int), .int .u8 (v : Int)]) (.int .i64 (c : Int))).run Try.prog w = .ok () w' ∧ Mp w' b (n + 1) (upd F r v c) ∧ Fr (fun j => j = b) w w' := h.store hr hv hc hn

set_option maxHeartbeats 3200000 in
set_option maxRecDepth 100000 in
/-- No longer row is there. -/
theorem take_b (lo A mb k n n' : Nat) (first : Bool) (r : Nat) (F : Nat → Nat → Option Nat) (mn v p : Nat) (x : Nat) (w : World) (hk : 2 ≤ k ∧ k ≤ 8) (h : Wk w lo A mb k n first (r : Int) F mn v p) (hr : r < 4096) (hr2 : r < 2 ^ wid k n) (hx : x < 256) (hF : F r x = none) (hlo : lo ≤ w.heap.size) (hp : p ≤ 2147400000) (hn : nextN k n < 4096) (hmn : mn ≤ 2000000) (hn' : n' = if first then n else n + 1) :
    Calls Try.prog 36 #[.pointer (some ⟨A, 0, none⟩), .int .u8 (x : Int)] w fun e w' => e = .returned (.tuple #[]) ∧ Fr (fun j => lo ≤ j) w w' ∧
      (nextN k n' ≠ 4096 → Wk w' lo A mb k n' false (x : Int) (upd F r x (nextN k n')) (mn + 1) (v + r * 2 ^ p) (p + wid k n)) ∧
      (nextN k n' = 4096 → Wk w' lo A mb k 0 true (x : Int) (fun _ _ => none) 0 (v + r * 2 ^ p + 2 ^ k * 2 ^ (p + wid k n)) (p + wid k n + wid k n')) := by
  obtain ⟨_, _, _, _, m4, _, m6, hfz⟩ := h.cell
  have hr1 : ((r : Int) == -1) = false := by rw [beq_eq_false_iff_ne]; omega
  obtain ⟨y, hl, hy⟩ := h.mp.lookAll (show r < 5000 by omega) hx
  rw [hF] at hl
  simp only [Option.isSome_none] at hl
  have q1 : IntKind.i64.wrap (x : Int) = (x : Int) := wrap_i64_id _ (by omega) (by omega)
  obtain ⟨KB, hK⟩ : ∃ KB, KB = w.heap.size := ⟨_, rfl⟩
  have HL := hide hl
  have HK := hide hK
  have FA : Hid (Fr (fun _ => False) w (w.alloc (.cells #[.int .i64 (r : Int), .int .u8 (x : Int)] 90))) := Fr.of_alloc _ _
  have HKc : Hid ((w.alloc (.cells #[.int .i64 (r : Int), .int .u8 (x : Int)] 90)).heap[KB]? = some (.cells #[.int .i64 (r : Int), .int .u8 (x : Int)] 90 (0, 0))) := heap_alloc_at hK
  have HH := hide (h.fr FA.out)
  obtain ⟨w1, hw1⟩ : ∃ w1, w1 = w.alloc (.cells #[.int .i64 (r : Int), .int .u8 (x : Int)] 90) := ⟨_, rfl⟩
  rw [← hw1] at FA HKc HH
  have Hw1 := hide hw1
  have Hhn' := hide hn'
  clear h hl hy hK hfz hw1 hn' hF
  go_enter Try.func36, Try.ntmps36
  go_upto_region 3 with fail
  rw [← HK.out, ← Hw1.out]
  have HFz : Hid (Fr (fun _ => False) w w1.drew) := FA.out.join (Fr.of_drewN w1 1)
  have s4 : w1.cell? ⟨A, 4, none⟩ = some (.map (some mb)) := HH.out.cell.2.2.2.2.1
  have k0 : w1.cell? ⟨KB, 0, none⟩ = some (.int .i64 (r : Int)) := cell_of HKc.out rfl
  have k1 : w1.cell? ⟨KB, 1, none⟩ = some (.int .u8 (x : Int)) := cell_of HKc.out rfl
  have hl1 := HL.out w1.drew HFz.out
  refine wp_region_held_drew (S := fun W' => W'.cell? ⟨A, 4, none⟩ = some (.map (some mb)) ∧ W'.cell? ⟨KB, 0, none⟩ = some (.int .i64 (r : Int)) ∧ W'.cell? ⟨KB, 1, none⟩ = some (.int .u8 (x : Int)) ∧ (Instr.lookup 86 (.map (some mb)) (.agg #[.int .i64 (r : Int), .int .u8 (x : Int)]) true).run Try.prog W' = .ok (.tuple #[.int .i64 y, .bool false]) W') (by kernel_rfl) ⟨s4, k0, k1, hl1⟩ (fun hHeld => ?_)
  refine wpAnyH_take (i := 0) (v := ?v0) rfl (by kernel_rfl) (by kernel_rfl) (by kernel_rfl) (fun _ _ _ h => h) (Or.inl ⟨by rfl, ?hy0⟩) hHeld ?rest0
  case hy0 => (intro W hSw; (try dsimp only at hSw); obtain ⟨t4, u0, u1, tl⟩ := hSw; go_simp; all_goals (with_reducible rfl))
  change wpAnyH _ _ _ _ _ _ _ (Act.put _ (some 24) _) _
  simp only [Act.put, List.setIfInBounds_toArray, List.set_cons_zero, List.set_cons_succ]
  refine wpAnyH_take (i := 4) (v := ?v4) rfl (by kernel_rfl) (by kernel_rfl) (by kernel_rfl) (fun _ _ _ h => h) (Or.inl ⟨by rfl, ?hy4⟩) hHeld ?rest4
  case hy4 => (intro W hSw; (try dsimp only at hSw); obtain ⟨t4, u0, u1, tl⟩ := hSw; go_simp; all_goals (with_reducible rfl))
  change wpAnyH _ _ _ _ _ _ _ (Act.put _ (some 28) _) _
  simp only [Act.put, List.setIfInBounds_toArray, List.set_cons_zero, List.set_cons_succ]
  refine wpAnyH_take (i := 1) (v := ?v1) rfl (by kernel_rfl) (by kernel_rfl) (by kernel_rfl) (fun _ _ _ h => h) (Or.inl ⟨by rfl, ?hy1⟩) hHeld ?rest1
  case hy1 => (intro W hSw; (try dsimp only at hSw); obtain ⟨t4, u0, u1, tl⟩ := hSw; go_simp; all_goals (with_reducible rfl))
  change wpAnyH _ _ _ _ _ _ _ (Act.put _ (some 25) _) _
  simp only [Act.put, List.setIfInBounds_toArray, List.set_cons_zero, List.set_cons_succ]
  refine wpAnyH_take (i := 2) (v := ?v2) rfl (by kernel_rfl) (by kernel_rfl) (by kernel_rfl) (fun _ _ _ h => h) (Or.inl ⟨by rfl, ?hy2⟩) hHeld ?rest2
  case hy2 => (intro W hSw; (try dsimp only at hSw); obtain ⟨t4, u0, u1, tl⟩ := hSw; go_simp; all_goals (with_reducible rfl))
  change wpAnyH _ _ _ _ _ _ _ (Act.put _ (some 26) _) _
  simp only [Act.put, List.setIfInBounds_toArray, List.set_cons_zero, List.set_cons_succ]
  refine wpAnyH_take (i := 3) (v := ?v3) rfl (by kernel_rfl) (by kernel_rfl) (by kernel_rfl) (fun _ _ _ h => h) (Or.inl ⟨by rfl, ?hy3⟩) hHeld ?rest3
  case hy3 => (intro W hSw; (try dsimp only at hSw); obtain ⟨t4, u0, u1, tl⟩ := hSw; go_simp; all_goals (with_reducible rfl))
  change wpAnyH _ _ _ _ _ _ _ (Act.put _ (some 27) _) _
  simp only [Act.put, List.setIfInBounds_toArray, List.set_cons_zero, List.set_cons_succ]
  refine wpAnyH_take (i := 5) (v := ?v5) rfl (by kernel_rfl) (by kernel_rfl) (by kernel_rfl) (fun _ _ _ h => h) (Or.inl ⟨by rfl, ?hy5⟩) hHeld ?rest5
  case hy5 => (intro W hSw; (try dsimp only at hSw); obtain ⟨t4, u0, u1, tl⟩ := hSw; go_simp; all_goals (with_reducible rfl))
  change wpAnyH _ _ _ _ _ _ _ (Act.put _ (some 29) _) _
  simp only [Act.put, List.setIfInBounds_toArray, List.set_cons_zero, List.set_cons_succ]
  refine wpAnyH_take (i := 6) (v := ?v6) rfl (by kernel_rfl) (by kernel_rfl) (by kernel_rfl) (fun _ _ _ h => h) (Or.inl ⟨by rfl, ?hy6⟩) hHeld ?rest6
  case hy6 => (intro W hSw; (try dsimp only at hSw); obtain ⟨t4, u0, u1, tl⟩ := hSw; go_simp; all_goals (with_reducible rfl))
  change wpAnyH _ _ _ _ _ _ _ (Act.put _ (some 23) _) _
  simp only [Act.put, List.setIfInBounds_toArray, List.set_cons_zero, List.set_cons_succ]
  refine wpAnyH_take (i := 7) (v := ?v7) rfl (by kernel_rfl) (by kernel_rfl) (by kernel_rfl) (fun _ _ _ h => h) (Or.inl ⟨by rfl, ?hy7⟩) hHeld ?rest7
  case hy7 => (intro W hSw; (try dsimp only at hSw); obtain ⟨t4, u0, u1, tl⟩ := hSw; go_simp; all_goals (with_reducible rfl))
  change wpAnyH _ _ _ _ _ _ _ (Act.put _ (some 30) _) _
  simp only [Act.put, List.setIfInBounds_toArray, List.set_cons_zero, List.set_cons_succ]
  refine wpAnyH_take (i := 8) (v := ?v8) rfl (by kernel_rfl) (by kernel_rfl) (by kernel_rfl) (fun _ _ _ h => h) (Or.inl ⟨by rfl, ?hy8⟩) hHeld ?rest8
  case hy8 => (intro W hSw; (try dsimp only at hSw); obtain ⟨t4, u0, u1, tl⟩ := hSw; go_simp; all_goals (with_reducible rfl))
  change wpAnyH _ _ _ _ _ _ _ (Act.put _ (some 31) _) _
  simp only [Act.put, List.setIfInBounds_toArray, List.set_cons_zero, List.set_cons_succ]
  refine wpAnyH_take (i := 9) (v := ?v9) rfl (by kernel_rfl) (by kernel_rfl) (by kernel_rfl) (fun _ _ _ h => h) (Or.inl ⟨by rfl, ?hy9⟩) hHeld ?rest9
  case hy9 => (intro W hSw; (try dsimp only at hSw); obtain ⟨t4, u0, u1, tl⟩ := hSw; go_simp; all_goals (with_reducible rfl))
  change wpAnyH _ _ _ _ _ _ _ (Act.put _ (some 5) _) _
  simp only [Act.put, List.setIfInBounds_toArray, List.set_cons_zero, List.set_cons_succ]
  refine wpAnyH_take (i := 10) (v := ?v10) rfl (by kernel_rfl) (by kernel_rfl) (by kernel_rfl) (fun _ _ _ h => h) (Or.inl ⟨by rfl, ?hy10⟩) hHeld ?rest10
  case hy10 => (intro W hSw; (try dsimp only at hSw); obtain ⟨t4, u0, u1, tl⟩ := hSw; go_simp; all_goals (with_reducible rfl))
  change wpAnyH _ _ _ _ _ _ _ (Act.put _ (some 6) _) _
  simp only [Act.put, List.setIfInBounds_toArray, List.set_cons_zero, List.set_cons_succ]
  refine wpAnyH_done (by kernel_rfl) ?_ _
  clear hHeld s4 k0 k1 hl1
  have HH2 := hide (HH.out.fr (Fr.of_drewN w1 1))
  obtain ⟨w2, hw2⟩ : ∃ w2, w2 = w1.drew := ⟨_, rfl⟩
  have hw2b : w1.drewN 1 = w2 := by rw [hw2]; rfl
  have HKc2 : Hid (w2.heap[KB]? = some (.cells #[.int .i64 (r : Int), .int .u8 (x : Int)] 90 (0, 0))) := by rw [hw2]; exact HKc.out
  rw [hw2b] at HH2
  rw [← hw2] at HFz ⊢
  have HP := hide (putRow_c lo A mb k n first r F mn v p w2 hk HH2.out (by omega) hr2 hn (Nat.le_trans hlo HFz.out.size))
  rw [← Hhn'.out] at HP
  clear hw2 hw2b m4 m6 HKc FA
  go_wp2_with fail
  refine HP.out.mono ?_
  rintro e w3 ⟨rfl, hk3, hF3⟩
  have HKc3 : Hid (w3.heap[KB]? = some (.cells #[.int .i64 (r : Int), .int .u8 (x : Int)] 90 (0, 0))) := (hF3.block KB (lt_of HKc2.out) (fun e => e.2 _ _ HKc2.out)).trans HKc2.out
  have HF3 := hide ((HFz.out.mono (S' := fun j => lo ≤ j) fun _ _ e => e.elim).join (Sk.low hF3))
  have HK3 := hide hk3
  have hn4 : nextN k n' ≤ 4096 := by rw [Hhn'.out]; unfold nextN at *; split <;> omega
  have hwn := wid_le k hk n
  clear hk3 hF3 HP HH2 HKc2 HH
  have HFl := hide (full_c A 1 k n' w3 HK3.out.num)
  by_cases hfull : nextN k n' = 4096
  · have hd : decide (nextN k n' = 4096) = true := decide_eq_true hfull
    rw [hd] at HFl
    have HC := hide (putClear_c lo A mb k n' false (r : Int) F mn _ _ w3 hk HK3.out (by omega) (Nat.le_trans hlo HF3.out.size))
    have Hfull := hide hfull
    clear hd hfull
    go_wp2_with fail
    refine HFl.out.mono ?_
    rintro e w4 ⟨rfl, rfl⟩
    go_wp2_with fail
    refine HC.out.mono ?_
    rintro e w5 ⟨rfl, hk5, hF5⟩
    obtain ⟨_, _, _, _, _, _, q6, qfz⟩ := hk5.cell
    have g6 := qfz 6
    have HK5 := hide hk5
    have HF5 := hide (HF3.out.join hF5)
    clear hk5 hF5 qfz HFl HC
    go_wp2_with fail
    go_end0
    exact ⟨rfl, HF5.out.join ((Fr.of_setCell w5 ⟨A, 6, none⟩ _).mono fun j _ e => by rw [e]; exact HK5.out.hA), fun e => absurd Hfull.out e, fun _ => HK5.out.setRow x⟩
  · have hd : decide (nextN k n' = 4096) = false := decide_eq_false hfull
    rw [hd] at HFl
    have Hfull := hide hfull
    obtain ⟨N, hN⟩ : ∃ N, N = nextN k n' := ⟨_, rfl⟩
    have hN4 : N < 5000 := by omega
    have HN := hide hN
    clear hd hfull
    have s4 : w3.cell? ⟨A, 4, none⟩ = some (.map (some mb)) := HK3.out.cell.2.2.2.2.1
    have s2 : w3.cell? ⟨A, 2, none⟩ = some (.int .i64 (N : Int)) := by rw [hN]; exact HK3.out.cell.2.2.1
    have k0 : w3.cell? ⟨KB, 0, none⟩ = some (.int .i64 (r : Int)) := cell_of HKc3.out rfl
    have k1 : w3.cell? ⟨KB, 1, none⟩ = some (.int .u8 (x : Int)) := cell_of HKc3.out rfl
    clear hN
    go_wp2_with fail
    refine HFl.out.mono ?_
    rintro e w4 ⟨rfl, rfl⟩
    go_upto_region 9 with fail
    have HM3 := hide (HK3.out.mp.fr (Fr.of_drewN w3 1) (fun e => e))
    refine wp_region_held_drew (S := fun W' => W'.cell? ⟨A, 4, none⟩ = some (.map (some mb)) ∧ W'.cell? ⟨A, 2, none⟩ = some (.int .i64 (N : Int)) ∧ W'.cell? ⟨KB, 0, none⟩ = some (.int .i64 (r : Int)) ∧ W'.cell? ⟨KB, 1, none⟩ = some (.int .u8 (x : Int))) (by kernel_rfl) ⟨s4, s2, k0, k1⟩ (fun hHeld => ?_)
    refine wpAnyH_take (i := 0) (v := ?v0z) rfl (by kernel_rfl) (by kernel_rfl) (by kernel_rfl) (fun _ _ _ h => h) (Or.inl ⟨by rfl, ?hy0z⟩) hHeld ?rest0z
    case hy0z => (intro W hSw; (try dsimp only at hSw); obtain ⟨u4, u2, u0, u1⟩ := hSw; go_simp; all_goals (with_reducible rfl))
    change wpAnyH _ _ _ _ _ _ _ (Act.put _ (some 45) _) _
    simp only [Act.put, List.setIfInBounds_toArray, List.set_cons_zero, List.set_cons_succ]
    refine wpAnyH_take (i := 4) (v := ?v4z) rfl (by kernel_rfl) (by kernel_rfl) (by kernel_rfl) (fun _ _ _ h => h) (Or.inl ⟨by rfl, ?hy4z⟩) hHeld ?rest4z
    case hy4z => (intro W hSw; (try dsimp only at hSw); obtain ⟨u4, u2, u0, u1⟩ := hSw; go_simp; all_goals (with_reducible rfl))
    change wpAnyH _ _ _ _ _ _ _ (Act.put _ (some 49) _) _
    simp only [Act.put, List.setIfInBounds_toArray, List.set_cons_zero, List.set_cons_succ]
    refine wpAnyH_take (i := 5) (v := ?v5z) rfl (by kernel_rfl) (by kernel_rfl) (by kernel_rfl) (fun _ _ _ h => h) (Or.inl ⟨by rfl, ?hy5z⟩) hHeld ?rest5z
    case hy5z => (intro W hSw; (try dsimp only at hSw); obtain ⟨u4, u2, u0, u1⟩ := hSw; go_simp; all_goals (with_reducible rfl))
    change wpAnyH _ _ _ _ _ _ _ (Act.put _ (some 50) _) _
    simp only [Act.put, List.setIfInBounds_toArray, List.set_cons_zero, List.set_cons_succ]
    refine wpAnyH_take (i := 1) (v := ?v1z) rfl (by kernel_rfl) (by kernel_rfl) (by kernel_rfl) (fun _ _ _ h => h) (Or.inl ⟨by rfl, ?hy1z⟩) hHeld ?rest1z
    case hy1z => (intro W hSw; (try dsimp only at hSw); obtain ⟨u4, u2, u0, u1⟩ := hSw; go_simp; all_goals (with_reducible rfl))
    change wpAnyH _ _ _ _ _ _ _ (Act.put _ (some 46) _) _
    simp only [Act.put, List.setIfInBounds_toArray, List.set_cons_zero, List.set_cons_succ]
    refine wpAnyH_take (i := 6) (v := ?v6z) rfl (by kernel_rfl) (by kernel_rfl) (by kernel_rfl) (fun _ _ _ h => h) (Or.inl ⟨by rfl, ?hy6z⟩) hHeld ?rest6z
    case hy6z => (intro W hSw; (try dsimp only at hSw); obtain ⟨u4, u2, u0, u1⟩ := hSw; go_simp; all_goals (with_reducible rfl))
    change wpAnyH _ _ _ _ _ _ _ (Act.put _ (some 51) _) _
    simp only [Act.put, List.setIfInBounds_toArray, List.set_cons_zero, List.set_cons_succ]
    refine wpAnyH_take (i := 2) (v := ?v2z) rfl (by kernel_rfl) (by kernel_rfl) (by kernel_rfl) (fun _ _ _ h => h) (Or.inl ⟨by rfl, ?hy2z⟩) hHeld ?rest2z
    case hy2z => (intro W hSw; (try dsimp only at hSw); obtain ⟨u4, u2, u0, u1⟩ := hSw; go_simp; all_goals (with_reducible rfl))
    change wpAnyH _ _ _ _ _ _ _ (Act.put _ (some 47) _) _
    simp only [Act.put, List.setIfInBounds_toArray, List.set_cons_zero, List.set_cons_succ]
    refine wpAnyH_take (i := 7) (v := ?v7z) rfl (by kernel_rfl) (by kernel_rfl) (by kernel_rfl) (fun _ _ _ h => h) (Or.inl ⟨by rfl, ?hy7z⟩) hHeld ?rest7z
    case hy7z => (intro W hSw; (try dsimp only at hSw); obtain ⟨u4, u2, u0, u1⟩ := hSw; go_simp; all_goals (with_reducible rfl))
    change wpAnyH _ _ _ _ _ _ _ (Act.put _ (some 52) _) _
    simp only [Act.put, List.setIfInBounds_toArray, List.set_cons_zero, List.set_cons_succ]
    refine wpAnyH_take (i := 3) (v := ?v3z) rfl (by kernel_rfl) (by kernel_rfl) (by kernel_rfl) (fun _ _ _ h => h) (Or.inl ⟨by rfl, ?hy3z⟩) hHeld ?rest3z
    case hy3z => (intro W hSw; (try dsimp only at hSw); obtain ⟨u4, u2, u0, u1⟩ := hSw; go_simp; all_goals (with_reducible rfl))
    change wpAnyH _ _ _ _ _ _ _ (Act.put _ (some 48) _) _
    simp only [Act.put, List.setIfInBounds_toArray, List.set_cons_zero, List.set_cons_succ]
    refine wpAnyH_take (i := 8) (v := ?v8z) rfl (by kernel_rfl) (by kernel_rfl) (by kernel_rfl) (fun _ _ _ h => h) (Or.inl ⟨by rfl, ?hy8z⟩) hHeld ?rest8z
    case hy8z => (intro W hSw; (try dsimp only at hSw); obtain ⟨u4, u2, u0, u1⟩ := hSw; go_simp; all_goals (with_reducible rfl))
    change wpAnyH _ _ _ _ _ _ _ (Act.put _ (some 53) _) _
    simp only [Act.put, List.setIfInBounds_toArray, List.set_cons_zero, List.set_cons_succ]
    refine wpAnyH_take (i := 9) (v := ?v9z) rfl (by kernel_rfl) (by kernel_rfl) (by kernel_rfl) (fun _ _ _ h => h) (Or.inl ⟨by rfl, ?hy9z⟩) hHeld ?rest9z
    case hy9z => (intro W hSw; (try dsimp only at hSw); obtain ⟨u4, u2, u0, u1⟩ := hSw; go_simp; all_goals (with_reducible rfl))
    change wpAnyH _ _ _ _ _ _ _ (Act.put _ (some 54) _) _
    simp only [Act.put, List.setIfInBounds_toArray, List.set_cons_zero, List.set_cons_succ]
    refine wpAnyH_ready (rs := [10]) (by kernel_rfl) (by simp) ?_
    refine AllReadyH.cons rfl (fun K hK => ?_) AllReadyH.nil
    try simp only [List.getElem_toArray, List.getElem_cons_succ, List.getElem_cons_zero]
    obtain ⟨w5, hrun, hmp5, hF5⟩ := HM3.out.storeAll (show r < 5000 by omega) hx hN4 hmn
    have hrun2 : (Instr.mapUpdate 86 (.map (some mb)) (.agg #[.int .i64 (r : Int), .int .u8 (x : Int)]) (.int .i64 (N : Int))).run Try.prog w3.drew = .ok () w5 := hrun
    have HF5 := hide hF5
    have HMp5 := hide hmp5
    have hAm : A ≠ mb := fun e => HK3.out.ap e.symm
    have hKm : KB ≠ mb := fun e => by have h1 := HKc3.out; obtain ⟨D, ⟨es, ck, h2, _⟩, _⟩ := HK3.out.mp.it; rw [e, h2] at h1; cases h1
    have t4 : w5.cell? ⟨A, 4, none⟩ = some (.map (some mb)) := (cell_blk (a := ⟨A, 4, none⟩) (hF5.block A (cell_lt s4) hAm)).trans s4
    have t2 : w5.cell? ⟨A, 2, none⟩ = some (.int .i64 (N : Int)) := (cell_blk (a := ⟨A, 2, none⟩) (hF5.block A (cell_lt s4) hAm)).trans s2
    have t0 : w5.cell? ⟨KB, 0, none⟩ = some (.int .i64 (r : Int)) := (cell_blk (a := ⟨KB, 0, none⟩) (hF5.block KB (cell_lt k0) hKm)).trans k0
    have t1 : w5.cell? ⟨KB, 1, none⟩ = some (.int .u8 (x : Int)) := (cell_blk (a := ⟨KB, 1, none⟩) (hF5.block KB (cell_lt k0) hKm)).trans k1
    clear hrun hF5 hmp5
    go_simp
    refine hK.out _ _ ⟨t4, t2, t0, t1⟩ (fun hHeld => ?_)
    clear hK K
    refine wpAnyH_done (by kernel_rfl) ?_ _
    have HK5 := hide ((HK3.out.fr (Fr.of_drewN w3 1)).setMap HMp5.out HF5.out)
    obtain ⟨_, _, _, _, _, _, q6, qfz⟩ := HK5.out.cell
    have g6 := qfz 6
    have HF6 := hide (HF3.out.join (((Fr.of_drewN w3 1).mono (S' := fun j => lo ≤ j) fun _ _ e => e.elim).join (HF5.out.mono fun j _ e => by rw [e]; exact HK5.out.hm)))
    clear hHeld qfz HFl hrun2 t4 t2 t0 t1 s4 s2 k0 k1
    go_wp2_with fail
    go_end0
    exact ⟨rfl, HF6.out.join ((Fr.of_setCell w5 ⟨A, 6, none⟩ _).mono fun j _ e => by rw [e]; exact HK5.out.hA), fun _ => by rw [← HN.out]; exact HK5.out.setRow x, fun e => absurd e Hfull.out⟩
end Go.Proofs.Ytdbgolklgiadeaa
