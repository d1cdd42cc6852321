/-
  adam: AdamSums.
-/
import Derived.Test.YtdnhndiaiejkoaaDoorMa
namespace Go.Proofs.YtdnhndiaiejkoaaDoor
open Go.RowKit
set_option linter.unusedVariables false

theorem mul_le64 {x y : Int} {c : Int} (hx : 0 ≤ x ∧ x ≤ c) (hy : 0 ≤ y ∧ y ≤ 64) : 0 ≤ x * y ∧ x * y ≤ 64 * c := by
  refine ⟨Int.mul_nonneg hx.1 hy.1, ?_⟩
  have h1 : x * y ≤ c * y := Int.mul_le_mul_of_nonneg_right hx.2 hy.1
  have h2 : c * y ≤ c * 64 := Int.mul_le_mul_of_nonneg_left hy.2 (by omega)
  omega
theorem mul_le513 {x y : Int} (hx : 0 ≤ x ∧ x ≤ 64) (hy : 0 ≤ y ∧ y ≤ 2049) : 0 ≤ x * y ∧ x * y ≤ 200000 := by
  refine ⟨Int.mul_nonneg hx.1 hy.1, ?_⟩
  have h1 : x * y ≤ 64 * y := Int.mul_le_mul_of_nonneg_right hx.2 hy.1
  omega

set_option maxHeartbeats 3200000 in
theorem sums_law (x y z : Int) (w : World) (hg : Gw w) (hx : 0 ≤ x ∧ x < 256) (hy : 0 ≤ y ∧ y < 256) (hz : 0 ≤ z ∧ z < 256) : Calls Tryd.prog 6 #[.int .u8 x, .int .u8 y, .int .u8 z] w fun e w' => e = .returned (.bool true) ∧ Below w.heap.size w w' := by
  have HG := hide hg
  clear hg
  obtain ⟨hx0, hx1⟩ := hx
  obtain ⟨hy0, hy1⟩ := hy
  obtain ⟨hz0, hz1⟩ := hz
  go_enter Tryd.func6, Tryd.ntmps6
  go_wp2_with fail
  refine (awake_c w HG.out).mono ?_
  rintro e w1 ⟨rfl, hf1⟩
  have HF1 := hide hf1
  have HG1 := hide (HG.out.fr hf1)
  clear hf1 HG
  go_upto_region 4 with fail
  have hA : 1 ≤ 1 + x % 64 ∧ 1 + x % 64 ≤ 64 := by omega
  have hB : 1 ≤ 1 + y % 64 ∧ 1 + y % 64 ≤ 64 := by omega
  have hN : 1 ≤ 1 + z % 64 ∧ 1 + z % 64 ≤ 64 := by omega
  generalize 1 + x % 64 = A at *
  generalize 1 + y % 64 = B at *
  generalize 1 + z % 64 = N at *
  obtain ⟨t1, t2, t3, t4, t5, t6, t7, t8, t9⟩ := sums_all hA hB hN
  have HP := hide (passes_any A B w1 HG1.out)
  rw [t2] at HP
  have HWh := hide (fun w => whole_any A B w)
  rw [t3] at HWh
  have h7 := pas_le A B 7
  clear t1 t2 t3 HG1
  generalize pas A B 7 = l at *
  have HWl : Hid ((whl A B).length = 1) := rfl
  generalize whl A B = l1 at *
  go_wp2_with fail
  refine (calls_args HP.out (by rfl)).mono ?_
  rintro e w2 ⟨v, rfl, ho, hf2⟩
  obtain ⟨a2, c2, rfl, _, _, hl2⟩ := ho.form
  have HF2 := hide (HF1.out.join hf2)
  have HL2 := hide hl2
  clear hl2 hf2 ho HF1 HP
  have hAr : ∀ q ∈ l, 0 ≤ area q ∧ area q ≤ 4096 := fun q hq => by
    obtain ⟨e1, e2, e3, e4⟩ := t6 q hq
    exact mul_le64 (c := 64) ⟨by omega, by omega⟩ ⟨by omega, by omega⟩
  have hHr : ∀ q ∈ l, 0 ≤ q.h ∧ q.h ≤ 64 := fun q hq => by
    obtain ⟨e1, e2, e3, e4⟩ := t6 q hq
    exact ⟨by omega, by omega⟩
  have hRr : ∀ q ∈ l, 0 ≤ rowsP N q ∧ rowsP N q ≤ 200000 := fun q hq => by
    obtain ⟨e1, e2, e3, e4⟩ := t6 q hq
    have hr : rowsP N q = q.h * (1 + rowV q.w N) := if_pos e1
    have := rowV_facts q.w N
    rw [hr]
    exact mul_le513 ⟨by omega, by omega⟩ ⟨by omega, by omega⟩
  have HAr := hide hAr
  have HHr := hide hHr
  have HRr := hide hRr
  have T4 := hide t4
  have T5 := hide t5
  have T6 := hide t6
  have T7 := hide t7
  have T8 := hide t8
  have T9 := hide t9
  clear hAr hHr hRr t4 t5 t6 t7 t8 t9
  go_wp2
  go_loopw [11, 12, 13, 14] (fun pv rv yv iv wr => ∃ (k : Nat) (P R Y : Int), k ≤ l.length ∧ iv = .int .i64 k ∧ pv = .int .i64 P ∧ rv = .int .i64 R ∧ yv = .int .i64 Y ∧ Hid (P = sumF area (l.take k)) ∧ Hid (R = sumF (fun q => q.h) (l.take k)) ∧ Hid (Y = sumF (rowsP N) (l.take k)) ∧ Hid (Fr (fun _ => False) w2 wr)) (fun _ _ _ iv _ => l.length - (intOf iv).toNat)
  case atStart => exact ⟨0, 0, 0, 0, by omega, rfl, rfl, rfl, rfl, rfl, rfl, rfl, Fr.refl _ _⟩
  case round =>
    obtain ⟨k, P, R, Y, hkl, rfl, rfl, rfl, rfl, HPk, HRk, HYk, HF⟩ := hrel
    obtain ⟨p0, p1⟩ := sumF_take_le (f := area) (by omega) h7 HAr.out k
    obtain ⟨r0, r1⟩ := sumF_take_le (f := fun q => q.h) (by omega) h7 HHr.out k
    obtain ⟨y0, y1⟩ := sumF_take_le (f := rowsP N) (by omega) h7 HRr.out k
    rw [← HPk.out] at p0 p1
    rw [← HRk.out] at r0 r1
    rw [← HYk.out] at y0 y1
    by_cases hlt : k < l.length
    · obtain ⟨g, o, rfl, hA⟩ := HL2.out k hlt
      have h0 : (0 : Int) ≤ (k : Int) := by omega
      have h1 : (k : Int) < (l.length : Int) := by omega
      have hmem := getD_memP hlt
      obtain ⟨e1, e2, e3, e4⟩ := T6.out _ hmem
      have ea := HAr.out _ hmem
      have er := HRr.out _ hmem
      have HS1 : Hid (P + area (l.getD k default) = sumF area (l.take (k + 1))) := by show _ = _; rw [sumF_snoc _ _ _ hlt, HPk.out]
      have HS2 : Hid (R + (l.getD k default).h = sumF (fun q => q.h) (l.take (k + 1))) := by show _ = _; rw [sumF_snoc _ _ _ hlt, HRk.out]
      have HS3 : Hid (Y + rowsP N (l.getD k default) = sumF (rowsP N) (l.take (k + 1))) := by show _ = _; rw [sumF_snoc _ _ _ hlt, HYk.out]
      obtain ⟨d0, d1, d2, d3, d4, d5⟩ := hA
      generalize l.getD k default = q at *
      obtain ⟨qx, qy, qdx, qdy, qw, qh⟩ := q
      simp only [] at e1 e2 e3 e4 d4 d5 HS2
      have hr : rowsP N ⟨qx, qy, qdx, qdy, qw, qh⟩ = qh * (1 + rowV qw N) := if_pos e1
      rw [hr] at er HS3
      have ha : area ⟨qx, qy, qdx, qdy, qw, qh⟩ = qw * qh := rfl
      rw [ha] at ea HS1
      obtain ⟨v0, v1⟩ := rowV_facts qw N
      have HR := hide (fun w => row_c qw N w)
      clear hr ha hmem d0 d1 d2 d3 HPk HRk HYk
      generalize rowV qw N = V at *
      have HW1 := hide (wrap_i64_id (1 + V) (by omega) (by omega))
      have HW2 := hide (wrap_i64_id (qh * (1 + V)) (by omega) (by omega))
      have HW3 := hide (wrap_i64_id (Y + qh * (1 + V)) (by omega) (by omega))
      have HW4 := hide (wrap_i64_id (qw * qh) (by omega) (by omega))
      have HW5 := hide (wrap_i64_id (P + qw * qh) (by omega) (by omega))
      clear ea er p0 p1 y0 y1
      go_upto_region 9 with fail
      refine wp_region_held_drew (S := fun W' => Fr (fun _ => False) w2 W') (by kernel_rfl) (by exact HF.out.join (Fr.drew1 _ wr)) (fun hHeld => ?_)
      refine wpAnyH_take (i := 0) (v := ?v0a) rfl (by kernel_rfl) (by kernel_rfl) (by kernel_rfl) (fun _ _ _ h => h) (Or.inl ⟨by rfl, ?hy0a⟩) hHeld ?rest0a
      case hy0a => (intro W hSw; (try dsimp only at hSw); have z4 := hSw.cell0 d4; have z5 := hSw.cell0 d5; go_simp; all_goals (with_reducible rfl))
      change wpAnyH _ _ _ _ _ _ _ (Act.put _ (some 38) _) _
      simp only [Act.put, List.setIfInBounds_toArray, List.set_cons_zero, List.set_cons_succ]
      refine wpAnyH_take (i := 1) (v := ?v1a) rfl (by kernel_rfl) (by kernel_rfl) (by kernel_rfl) (fun _ _ _ h => h) (Or.inl ⟨by rfl, ?hy1a⟩) hHeld ?rest1a
      case hy1a => (intro W hSw; (try dsimp only at hSw); have z4 := hSw.cell0 d4; have z5 := hSw.cell0 d5; go_simp; all_goals (with_reducible rfl))
      change wpAnyH _ _ _ _ _ _ _ (Act.put _ (some 39) _) _
      simp only [Act.put, List.setIfInBounds_toArray, List.set_cons_zero, List.set_cons_succ]
      refine wpAnyH_take (i := 2) (v := ?v2a) rfl (by kernel_rfl) (by kernel_rfl) (by kernel_rfl) (fun _ _ _ h => h) (Or.inl ⟨by rfl, ?hy2a⟩) hHeld ?rest2a
      case hy2a => (intro W hSw; (try dsimp only at hSw); have z4 := hSw.cell0 d4; have z5 := hSw.cell0 d5; go_simp; all_goals (with_reducible rfl))
      change wpAnyH _ _ _ _ _ _ _ (Act.put _ (some 40) _) _
      simp only [Act.put, List.setIfInBounds_toArray, List.set_cons_zero, List.set_cons_succ]
      refine wpAnyH_take (i := 6) (v := ?v6a) rfl (by kernel_rfl) (by kernel_rfl) (by kernel_rfl) (fun _ _ _ h => h) (Or.inl ⟨by rfl, ?hy6a⟩) hHeld ?rest6a
      case hy6a => (intro W hSw; (try dsimp only at hSw); have z4 := hSw.cell0 d4; have z5 := hSw.cell0 d5; go_simp; all_goals (with_reducible rfl))
      change wpAnyH _ _ _ _ _ _ _ (Act.put _ (some 44) _) _
      simp only [Act.put, List.setIfInBounds_toArray, List.set_cons_zero, List.set_cons_succ]
      refine wpAnyH_take (i := 7) (v := ?v7a) rfl (by kernel_rfl) (by kernel_rfl) (by kernel_rfl) (fun _ _ _ h => h) (Or.inl ⟨by rfl, ?hy7a⟩) hHeld ?rest7a
      case hy7a => (intro W hSw; (try dsimp only at hSw); have z4 := hSw.cell0 d4; have z5 := hSw.cell0 d5; go_simp; all_goals (with_reducible rfl))
      change wpAnyH _ _ _ _ _ _ _ (Act.put _ (some 45) _) _
      simp only [Act.put, List.setIfInBounds_toArray, List.set_cons_zero, List.set_cons_succ]
      refine wpAnyH_take (i := 3) (v := ?v3a) rfl (by kernel_rfl) (by kernel_rfl) (by kernel_rfl) (fun _ _ _ h => h) (Or.inl ⟨by rfl, ?hy3a⟩) hHeld ?rest3a
      case hy3a => (intro W hSw; (try dsimp only at hSw); have z4 := hSw.cell0 d4; have z5 := hSw.cell0 d5; go_simp; all_goals (with_reducible rfl))
      change wpAnyH _ _ _ _ _ _ _ (Act.put _ (some 41) _) _
      simp only [Act.put, List.setIfInBounds_toArray, List.set_cons_zero, List.set_cons_succ]
      refine wpAnyH_take (i := 8) (v := ?v8a) rfl (by kernel_rfl) (by kernel_rfl) (by kernel_rfl) (fun _ _ _ h => h) (Or.inl ⟨by rfl, ?hy8a⟩) hHeld ?rest8a
      case hy8a => (intro W hSw; (try dsimp only at hSw); have z4 := hSw.cell0 d4; have z5 := hSw.cell0 d5; go_simp; all_goals (with_reducible rfl))
      change wpAnyH _ _ _ _ _ _ _ (Act.put _ (some 46) _) _
      simp only [Act.put, List.setIfInBounds_toArray, List.set_cons_zero, List.set_cons_succ]
      refine wpAnyH_take (i := 4) (v := ?v4a) rfl (by kernel_rfl) (by kernel_rfl) (by kernel_rfl) (fun _ _ _ h => h) (Or.inl ⟨by rfl, ?hy4a⟩) hHeld ?rest4a
      case hy4a => (intro W hSw; (try dsimp only at hSw); have z4 := hSw.cell0 d4; have z5 := hSw.cell0 d5; go_simp; all_goals (with_reducible rfl))
      change wpAnyH _ _ _ _ _ _ _ (Act.put _ (some 42) _) _
      simp only [Act.put, List.setIfInBounds_toArray, List.set_cons_zero, List.set_cons_succ]
      refine wpAnyH_take (i := 9) (v := ?v9a) rfl (by kernel_rfl) (by kernel_rfl) (by kernel_rfl) (fun _ _ _ h => h) (Or.inl ⟨by rfl, ?hy9a⟩) hHeld ?rest9a
      case hy9a => (intro W hSw; (try dsimp only at hSw); have z4 := hSw.cell0 d4; have z5 := hSw.cell0 d5; go_simp; all_goals (with_reducible rfl))
      change wpAnyH _ _ _ _ _ _ _ (Act.put _ (some 47) _) _
      simp only [Act.put, List.setIfInBounds_toArray, List.set_cons_zero, List.set_cons_succ]
      refine wpAnyH_take (i := 5) (v := ?v5a) rfl (by kernel_rfl) (by kernel_rfl) (by kernel_rfl) (fun _ _ _ h => h) (Or.inl ⟨by rfl, ?hy5a⟩) hHeld ?rest5a
      case hy5a => (intro W hSw; (try dsimp only at hSw); have z4 := hSw.cell0 d4; have z5 := hSw.cell0 d5; go_simp; all_goals (with_reducible rfl))
      change wpAnyH _ _ _ _ _ _ _ (Act.put _ (some 43) _) _
      simp only [Act.put, List.setIfInBounds_toArray, List.set_cons_zero, List.set_cons_succ]
      refine wpAnyH_take (i := 10) (v := ?v10a) rfl (by kernel_rfl) (by kernel_rfl) (by kernel_rfl) (fun _ _ _ h => h) (Or.inl ⟨by rfl, ?hy10a⟩) hHeld ?rest10a
      case hy10a => (intro W hSw; (try dsimp only at hSw); have z4 := hSw.cell0 d4; have z5 := hSw.cell0 d5; go_simp; all_goals (with_reducible rfl))
      change wpAnyH _ _ _ _ _ _ _ (Act.put _ (some 48) _) _
      simp only [Act.put, List.setIfInBounds_toArray, List.set_cons_zero, List.set_cons_succ]
      refine wpAnyH_take (i := 11) (v := ?v11a) rfl (by kernel_rfl) (by kernel_rfl) (by kernel_rfl) (fun _ _ _ h => h) (Or.inl ⟨by rfl, ?hy11a⟩) hHeld ?rest11a
      case hy11a => (intro W hSw; (try dsimp only at hSw); have z4 := hSw.cell0 d4; have z5 := hSw.cell0 d5; go_simp; all_goals (with_reducible rfl))
      change wpAnyH _ _ _ _ _ _ _ (Act.put _ (some 49) _) _
      simp only [Act.put, List.setIfInBounds_toArray, List.set_cons_zero, List.set_cons_succ]
      refine wpAnyH_take (i := 12) (v := ?v12a) rfl (by kernel_rfl) (by kernel_rfl) (by kernel_rfl) (fun _ _ _ h => h) (Or.inl ⟨by rfl, ?hy12a⟩) hHeld ?rest12a
      case hy12a => (intro W hSw; (try dsimp only at hSw); have z4 := hSw.cell0 d4; have z5 := hSw.cell0 d5; go_simp; all_goals (with_reducible rfl))
      change wpAnyH _ _ _ _ _ _ _ (Act.put _ (some 50) _) _
      simp only [Act.put, List.setIfInBounds_toArray, List.set_cons_zero, List.set_cons_succ]
      refine wpAnyH_take (i := 13) (v := ?v13a) rfl (by kernel_rfl) (by kernel_rfl) (by kernel_rfl) (fun _ _ _ h => h) (Or.inl ⟨by rfl, ?hy13a⟩) hHeld ?rest13a
      case hy13a => (intro W hSw; (try dsimp only at hSw); have z4 := hSw.cell0 d4; have z5 := hSw.cell0 d5; go_simp; all_goals (with_reducible rfl))
      change wpAnyH _ _ _ _ _ _ _ (Act.put _ (some 11) _) _
      simp only [Act.put, List.setIfInBounds_toArray, List.set_cons_zero, List.set_cons_succ]
      refine wpAnyH_done (by kernel_rfl) ?_ _
      have HF3 := hide hHeld
      have z5 := hHeld.cell0 d5
      clear hHeld HF
      generalize wr.drew = w3 at *
      go_upto_region 11 with fail
      clear z5
      refine wp_region_held_drew (S := fun W' => Fr (fun _ => False) w2 W') (by kernel_rfl) (by exact HF3.out.join (Fr.drew1 _ w3)) (fun hHeld => ?_)
      refine wpAnyH_take (i := 0) (v := ?v0b) rfl (by kernel_rfl) (by kernel_rfl) (by kernel_rfl) (fun _ _ _ h => h) (Or.inl ⟨by rfl, ?hy0b⟩) hHeld ?rest0b
      case hy0b => (intro W hSw; (try dsimp only at hSw); have z4 := hSw.cell0 d4; have z5 := hSw.cell0 d5; go_simp; all_goals (with_reducible rfl))
      change wpAnyH _ _ _ _ _ _ _ (Act.put _ (some 58) _) _
      simp only [Act.put, List.setIfInBounds_toArray, List.set_cons_zero, List.set_cons_succ]
      refine wpAnyH_take (i := 1) (v := ?v1b) rfl (by kernel_rfl) (by kernel_rfl) (by kernel_rfl) (fun _ _ _ h => h) (Or.inl ⟨by rfl, ?hy1b⟩) hHeld ?rest1b
      case hy1b => (intro W hSw; (try dsimp only at hSw); have z4 := hSw.cell0 d4; have z5 := hSw.cell0 d5; go_simp; all_goals (with_reducible rfl))
      change wpAnyH _ _ _ _ _ _ _ (Act.put _ (some 59) _) _
      simp only [Act.put, List.setIfInBounds_toArray, List.set_cons_zero, List.set_cons_succ]
      refine wpAnyH_take (i := 2) (v := ?v2b) rfl (by kernel_rfl) (by kernel_rfl) (by kernel_rfl) (fun _ _ _ h => h) (Or.inl ⟨by rfl, ?hy2b⟩) hHeld ?rest2b
      case hy2b => (intro W hSw; (try dsimp only at hSw); have z4 := hSw.cell0 d4; have z5 := hSw.cell0 d5; go_simp; all_goals (with_reducible rfl))
      change wpAnyH _ _ _ _ _ _ _ (Act.put _ (some 60) _) _
      simp only [Act.put, List.setIfInBounds_toArray, List.set_cons_zero, List.set_cons_succ]
      refine wpAnyH_take (i := 6) (v := ?v6b) rfl (by kernel_rfl) (by kernel_rfl) (by kernel_rfl) (fun _ _ _ h => h) (Or.inl ⟨by rfl, ?hy6b⟩) hHeld ?rest6b
      case hy6b => (intro W hSw; (try dsimp only at hSw); have z4 := hSw.cell0 d4; have z5 := hSw.cell0 d5; go_simp; all_goals (with_reducible rfl))
      change wpAnyH _ _ _ _ _ _ _ (Act.put _ (some 64) _) _
      simp only [Act.put, List.setIfInBounds_toArray, List.set_cons_zero, List.set_cons_succ]
      refine wpAnyH_take (i := 7) (v := ?v7b) rfl (by kernel_rfl) (by kernel_rfl) (by kernel_rfl) (fun _ _ _ h => h) (Or.inl ⟨by rfl, ?hy7b⟩) hHeld ?rest7b
      case hy7b => (intro W hSw; (try dsimp only at hSw); have z4 := hSw.cell0 d4; have z5 := hSw.cell0 d5; go_simp; all_goals (with_reducible rfl))
      change wpAnyH _ _ _ _ _ _ _ (Act.put _ (some 65) _) _
      simp only [Act.put, List.setIfInBounds_toArray, List.set_cons_zero, List.set_cons_succ]
      refine wpAnyH_take (i := 11) (v := ?v11b) rfl (by kernel_rfl) (by kernel_rfl) (by kernel_rfl) (fun _ _ _ h => h) (Or.inl ⟨by rfl, ?hy11b⟩) hHeld ?rest11b
      case hy11b => (intro W hSw; (try dsimp only at hSw); have z4 := hSw.cell0 d4; have z5 := hSw.cell0 d5; go_simp; all_goals (with_reducible rfl))
      change wpAnyH _ _ _ _ _ _ _ (Act.put _ (some 69) _) _
      simp only [Act.put, List.setIfInBounds_toArray, List.set_cons_zero, List.set_cons_succ]
      refine wpAnyH_take (i := 3) (v := ?v3b) rfl (by kernel_rfl) (by kernel_rfl) (by kernel_rfl) (fun _ _ _ h => h) (Or.inl ⟨by rfl, ?hy3b⟩) hHeld ?rest3b
      case hy3b => (intro W hSw; (try dsimp only at hSw); have z4 := hSw.cell0 d4; have z5 := hSw.cell0 d5; go_simp; all_goals (with_reducible rfl))
      change wpAnyH _ _ _ _ _ _ _ (Act.put _ (some 61) _) _
      simp only [Act.put, List.setIfInBounds_toArray, List.set_cons_zero, List.set_cons_succ]
      refine wpAnyH_take (i := 8) (v := ?v8b) rfl (by kernel_rfl) (by kernel_rfl) (by kernel_rfl) (fun _ _ _ h => h) (Or.inl ⟨by rfl, ?hy8b⟩) hHeld ?rest8b
      case hy8b => (intro W hSw; (try dsimp only at hSw); have z4 := hSw.cell0 d4; have z5 := hSw.cell0 d5; go_simp; all_goals (with_reducible rfl))
      change wpAnyH _ _ _ _ _ _ _ (Act.put _ (some 66) _) _
      simp only [Act.put, List.setIfInBounds_toArray, List.set_cons_zero, List.set_cons_succ]
      refine wpAnyH_take (i := 4) (v := ?v4b) rfl (by kernel_rfl) (by kernel_rfl) (by kernel_rfl) (fun _ _ _ h => h) (Or.inl ⟨by rfl, ?hy4b⟩) hHeld ?rest4b
      case hy4b => (intro W hSw; (try dsimp only at hSw); have z4 := hSw.cell0 d4; have z5 := hSw.cell0 d5; go_simp; all_goals (with_reducible rfl))
      change wpAnyH _ _ _ _ _ _ _ (Act.put _ (some 62) _) _
      simp only [Act.put, List.setIfInBounds_toArray, List.set_cons_zero, List.set_cons_succ]
      refine wpAnyH_take (i := 9) (v := ?v9b) rfl (by kernel_rfl) (by kernel_rfl) (by kernel_rfl) (fun _ _ _ h => h) (Or.inl ⟨by rfl, ?hy9b⟩) hHeld ?rest9b
      case hy9b => (intro W hSw; (try dsimp only at hSw); have z4 := hSw.cell0 d4; have z5 := hSw.cell0 d5; go_simp; all_goals (with_reducible rfl))
      change wpAnyH _ _ _ _ _ _ _ (Act.put _ (some 67) _) _
      simp only [Act.put, List.setIfInBounds_toArray, List.set_cons_zero, List.set_cons_succ]
      refine wpAnyH_take (i := 5) (v := ?v5b) rfl (by kernel_rfl) (by kernel_rfl) (by kernel_rfl) (fun _ _ _ h => h) (Or.inl ⟨by rfl, ?hy5b⟩) hHeld ?rest5b
      case hy5b => (intro W hSw; (try dsimp only at hSw); have z4 := hSw.cell0 d4; have z5 := hSw.cell0 d5; go_simp; all_goals (with_reducible rfl))
      change wpAnyH _ _ _ _ _ _ _ (Act.put _ (some 63) _) _
      simp only [Act.put, List.setIfInBounds_toArray, List.set_cons_zero, List.set_cons_succ]
      refine wpAnyH_take (i := 10) (v := ?v10b) rfl (by kernel_rfl) (by kernel_rfl) (by kernel_rfl) (fun _ _ _ h => h) (Or.inl ⟨by rfl, ?hy10b⟩) hHeld ?rest10b
      case hy10b => (intro W hSw; (try dsimp only at hSw); have z4 := hSw.cell0 d4; have z5 := hSw.cell0 d5; go_simp; all_goals (with_reducible rfl))
      change wpAnyH _ _ _ _ _ _ _ (Act.put _ (some 68) _) _
      simp only [Act.put, List.setIfInBounds_toArray, List.set_cons_zero, List.set_cons_succ]
      refine wpAnyH_ready (rs := [12]) (by kernel_rfl) (by simp) ?_
      refine AllReadyH.cons rfl (fun K hK => ?_) AllReadyH.nil
      try simp only [List.getElem_toArray, List.getElem_cons_succ, List.getElem_cons_zero]
      go_simp
      refine (HR.out _).mono ?_
      rintro e v ⟨rfl, rfl⟩
      refine hK.out _ _ hHeld (fun hHeld => ?_)
      clear hK K
      refine wpAnyH_take (i := 13) (v := ?v13b) rfl (by kernel_rfl) (by kernel_rfl) (by kernel_rfl) (fun _ _ _ h => h) (Or.inl ⟨by rfl, ?hy13b⟩) hHeld ?rest13b
      case hy13b => (intro W hSw; (try dsimp only at hSw); have z4 := hSw.cell0 d4; have z5 := hSw.cell0 d5; go_simp; all_goals (with_reducible rfl))
      change wpAnyH _ _ _ _ _ _ _ (Act.put _ (some 71) _) _
      simp only [Act.put, List.setIfInBounds_toArray, List.set_cons_zero, List.set_cons_succ]
      refine wpAnyH_take (i := 14) (v := ?v14b) rfl (by kernel_rfl) (by kernel_rfl) (by kernel_rfl) (fun _ _ _ h => h) (Or.inl ⟨by rfl, ?hy14b⟩) hHeld ?rest14b
      case hy14b => (intro W hSw; (try dsimp only at hSw); have z4 := hSw.cell0 d4; have z5 := hSw.cell0 d5; go_simp; all_goals (with_reducible rfl))
      change wpAnyH _ _ _ _ _ _ _ (Act.put _ (some 72) _) _
      simp only [Act.put, List.setIfInBounds_toArray, List.set_cons_zero, List.set_cons_succ]
      refine wpAnyH_take (i := 15) (v := ?v15b) rfl (by kernel_rfl) (by kernel_rfl) (by kernel_rfl) (fun _ _ _ h => h) (Or.inl ⟨by rfl, ?hy15b⟩) hHeld ?rest15b
      case hy15b => (intro W hSw; (try dsimp only at hSw); have z4 := hSw.cell0 d4; have z5 := hSw.cell0 d5; go_simp; all_goals (with_reducible rfl))
      change wpAnyH _ _ _ _ _ _ _ (Act.put _ (some 73) _) _
      simp only [Act.put, List.setIfInBounds_toArray, List.set_cons_zero, List.set_cons_succ]
      refine wpAnyH_take (i := 16) (v := ?v16b) rfl (by kernel_rfl) (by kernel_rfl) (by kernel_rfl) (fun _ _ _ h => h) (Or.inl ⟨by rfl, ?hy16b⟩) hHeld ?rest16b
      case hy16b => (intro W hSw; (try dsimp only at hSw); have z4 := hSw.cell0 d4; have z5 := hSw.cell0 d5; go_simp; all_goals (with_reducible rfl))
      change wpAnyH _ _ _ _ _ _ _ (Act.put _ (some 13) _) _
      simp only [Act.put, List.setIfInBounds_toArray, List.set_cons_zero, List.set_cons_succ]
      refine wpAnyH_done (by kernel_rfl) ?_ _
      have HF4 := hide hHeld
      clear hHeld HF3
      go_wp2
      go_roundw
      case rel => exact ⟨k + 1, P + qw * qh, R + qh, Y + qh * (1 + V), hlt, by go_num, by rw [HW4.out, HW5.out], by go_num, by rw [HW1.out, HW2.out, HW3.out], HS1.out, HS2.out, HS3.out, HF4.out⟩
      case measure => simp [intOf]; omega
    · have hke : k = l.length := by omega
      subst hke
      rw [List.take_length] at HPk HRk HYk
      have hBR : B ≤ R := by rw [HRk.out]; exact T5.out
      have hP : P = A * B := by rw [HPk.out]; exact T4.out
      have HZ := hide (fun w hl => bytes_c a2 c2 l N w hl (by omega))
      rw [T7.out, ← HYk.out] at HZ
      have HZ1 := hide (fun a c w hl => bytes_c a c l1 N w hl (by rw [HWl.out]; omega))
      rw [T8.out] at HZ1
      have hQ := T9.out
      rw [← HYk.out, ← HRk.out, ← hP] at hQ
      have hm1 : wrap64 (A * B) = P := by rw [← hP]; exact wrap64_id _ (by omega) (by omega)
      have hm2 : IntKind.i64.wrap (A * B) = P := by rw [← hP]; exact wrap_i64_id _ (by omega) (by omega)
      have hpn := mul_le64 (x := P) (y := N) (c := 28672) ⟨by omega, by omega⟩ ⟨by omega, by omega⟩
      have han := mul_le64 (x := A) (y := N) (c := 64) ⟨by omega, by omega⟩ ⟨by omega, by omega⟩
      have hbn := mul_le513 (x := B) (y := 1 + (A * N + 7) / 8) ⟨by omega, by omega⟩ ⟨by omega, by omega⟩
      have hm3 : wrap64 (P * N) = P * N := wrap64_id _ (by omega) (by omega)
      have hm4 : wrap64 (A * N) = A * N := wrap64_id _ (by omega) (by omega)
      have hm5 : wrap64 (B * (1 + (A * N + 7) / 8)) = B * (1 + (A * N + 7) / 8) := wrap64_id _ (by omega) (by omega)
      have hm6 : IntKind.i64.wrap (P * N) = P * N := wrap_i64_id _ (by omega) (by omega)
      have hm7 : IntKind.i64.wrap (A * N) = A * N := wrap_i64_id _ (by omega) (by omega)
      have hm8 : IntKind.i64.wrap (B * (1 + (A * N + 7) / 8)) = B * (1 + (A * N + 7) / 8) := wrap_i64_id _ (by omega) (by omega)
      have h77 : (l.length : Int) ≤ 7 := by omega
      clear hP
      go_wp2_with fail
      refine (HZ.out _ (HL2.out.fr0 HF.out)).mono ?_
      rintro e w4 ⟨rfl, hf4⟩
      have HF4 := hide (HF2.out.join (HF.out.join hf4))
      clear hf4 HF HF2 HL2 HZ
      go_wp2_with fail
      refine (HWh.out w4).mono ?_
      rintro e w5 ⟨v, rfl, ho, hf5⟩
      obtain ⟨a5, c5, rfl, _, _, hl5⟩ := ho.form
      have HF5 := hide (HF4.out.join hf5)
      have HL5 := hide hl5
      clear hl5 hf5 ho HF4
      go_wp2_with fail
      refine (HZ1.out _ _ _ HL5.out).mono ?_
      rintro e w6 ⟨rfl, hf6⟩
      have HF6 := hide (HF5.out.join hf6)
      clear hf6 HF5 HL5
      go_wp2
      go_ret
      exact ⟨rfl, HF6.out.below (Nat.le_refl _) fun _ h => h.elim⟩
end Go.Proofs.YtdnhndiaiejkoaaDoor
