/-
  adam: the document's Bytes.
-/
import Derived.Test.YtdnhndiaiejkoaaDoorRi
namespace Go.Proofs.YtdnhndiaiejkoaaDoor
open Go.RowKit
set_option linter.unusedVariables false

set_option maxHeartbeats 1600000 in
theorem rbytes_c (a : Option Addr) (c : Nat) (l : List Pz) (b : Int) (w : World) (hl : LiesP w a l) (hlen : l.length ≤ 100000) :
    Calls Tryd.prog 16 #[.slice a l.length c, .int .i64 b] w fun e w' => e = .returned (.int .i64 (bytesV l b)) ∧ Fr (fun _ => False) w w' := by
  have Hl := hide hl
  clear hl
  by_cases h7 : l.length ≤ 7
  case neg =>
    have h8 : (7 : Int) < (l.length : Int) := by omega
    rw [bytesV_no fun h => h7 h.1]
    go_enter Tryd.func16, Tryd.ntmps16
    go_wp2
    go_ret
    exact ⟨rfl, Fr.refl _ _⟩
  have h8 : ¬ (7 : Int) < (l.length : Int) := by omega
  by_cases hb0 : b < 0
  · rw [bytesV_no fun h => by have := (depB_iff b).1 h.2.1; omega]
    go_enter Tryd.func16, Tryd.ntmps16
    go_wp2
    go_ret
    exact ⟨rfl, Fr.refl _ _⟩
  by_cases hb1 : 64 < b
  · rw [bytesV_no fun h => by have := (depB_iff b).1 h.2.1; omega]
    go_enter Tryd.func16, Tryd.ntmps16
    go_wp2
    go_ret
    exact ⟨rfl, Fr.refl _ _⟩
  have HB := hide ((depB_iff b).2 (by omega))
  go_enter Tryd.func16, Tryd.ntmps16
  go_wp2
  go_loopw [5, 6] (fun sv iv wr => ∃ (k : Nat) (S : Int), k ≤ l.length ∧ iv = .int .i64 k ∧ sv = .int .i64 S ∧ 0 ≤ S ∧ S ≤ 4000000 ∧ Hid (S = sumP b (l.take k)) ∧ Hid (∀ j, j < k → okP (l.getD j default) = true) ∧ Hid (Fr (fun _ => False) w wr)) (fun _ iv _ => l.length - (intOf iv).toNat)
  case atStart => exact ⟨0, 0, by omega, rfl, rfl, by omega, by omega, rfl, fun j hj => absurd hj (Nat.not_lt_zero _), Fr.refl _ _⟩
  case round =>
    obtain ⟨k, S, hkl, rfl, rfl, hS0, hS1, HS, HK, HF⟩ := hrel
    by_cases hlt : k < l.length
    · obtain ⟨g, o, rfl, hA⟩ := Hl.out k hlt
      have h0 : (0 : Int) ≤ (k : Int) := by omega
      have h1 : (k : Int) < (l.length : Int) := by omega
      have HSN := hide (sumP_snoc b l k hlt)
      have HOK : Hid (okP (l.getD k default) = true → ∀ j, j < k + 1 → okP (l.getD j default) = true) := fun h j hj => by
        by_cases e : j = k
        · rw [e]; exact h
        · exact HK.out j (by omega)
      have HNO : Hid (okP (l.getD k default) = false → bytesV l b = 0) := fun h => bytesV_no fun hh => by have := hh.2.2 k hlt; rw [h] at this; cases this
      have HBD : Hid (okP (l.getD k default) = true → 0 ≤ sumP b (l.take (k + 1)) ∧ sumP b (l.take (k + 1)) ≤ 4000000) := fun h => by
        have := sumP_facts (b := b) (k + 1) (by omega) (HOK.out h)
        push_cast at this
        omega
      obtain ⟨d0, d1, d2, d3, d4, d5⟩ := hA.fr0 HF.out
      generalize l.getD k default = q at *
      obtain ⟨x, y, dx, dy, pw, ph⟩ := q
      simp only [] at d0 d1 d2 d3 d4 d5
      clear d0 d1 d2 d3 hA
      have HN : Hid (¬ (0 ≤ pw ∧ pw ≤ 256 ∧ 0 ≤ ph ∧ ph ≤ 256) → bytesV l b = 0) := fun h => HNO.out (by
        cases e : okP ⟨x, y, dx, dy, pw, ph⟩ with
        | false => rfl
        | true =>
          obtain ⟨h1, h2⟩ := (by simpa [okP] using e : sideB pw = true ∧ sideB ph = true)
          exact absurd ⟨((sideB_iff _).1 h1).1, ((sideB_iff _).1 h1).2, (sideB_iff _).1 h2⟩ h)
      clear HNO
      by_cases a1 : pw < 0
      · have HZ := hide (HN.out (by omega))
        clear HN HOK HSN HBD
        go_wp2
        go_ret
        exact ⟨ret0 HZ.out.symm, HF.out⟩
      by_cases a2 : ph < 0
      · have HZ := hide (HN.out (by omega))
        clear HN HOK HSN HBD
        go_wp2
        go_ret
        exact ⟨ret0 HZ.out.symm, HF.out⟩
      by_cases a3 : 256 < pw
      · have HZ := hide (HN.out (by omega))
        clear HN HOK HSN HBD
        go_wp2
        go_ret
        exact ⟨ret0 HZ.out.symm, HF.out⟩
      by_cases a4 : 256 < ph
      · have HZ := hide (HN.out (by omega))
        clear HN HOK HSN HBD
        go_wp2
        go_ret
        exact ⟨ret0 HZ.out.symm, HF.out⟩
      have hok : okP ⟨x, y, dx, dy, pw, ph⟩ = true := by
        simp only [okP, Bool.and_eq_true]
        exact ⟨(sideB_iff pw).2 (by omega), (sideB_iff ph).2 (by omega)⟩
      have HBD2 := HBD.out hok
      rw [HSN.out, ← HS.out] at HBD2
      have HOK2 := hide (HOK.out hok)
      have HSN2 : Hid (S + rowsP b ⟨x, y, dx, dy, pw, ph⟩ = sumP b (l.take (k + 1))) := by show _ = _; rw [HSN.out, ← HS.out]
      clear HN HOK HSN HBD HS HK hok
      by_cases hp0 : 0 < pw
      · have hr : rowsP b ⟨x, y, dx, dy, pw, ph⟩ = ph * (1 + rowV pw b) := if_pos hp0
        rw [hr] at HBD2 HSN2
        obtain ⟨r0, r1⟩ := rowV_facts pw b
        have HR := hide (fun w => rrow_c pw b w)
        generalize rowV pw b = V at *
        obtain ⟨m0, m1⟩ := mul_rows (h := ph) (by omega) (by omega) r0 r1
        have HW1 := hide (wrap_i64_id (1 + V) (by omega) (by omega))
        have HW2 := hide (wrap_i64_id (ph * (1 + V)) (by omega) (by omega))
        have HW3 := hide (wrap_i64_id (S + ph * (1 + V)) (by omega) (by omega))
        have HBD3 := hide HBD2
        clear hr HBD2
        go_upto_region 10 with fail
        refine wp_region_held_drew (S := fun W' => Fr (fun _ => False) wr W') (by kernel_rfl) (by exact Fr.drew1 _ wr) (fun hHeld => ?_)
        refine wpAnyH_take (i := 0) (v := ?v0) rfl (by kernel_rfl) (by kernel_rfl) (by kernel_rfl) (fun _ _ _ h => h) (Or.inl ⟨by rfl, ?hy0⟩) hHeld ?rest0
        case hy0 => (intro W hSw; (try dsimp only at hSw); have z4 := hSw.cell0 d4; have z5 := hSw.cell0 d5; go_simp; all_goals (with_reducible rfl))
        change wpAnyH _ _ _ _ _ _ _ (Act.put _ (some 60) _) _
        simp only [Act.put, List.setIfInBounds_toArray, List.set_cons_zero, List.set_cons_succ]
        refine wpAnyH_take (i := 1) (v := ?v1) rfl (by kernel_rfl) (by kernel_rfl) (by kernel_rfl) (fun _ _ _ h => h) (Or.inl ⟨by rfl, ?hy1⟩) hHeld ?rest1
        case hy1 => (intro W hSw; (try dsimp only at hSw); have z4 := hSw.cell0 d4; have z5 := hSw.cell0 d5; go_simp; all_goals (with_reducible rfl))
        change wpAnyH _ _ _ _ _ _ _ (Act.put _ (some 61) _) _
        simp only [Act.put, List.setIfInBounds_toArray, List.set_cons_zero, List.set_cons_succ]
        refine wpAnyH_take (i := 2) (v := ?v2) rfl (by kernel_rfl) (by kernel_rfl) (by kernel_rfl) (fun _ _ _ h => h) (Or.inl ⟨by rfl, ?hy2⟩) hHeld ?rest2
        case hy2 => (intro W hSw; (try dsimp only at hSw); have z4 := hSw.cell0 d4; have z5 := hSw.cell0 d5; go_simp; all_goals (with_reducible rfl))
        change wpAnyH _ _ _ _ _ _ _ (Act.put _ (some 62) _) _
        simp only [Act.put, List.setIfInBounds_toArray, List.set_cons_zero, List.set_cons_succ]
        refine wpAnyH_take (i := 6) (v := ?v6) rfl (by kernel_rfl) (by kernel_rfl) (by kernel_rfl) (fun _ _ _ h => h) (Or.inl ⟨by rfl, ?hy6⟩) hHeld ?rest6
        case hy6 => (intro W hSw; (try dsimp only at hSw); have z4 := hSw.cell0 d4; have z5 := hSw.cell0 d5; go_simp; all_goals (with_reducible rfl))
        change wpAnyH _ _ _ _ _ _ _ (Act.put _ (some 66) _) _
        simp only [Act.put, List.setIfInBounds_toArray, List.set_cons_zero, List.set_cons_succ]
        refine wpAnyH_take (i := 7) (v := ?v7) rfl (by kernel_rfl) (by kernel_rfl) (by kernel_rfl) (fun _ _ _ h => h) (Or.inl ⟨by rfl, ?hy7⟩) hHeld ?rest7
        case hy7 => (intro W hSw; (try dsimp only at hSw); have z4 := hSw.cell0 d4; have z5 := hSw.cell0 d5; go_simp; all_goals (with_reducible rfl))
        change wpAnyH _ _ _ _ _ _ _ (Act.put _ (some 67) _) _
        simp only [Act.put, List.setIfInBounds_toArray, List.set_cons_zero, List.set_cons_succ]
        refine wpAnyH_take (i := 11) (v := ?v11) rfl (by kernel_rfl) (by kernel_rfl) (by kernel_rfl) (fun _ _ _ h => h) (Or.inl ⟨by rfl, ?hy11⟩) hHeld ?rest11
        case hy11 => (intro W hSw; (try dsimp only at hSw); have z4 := hSw.cell0 d4; have z5 := hSw.cell0 d5; go_simp; all_goals (with_reducible rfl))
        change wpAnyH _ _ _ _ _ _ _ (Act.put _ (some 71) _) _
        simp only [Act.put, List.setIfInBounds_toArray, List.set_cons_zero, List.set_cons_succ]
        refine wpAnyH_take (i := 3) (v := ?v3) rfl (by kernel_rfl) (by kernel_rfl) (by kernel_rfl) (fun _ _ _ h => h) (Or.inl ⟨by rfl, ?hy3⟩) hHeld ?rest3
        case hy3 => (intro W hSw; (try dsimp only at hSw); have z4 := hSw.cell0 d4; have z5 := hSw.cell0 d5; go_simp; all_goals (with_reducible rfl))
        change wpAnyH _ _ _ _ _ _ _ (Act.put _ (some 63) _) _
        simp only [Act.put, List.setIfInBounds_toArray, List.set_cons_zero, List.set_cons_succ]
        refine wpAnyH_take (i := 8) (v := ?v8) rfl (by kernel_rfl) (by kernel_rfl) (by kernel_rfl) (fun _ _ _ h => h) (Or.inl ⟨by rfl, ?hy8⟩) hHeld ?rest8
        case hy8 => (intro W hSw; (try dsimp only at hSw); have z4 := hSw.cell0 d4; have z5 := hSw.cell0 d5; go_simp; all_goals (with_reducible rfl))
        change wpAnyH _ _ _ _ _ _ _ (Act.put _ (some 68) _) _
        simp only [Act.put, List.setIfInBounds_toArray, List.set_cons_zero, List.set_cons_succ]
        refine wpAnyH_take (i := 4) (v := ?v4) rfl (by kernel_rfl) (by kernel_rfl) (by kernel_rfl) (fun _ _ _ h => h) (Or.inl ⟨by rfl, ?hy4⟩) hHeld ?rest4
        case hy4 => (intro W hSw; (try dsimp only at hSw); have z4 := hSw.cell0 d4; have z5 := hSw.cell0 d5; go_simp; all_goals (with_reducible rfl))
        change wpAnyH _ _ _ _ _ _ _ (Act.put _ (some 64) _) _
        simp only [Act.put, List.setIfInBounds_toArray, List.set_cons_zero, List.set_cons_succ]
        refine wpAnyH_take (i := 9) (v := ?v9) rfl (by kernel_rfl) (by kernel_rfl) (by kernel_rfl) (fun _ _ _ h => h) (Or.inl ⟨by rfl, ?hy9⟩) hHeld ?rest9
        case hy9 => (intro W hSw; (try dsimp only at hSw); have z4 := hSw.cell0 d4; have z5 := hSw.cell0 d5; go_simp; all_goals (with_reducible rfl))
        change wpAnyH _ _ _ _ _ _ _ (Act.put _ (some 69) _) _
        simp only [Act.put, List.setIfInBounds_toArray, List.set_cons_zero, List.set_cons_succ]
        refine wpAnyH_take (i := 5) (v := ?v5) rfl (by kernel_rfl) (by kernel_rfl) (by kernel_rfl) (fun _ _ _ h => h) (Or.inl ⟨by rfl, ?hy5⟩) hHeld ?rest5
        case hy5 => (intro W hSw; (try dsimp only at hSw); have z4 := hSw.cell0 d4; have z5 := hSw.cell0 d5; go_simp; all_goals (with_reducible rfl))
        change wpAnyH _ _ _ _ _ _ _ (Act.put _ (some 65) _) _
        simp only [Act.put, List.setIfInBounds_toArray, List.set_cons_zero, List.set_cons_succ]
        refine wpAnyH_take (i := 10) (v := ?v10) rfl (by kernel_rfl) (by kernel_rfl) (by kernel_rfl) (fun _ _ _ h => h) (Or.inl ⟨by rfl, ?hy10⟩) hHeld ?rest10
        case hy10 => (intro W hSw; (try dsimp only at hSw); have z4 := hSw.cell0 d4; have z5 := hSw.cell0 d5; go_simp; all_goals (with_reducible rfl))
        change wpAnyH _ _ _ _ _ _ _ (Act.put _ (some 70) _) _
        simp only [Act.put, List.setIfInBounds_toArray, List.set_cons_zero, List.set_cons_succ]
        refine wpAnyH_ready (rs := [12]) (by kernel_rfl) (by simp) ?_
        refine AllReadyH.cons rfl (fun K hK => ?_) AllReadyH.nil
        try simp only [List.getElem_toArray, List.getElem_cons_succ, List.getElem_cons_zero]
        go_simp
        refine (HR.out _).mono ?_
        rintro e v ⟨rfl, rfl⟩
        refine hK.out _ _ hHeld (fun hHeld => ?_)
        clear hK K
        refine wpAnyH_take (i := 13) (v := ?v13) rfl (by kernel_rfl) (by kernel_rfl) (by kernel_rfl) (fun _ _ _ h => h) (Or.inl ⟨by rfl, ?hy13⟩) hHeld ?rest13
        case hy13 => (intro W hSw; (try dsimp only at hSw); have z4 := hSw.cell0 d4; have z5 := hSw.cell0 d5; go_simp; all_goals (with_reducible rfl))
        change wpAnyH _ _ _ _ _ _ _ (Act.put _ (some 73) _) _
        simp only [Act.put, List.setIfInBounds_toArray, List.set_cons_zero, List.set_cons_succ]
        refine wpAnyH_take (i := 14) (v := ?v14) rfl (by kernel_rfl) (by kernel_rfl) (by kernel_rfl) (fun _ _ _ h => h) (Or.inl ⟨by rfl, ?hy14⟩) hHeld ?rest14
        case hy14 => (intro W hSw; (try dsimp only at hSw); have z4 := hSw.cell0 d4; have z5 := hSw.cell0 d5; go_simp; all_goals (with_reducible rfl))
        change wpAnyH _ _ _ _ _ _ _ (Act.put _ (some 74) _) _
        simp only [Act.put, List.setIfInBounds_toArray, List.set_cons_zero, List.set_cons_succ]
        refine wpAnyH_take (i := 15) (v := ?v15) rfl (by kernel_rfl) (by kernel_rfl) (by kernel_rfl) (fun _ _ _ h => h) (Or.inl ⟨by rfl, ?hy15⟩) hHeld ?rest15
        case hy15 => (intro W hSw; (try dsimp only at hSw); have z4 := hSw.cell0 d4; have z5 := hSw.cell0 d5; go_simp; all_goals (with_reducible rfl))
        change wpAnyH _ _ _ _ _ _ _ (Act.put _ (some 75) _) _
        simp only [Act.put, List.setIfInBounds_toArray, List.set_cons_zero, List.set_cons_succ]
        refine wpAnyH_take (i := 16) (v := ?v16) rfl (by kernel_rfl) (by kernel_rfl) (by kernel_rfl) (fun _ _ _ h => h) (Or.inl ⟨by rfl, ?hy16⟩) hHeld ?rest16
        case hy16 => (intro W hSw; (try dsimp only at hSw); have z4 := hSw.cell0 d4; have z5 := hSw.cell0 d5; go_simp; all_goals (with_reducible rfl))
        change wpAnyH _ _ _ _ _ _ _ (Act.put _ (some 5) _) _
        simp only [Act.put, List.setIfInBounds_toArray, List.set_cons_zero, List.set_cons_succ]
        refine wpAnyH_done (by kernel_rfl) ?_ _
        have HF3 := hide (HF.out.join (Fr.drew1 (fun _ => False) wr))
        clear hHeld HF
        go_wp2
        go_roundw
        case rel => exact ⟨k + 1, S + ph * (1 + V), hlt, by go_num, by rw [HW1.out, HW2.out, HW3.out], HBD3.out.1, HBD3.out.2, HSN2.out, HOK2.out, HF3.out⟩
        case measure => simp [intOf]; omega
      · have hr : rowsP b ⟨x, y, dx, dy, pw, ph⟩ = 0 := if_neg hp0
        rw [hr] at HBD2 HSN2
        clear hr
        go_wp2
        go_roundw
        case rel => exact ⟨k + 1, S, hlt, by go_num, rfl, hS0, hS1, by show _ = _; rw [← HSN2.out]; omega, HOK2.out, HF.out⟩
        case measure => simp [intOf]; omega
    · have hke : k = l.length := by omega
      subst hke
      rw [List.take_length] at HS
      have HZ := hide (bytesV_yes h7 HB.out HK.out)
      go_wp2
      go_ret
      exact ⟨ret0 (by rw [HZ.out, HS.out]), HF.out⟩
end Go.Proofs.YtdnhndiaiejkoaaDoor
