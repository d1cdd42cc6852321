/-
  Texts of the seat, put together: Fc Fd Ja Jg Lc Ld Lm Le.
-/
import Derived.Test.YtdpmpllbdoefdaaGreatDoorQz6
import Derived.Deep.CutRange
import Derived.Test.YtdpmpllbdoefdaaGreatDoorQz3
import Derived.Test.YtdpmpllbdoefdaaGreatDoorQz1
import Derived.Test.YtdpmpllbdoefdaaGreatDoorQz2
import Derived.Deep.AppendLies
import Derived.BigQuiet
namespace Go.Proofs.YtdpmpllbdoefdaaGreatDoor
open Go.RowKit
set_option maxHeartbeats 1600000 in
set_option maxRecDepth 100000 in
theorem find_c (M o N1 N2 k at' D f n c : Nat) (bs nw od : List Nat) (w : World) (h : Fd w M o N1 N2 k nw od at') (hL : LiesB w D f bs) (hn : n = bs.length) (hn2 : n ≤ 2147480000) (hb : ∀ b ∈ bs, b < 256) (hat : at' < n) :
    Calls Tryz.prog 61 #[.pointer (some ⟨M, o, none⟩), .slice (some ⟨D, f, none⟩) n c, .int .i64 (at' : Int)] w fun e w' => e = .returned (.tuple #[.int .i64 ((findP bs nw od k at').1 : Int), .int .i64 ((findP bs nw od k at').2 : Int)]) ∧ Fr (fun _ => False) w w' := by
  have hai : (at' : Int) ≤ 2147480000 := by omega
  obtain ⟨most, hmost⟩ : ∃ m, m = min 258 (bs.length - at') := ⟨_, rfl⟩
  have hmi : (if (n : Int) - (at' : Int) < 258 then (n : Int) - (at' : Int) else 258) = (most : Int) := by split <;> omega
  have hm258 : (most : Int) ≤ 258 := by omega
  have hP : findP bs nw od k at' = if most < 3 then (0, 0) else findA bs od (2 ^ k) at' most 64 (nw.getD (keyf k (bs.getD at' 0) (bs.getD (at' + 1) 0) (bs.getD (at' + 2) 0)) 0) 0 0 := by unfold findP; rw [← hmost]
  have hml : at' + most ≤ bs.length := by omega
  have Hmost := hide hmost
  have H := hide h
  have HL := hide hL
  have Hb := hide hb
  have Hn := hide hn
  by_cases hs : most < 3
  · rw [if_pos hs] at hP
    have HP := hide hP
    have hsi : (most : Int) < 3 := by omega
    clear hP h hL hb hn hmost
    go_enter Tryz.func61, Tryz.ntmps61
    go_wp2
    all_goals
      go_ret2
      rw [HP.out]
      exact ⟨rfl, Fr.refl _ _⟩
  · rw [if_neg hs] at hP
    have hsi : ¬ (most : Int) < 3 := by omega
    obtain ⟨x0, hx0⟩ : ∃ x, x = bs.getD at' 0 := ⟨_, rfl⟩
    obtain ⟨x1, hx1⟩ : ∃ x, x = bs.getD (at' + 1) 0 := ⟨_, rfl⟩
    obtain ⟨x2, hx2⟩ : ∃ x, x = bs.getD (at' + 2) 0 := ⟨_, rfl⟩
    have c0 := hL at' (by omega)
    have c1 := hL (at' + 1) (by omega)
    have c2 := hL (at' + 2) (by omega)
    have l0 : x0 < 256 := by rw [hx0]; exact getD_lt hb _
    have l1 : x1 < 256 := by rw [hx1]; exact getD_lt hb _
    have l2 : x2 < 256 := by rw [hx2]; exact getD_lt hb _
    rw [← hx0] at c0
    rw [← hx1] at c1
    rw [← hx2] at c2
    obtain ⟨sz, hsz⟩ : ∃ sz, sz = 2 ^ k := ⟨_, rfl⟩
    have m1 := h.c1
    have m2 := h.c2
    rw [← hsz] at m1 m2
    obtain ⟨ky, hky⟩ : ∃ ky, ky = keyf k x0 x1 x2 := ⟨_, rfl⟩
    have hkl : ky < sz := by rw [hky, hsz]; exact keyf_lt _ _ _ _
    rw [← hx0, ← hx1, ← hx2, ← hky] at hP
    have e1 := cell32 h.b1 (i := ky) (by rw [h.l1, ← hsz]; exact hkl)
    obtain ⟨x, hx⟩ : ∃ x, x = nw.getD ky 0 := ⟨_, rfl⟩
    have hxt : x ≤ at' := by rw [hx]; exact getD_top h.t1 _
    rw [← hx] at e1 hP
    have m1d : w.drew.cell? ⟨M, o, none⟩ = some (.slice (some ⟨N1, 0, none⟩) sz sz) := m1
    have e1d : w.drew.cell? ⟨N1, ky, none⟩ = some (.int .i32 (x : Int)) := e1
    have Hkc := hide (key_c M o k sz at' x0 x1 x2 (some ⟨N1, 0, none⟩) D f n c w.drew m1d hsz h.k15 (by omega) (by omega) c0 c1 c2 l0 l1 l2)
    rw [← hky] at Hkc
    have hsz15 : (sz : Int) ≤ 32768 := by
      have : (2 : Nat) ^ k ≤ 2 ^ 15 := Nat.pow_le_pow_right (by decide) h.k15
      omega
    have hsz0 : (1 : Int) ≤ (sz : Int) := by have := pow_pos2 k; omega
    have hkli : (ky : Int) < (sz : Int) := by omega
    have hxi : (x : Int) ≤ 2147480000 := by omega
    have HP := hide hP
    have Hsz := hide hsz
    have M1 := hide m1
    have M2 := hide m2
    have E1 := hide e1
    clear hP h hL hb hn hmost hx0 hx1 hx2 hx hky c0 c1 c2 hsz l0 l1 l2
    go_enter Tryz.func61, Tryz.ntmps61
    go_wp2_with fail
    refine wp_region_held_drew (S := fun W' => W'.cell? ⟨M, o, none⟩ = some (.slice (some ⟨N1, 0, none⟩) sz sz) ∧ W'.cell? ⟨N1, ky, none⟩ = some (.int .i32 (x : Int))) (by kernel_rfl) ⟨m1d, e1d⟩ (fun hHeld => ?_)
    refine wpAnyH_take (i := 0) (v := ?v0) rfl (by kernel_rfl) (by kernel_rfl) (by kernel_rfl) (fun _ _ _ h => h) (Or.inl ⟨by rfl, ?hy0⟩) hHeld ?rest0
    case hy0 => (intro W hSw; (try dsimp only at hSw); obtain ⟨hSa, hSb⟩ := hSw; go_simp; all_goals (with_reducible rfl))
    change wpAnyH _ _ _ _ _ _ _ (Act.put _ (some 19) _) _
    simp only [Act.put, List.setIfInBounds_toArray, List.set_cons_zero, List.set_cons_succ]
    refine wpAnyH_take (i := 4) (v := ?v4) rfl (by kernel_rfl) (by kernel_rfl) (by kernel_rfl) (fun _ _ _ h => h) (Or.inl ⟨by rfl, ?hy4⟩) hHeld ?rest4
    case hy4 => (intro W hSw; (try dsimp only at hSw); obtain ⟨hSa, hSb⟩ := hSw; go_simp; all_goals (with_reducible rfl))
    change wpAnyH _ _ _ _ _ _ _ (Act.put _ (some 23) _) _
    simp only [Act.put, List.setIfInBounds_toArray, List.set_cons_zero, List.set_cons_succ]
    refine wpAnyH_take (i := 5) (v := ?v5) rfl (by kernel_rfl) (by kernel_rfl) (by kernel_rfl) (fun _ _ _ h => h) (Or.inl ⟨by rfl, ?hy5⟩) hHeld ?rest5
    case hy5 => (intro W hSw; (try dsimp only at hSw); obtain ⟨hSa, hSb⟩ := hSw; go_simp; all_goals (with_reducible rfl))
    change wpAnyH _ _ _ _ _ _ _ (Act.put _ (some 24) _) _
    simp only [Act.put, List.setIfInBounds_toArray, List.set_cons_zero, List.set_cons_succ]
    refine wpAnyH_take (i := 6) (v := ?v6) rfl (by kernel_rfl) (by kernel_rfl) (by kernel_rfl) (fun _ _ _ h => h) (Or.inl ⟨by rfl, ?hy6⟩) hHeld ?rest6
    case hy6 => (intro W hSw; (try dsimp only at hSw); obtain ⟨hSa, hSb⟩ := hSw; go_simp; all_goals (with_reducible rfl))
    change wpAnyH _ _ _ _ _ _ _ (Act.put _ (some 25) _) _
    simp only [Act.put, List.setIfInBounds_toArray, List.set_cons_zero, List.set_cons_succ]
    refine wpAnyH_take (i := 1) (v := ?v1) rfl (by kernel_rfl) (by kernel_rfl) (by kernel_rfl) (fun _ _ _ h => h) (Or.inl ⟨by rfl, ?hy1⟩) hHeld ?rest1
    case hy1 => (intro W hSw; (try dsimp only at hSw); obtain ⟨hSa, hSb⟩ := hSw; go_simp; all_goals (with_reducible rfl))
    change wpAnyH _ _ _ _ _ _ _ (Act.put _ (some 20) _) _
    simp only [Act.put, List.setIfInBounds_toArray, List.set_cons_zero, List.set_cons_succ]
    refine wpAnyH_take (i := 2) (v := ?v2) rfl (by kernel_rfl) (by kernel_rfl) (by kernel_rfl) (fun _ _ _ h => h) (Or.inl ⟨by rfl, ?hy2⟩) hHeld ?rest2
    case hy2 => (intro W hSw; (try dsimp only at hSw); obtain ⟨hSa, hSb⟩ := hSw; go_simp; all_goals (with_reducible rfl))
    change wpAnyH _ _ _ _ _ _ _ (Act.put _ (some 21) _) _
    simp only [Act.put, List.setIfInBounds_toArray, List.set_cons_zero, List.set_cons_succ]
    refine wpAnyH_take (i := 3) (v := ?v3) rfl (by kernel_rfl) (by kernel_rfl) (by kernel_rfl) (fun _ _ _ h => h) (Or.inl ⟨by rfl, ?hy3⟩) hHeld ?rest3
    case hy3 => (intro W hSw; (try dsimp only at hSw); obtain ⟨hSa, hSb⟩ := hSw; go_simp; all_goals (with_reducible rfl))
    change wpAnyH _ _ _ _ _ _ _ (Act.put _ (some 22) _) _
    simp only [Act.put, List.setIfInBounds_toArray, List.set_cons_zero, List.set_cons_succ]
    refine wpAnyH_ready (rs := [7]) (by kernel_rfl) (by simp) ?_
    refine AllReadyH.cons rfl (fun K hK => ?_) AllReadyH.nil
    try simp only [List.getElem_toArray, List.getElem_cons_succ, List.getElem_cons_zero]
    go_simp
    refine (calls_args Hkc.out (by rfl)).mono ?_
    rintro e w1 ⟨rfl, hF1⟩
    have hF1w : Fr (fun _ => False) w w1 := (Fr.of_drewN w 1).join hF1
    have HF1 := hide hF1w
    have hS1 : w1.cell? ⟨M, o, none⟩ = some (.slice (some ⟨N1, 0, none⟩) sz sz) ∧ w1.cell? ⟨N1, ky, none⟩ = some (.int .i32 (x : Int)) := ⟨(cell_blk (a := ⟨M, o, none⟩) (hF1w.block M (cell_lt M1.out) (fun e => e))).trans M1.out, (cell_blk (a := ⟨N1, ky, none⟩) (hF1w.block N1 (cell_lt E1.out) (fun e => e))).trans E1.out⟩
    clear hF1 hF1w
    refine hK.out _ _ hS1 (fun hHeld => ?_)
    clear hK K
    refine wpAnyH_take (i := 8) (v := ?v8) rfl (by kernel_rfl) (by kernel_rfl) (by kernel_rfl) (fun _ _ _ h => h) (Or.inl ⟨by rfl, ?hy8⟩) hHeld ?rest8
    case hy8 => (intro W hSw; (try dsimp only at hSw); obtain ⟨hSa, hSb⟩ := hSw; go_simp; all_goals (with_reducible rfl))
    change wpAnyH _ _ _ _ _ _ _ (Act.put _ (some 27) _) _
    simp only [Act.put, List.setIfInBounds_toArray, List.set_cons_zero, List.set_cons_succ]
    refine wpAnyH_take (i := 9) (v := ?v9) rfl (by kernel_rfl) (by kernel_rfl) (by kernel_rfl) (fun _ _ _ h => h) (Or.inl ⟨by rfl, ?hy9⟩) hHeld ?rest9
    case hy9 => (intro W hSw; (try dsimp only at hSw); obtain ⟨hSa, hSb⟩ := hSw; go_simp; all_goals (with_reducible rfl))
    change wpAnyH _ _ _ _ _ _ _ (Act.put _ (some 28) _) _
    simp only [Act.put, List.setIfInBounds_toArray, List.set_cons_zero, List.set_cons_succ]
    refine wpAnyH_take (i := 10) (v := ?v10) rfl (by kernel_rfl) (by kernel_rfl) (by kernel_rfl) (fun _ _ _ h => h) (Or.inl ⟨by rfl, ?hy10⟩) hHeld ?rest10
    case hy10 => (intro W hSw; (try dsimp only at hSw); obtain ⟨hSa, hSb⟩ := hSw; go_simp; all_goals (with_reducible rfl))
    change wpAnyH _ _ _ _ _ _ _ (Act.put _ (some 29) _) _
    simp only [Act.put, List.setIfInBounds_toArray, List.set_cons_zero, List.set_cons_succ]
    refine wpAnyH_take (i := 11) (v := ?v11) rfl (by kernel_rfl) (by kernel_rfl) (by kernel_rfl) (fun _ _ _ h => h) (Or.inl ⟨by rfl, ?hy11⟩) hHeld ?rest11
    case hy11 => (intro W hSw; (try dsimp only at hSw); obtain ⟨hSa, hSb⟩ := hSw; go_simp; all_goals (with_reducible rfl))
    change wpAnyH _ _ _ _ _ _ _ (Act.put _ (some 30) _) _
    simp only [Act.put, List.setIfInBounds_toArray, List.set_cons_zero, List.set_cons_succ]
    refine wpAnyH_take (i := 12) (v := ?v12) rfl (by kernel_rfl) (by kernel_rfl) (by kernel_rfl) (fun _ _ _ h => h) (Or.inl ⟨by rfl, ?hy12⟩) hHeld ?rest12
    case hy12 => (intro W hSw; (try dsimp only at hSw); obtain ⟨hSa, hSb⟩ := hSw; go_simp; all_goals (with_reducible rfl))
    change wpAnyH _ _ _ _ _ _ _ (Act.put _ (some 9) _) _
    simp only [Act.put, List.setIfInBounds_toArray, List.set_cons_zero, List.set_cons_succ]
    refine wpAnyH_done (by kernel_rfl) ?_ _
    clear hHeld m1 m2 e1 m1d e1d hS1
    go_wp2_with fail
    go_loopw [6, 7, 9, 10, 11] (fun tl tb tp tt _ wr => ∃ (len back y tries : Nat), tl = .int .i64 (len : Int) ∧ tb = .int .i64 (back : Int) ∧ tp = .int .i64 ((y : Int) - 1) ∧ tt = .int .i64 (tries : Int) ∧ tries ≤ 64 ∧ y ≤ at' ∧ len ≤ 258 ∧ findA bs od (2 ^ k) at' most 64 x 0 0 = findA bs od (2 ^ k) at' most tries y len back ∧ Fr (fun _ => False) w wr) (fun _ _ _ tt _ _ => (intOf tt).toNat)
    case atStart => exact ⟨0, 0, x, 64, rfl, rfl, by rw [wrap_i64_id (x : Int) (by omega) (by omega), wrap_i64_id _ (by omega) (by omega)], rfl, Nat.le_refl _, hxt, Nat.zero_le _, rfl, HF1.out⟩
    case round =>
      obtain ⟨len, back, y, tries, rfl, rfl, rfl, rfl, ht, hy, hl258, hfa, hF⟩ := hrel
      have HF := hide hF
      have Hfa := hide hfa
      clear hF hfa
      have hyi : (y : Int) ≤ 2147480000 := by omega
      by_cases hc : 0 < tries ∧ 0 < y ∧ at' + 1 - y ≤ 32768 ∧ len < most
      · obtain ⟨q1, q2, q3, q4⟩ := hc
        obtain ⟨pl, rfl⟩ : ∃ pl, y = pl + 1 := ⟨y - 1, by omega⟩
        obtain ⟨tr, rfl⟩ : ∃ tr, tries = tr + 1 := ⟨tries - 1, by omega⟩
        have i1 : (0 : Int) < (tr : Int) + 1 := by omega
        have i3 : (at' : Int) - (pl : Int) ≤ 32768 := by omega
        have i3' : (at' : Int) ≤ 32768 + (pl : Int) := by omega
        have i4 : (len : Int) < (most : Int) := by omega
        have hpli : (pl : Int) ≤ 2147480000 := by omega
        have htri : (tr : Int) ≤ 64 := by omega
        go_wp2_with fail
        refine (calls_args (alike_c D f n c pl at' most bs wr (HL.out.fr HF.out (fun e => e)) (by have := Hn.out; omega) (by omega) (by have := Hn.out; omega) (by have := Hn.out; omega)) (by rfl)).mono ?_
        rintro e w2 ⟨m, rfl, hal, hF2⟩
        have hm : m = alikeN bs pl at' most := hal.det (alikeN_ok bs most pl at')
        have hmm : m ≤ 258 := by have := hal.le; omega
        have hF2w := HF.out.join hF2
        have HF2 := hide hF2w
        have m2' := (cell_blk (a := ⟨M, o + 1, none⟩) (hF2w.block M (cell_lt M2.out) (fun e => e))).trans M2.out
        obtain ⟨r, hr⟩ : ∃ r, r = pl % 2 ^ k := ⟨_, rfl⟩
        have hrl : r < sz := by rw [hr, Hsz.out]; exact Nat.mod_lt _ (pow_pos2 k)
        have hand := and_sz pl k sz H.out.k15 Hsz.out
        rw [← hr] at hand
        have e2 := cell32 H.out.b2 (i := r) (by rw [H.out.l2, ← Hsz.out]; exact hrl)
        obtain ⟨z, hz⟩ : ∃ z, z = od.getD r 0 := ⟨_, rfl⟩
        have hzt : z ≤ at' := by rw [hz]; exact getD_top H.out.t2 _
        rw [← hz] at e2
        have e2' := (cell_blk (a := ⟨N2, r, none⟩) (hF2w.block N2 (cell_lt e2) (fun e => e))).trans e2
        have hrli : (r : Int) < (sz : Int) := by omega
        rw [hr] at hz
        have Hm := hide hm
        have Hz := hide hz
        clear hal hm hF2 hF2w hr e2 hz
        have hst : findA bs od (2 ^ k) at' most (tr + 1) (pl + 1) len back = findA bs od (2 ^ k) at' most tr z (if 3 ≤ m ∧ len < m then m else len) (if 3 ≤ m ∧ len < m then at' - pl else back) := by
          rw [findA, if_pos ⟨by omega, by omega, q4⟩, Nat.add_sub_cancel, ← Hm.out, ← Hz.out, show at' + 1 - (pl + 1) = at' - pl by omega]
          split <;> rfl
        have Hst := hide hst
        clear hst
        go_upto_region 9 with fail
        go_cut [61] from 31 to 81 (fun cv wx => cv = .bool (decide (3 ≤ m ∧ len < m)) ∧ wx = w2)
        case first =>
          clear i1 i3 i3' i4 hmi hsi
          rcases (show (3 ≤ m ∧ len < m) ∨ (3 ≤ m ∧ m ≤ len) ∨ m < 3 by omega) with ⟨u1, u2⟩ | ⟨u1, u2⟩ | u1
          · have j1 : (3 : Int) ≤ (m : Int) := by omega
            have j2 : (len : Int) < (m : Int) := by omega
            have e : decide (3 ≤ m ∧ len < m) = true := decide_eq_true ⟨u1, u2⟩
            have He := hide e
            clear e u1 u2
            go_wp2
            go_meet
            rw [He.out]
            exact ⟨rfl, rfl⟩
          · have j1 : (3 : Int) ≤ (m : Int) := by omega
            have j2 : decide ((len : Int) < (m : Int)) = false := decide_eq_false (by omega)
            have e : decide (3 ≤ m ∧ len < m) = false := decide_eq_false (by omega)
            have He := hide e
            have U2 := hide u2
            clear e u1 u2
            go_wp2
            go_meet
            rw [He.out]
            exact ⟨by rw [decide_eq_false (by have := U2.out; omega)], rfl⟩
          · have j3 : decide ((3 : Int) ≤ (m : Int)) = false := decide_eq_false (by omega)
            have e : decide (3 ≤ m ∧ len < m) = false := decide_eq_false (by omega)
            have He := hide e
            clear e u1
            go_wp2
            go_meet
            rw [He.out]
            exact ⟨rfl, rfl⟩
        case rest =>
          obtain ⟨rfl, rfl⟩ := hcut
          clear i1 i3 i3' i4 hmi hsi
          by_cases hacc : 3 ≤ m ∧ len < m
          · rw [if_pos hacc, if_pos hacc] at Hst
            have e : decide (3 ≤ m ∧ len < m) = true := decide_eq_true hacc
            rw [e]
            clear e hacc
            go_wp2_with fail
            go_quiet (fail)
            go_wp2
            go_roundw
            case rel =>
              refine ⟨m, at' - pl, z, tr, rfl, by rw [Int.ofNat_sub (by omega)], rfl, by go_num, by omega, hzt, hmm, ?_, HF2.out.join (Fr.of_drewN _ _)⟩
              rw [Hfa.out, Hst.out]
            case measure => simp [intOf]
          · rw [if_neg hacc, if_neg hacc] at Hst
            have e : decide (3 ≤ m ∧ len < m) = false := decide_eq_false hacc
            rw [e]
            clear e hacc
            go_wp2_with fail
            go_quiet (fail)
            go_wp2
            go_roundw
            case rel =>
              refine ⟨len, back, z, tr, rfl, rfl, rfl, by go_num, by omega, hzt, hl258, ?_, HF2.out.join (Fr.of_drewN _ _)⟩
              rw [Hfa.out, Hst.out]
            case measure => simp [intOf]
      · have hend : findA bs od (2 ^ k) at' most tries y len back = (len, back) := by
          cases tries with
          | zero => rfl
          | succ tr => rw [findA, if_neg (fun h => hc ⟨by omega, h⟩)]
        have Hend := hide hend
        have Hc := hide hc
        clear hend hc
        rcases (show tries = 0 ∨ (0 < tries ∧ y = 0) ∨ (0 < tries ∧ 0 < y ∧ 32768 < at' + 1 - y) ∨ (0 < tries ∧ 0 < y ∧ at' + 1 - y ≤ 32768 ∧ most ≤ len) by have := Hc.out; omega) with c1 | ⟨c1, c2⟩ | ⟨c1, c2, c3⟩ | ⟨c1, c2, c3, c4⟩
        · subst c1
          go_wp2
          go_ret2
          rw [HP.out, Hfa.out, Hend.out]
          exact ⟨rfl, HF.out⟩
        · subst c2
          have i1 : (0 : Int) < (tries : Int) := by omega
          go_wp2
          go_ret2
          rw [HP.out, Hfa.out, Hend.out]
          exact ⟨rfl, HF.out⟩
        · obtain ⟨pl, rfl⟩ : ∃ pl, y = pl + 1 := ⟨y - 1, by omega⟩
          have i1 : (0 : Int) < (tries : Int) := by omega
          have i3 : ¬ (at' : Int) - (pl : Int) ≤ 32768 := by omega
          have i3' : ¬ (at' : Int) ≤ 32768 + (pl : Int) := by omega
          go_wp2
          go_ret2
          rw [HP.out, Hfa.out, Hend.out]
          exact ⟨rfl, HF.out⟩
        · obtain ⟨pl, rfl⟩ : ∃ pl, y = pl + 1 := ⟨y - 1, by omega⟩
          have i1 : (0 : Int) < (tries : Int) := by omega
          have i3 : (at' : Int) - (pl : Int) ≤ 32768 := by omega
          have i3' : (at' : Int) ≤ 32768 + (pl : Int) := by omega
          have i4 : ¬ (len : Int) < (most : Int) := by omega
          go_wp2
          go_ret2
          rw [HP.out, Hfa.out, Hend.out]
          exact ⟨rfl, HF.out⟩
end Go.Proofs.YtdpmpllbdoefdaaGreatDoor
namespace Go.Proofs.YtdpmpllbdoefdaaGreatDoor
open Go.RowKit
theorem Tryz.info21 : (Tryz.prog.info? 21).map (fun i => (i.zero, i.size, i.bytes)) = some (some (.int .i32 0), 1, 4) := by kernel_rfl
theorem make32 (n : Nat) (hn : n ≤ 1000000) : ∀ W : World, (Instr.makeSlice 89 (.int .i64 (n : Int)) (.int .i64 (n : Int))).run Tryz.prog W = .ok (.slice (some ⟨W.heap.size, 0, none⟩) n n) (W.alloc (.cells (cells32 (List.replicate n 0)).toArray 21)) := by
  obtain ⟨i0, hi, hz0, hz1, hz2⟩ := info_parts Tryz.info21
  intro W
  have := run_make (P := Tryz.prog) W 89 21 i0 (.int .i32 0) Tryz.underlying89 hi hz0 .i64 .i64 n n (by omega) (Int.le_refl _) (by rw [hz2]; omega) (by omega)
  rw [hz1] at this
  have e : madeCells (Value.int .i32 0).cells (n * 1) = (cells32 (List.replicate n 0)).toArray := by
    apply Array.ext'
    rw [Nat.mul_one]
    show (madeCells #[.int .i32 0] n).toList = _
    rw [toList_madeCells_one]
    simp [cells32]
  rw [← e]
  simpa using this
def finK (n : Nat) : Nat → Nat → Nat
  | 0, k => k
  | f + 1, k => if 2 ^ k < n ∧ 2 ^ k < 32768 then finK n f (k + 1) else k
theorem finK_le (n : Nat) : ∀ f k, k ≤ 15 → finK n f k ≤ 15 := by
  intro f
  induction f with
  | zero => intro k h; exact h
  | succ f ih =>
    intro k h
    simp only [finK]
    split
    · next hc =>
      refine ih (k + 1) ?_
      rcases Nat.lt_or_ge k 15 with h1 | h1
      · omega
      · have : (2 : Nat) ^ 15 ≤ 2 ^ k := Nat.pow_le_pow_right (by decide) h1
        omega
    · exact h
theorem two_new (w : World) (o : Obj) (X : Array Value) : (((w.alloc o).alloc (.cells X 21)).alloc (.cells X 21)).drew.heap[w.heap.size + 1]? = some (.cells X 21 (0, 0)) ∧ (((w.alloc o).alloc (.cells X 21)).alloc (.cells X 21)).drew.heap[w.heap.size + 1 + 1]? = some (.cells X 21 (0, 0)) ∧ Fr (fun _ => False) w (((w.alloc o).alloc (.cells X 21)).alloc (.cells X 21)).drew := by
  have f1 : Fr (fun _ => False) w (w.alloc o) := Fr.of_alloc _ _
  have f2 : Fr (fun _ => False) (w.alloc o) ((w.alloc o).alloc (.cells X 21)) := Fr.of_alloc _ _
  have f3 : Fr (fun _ => False) ((w.alloc o).alloc (.cells X 21)) (((w.alloc o).alloc (.cells X 21)).alloc (.cells X 21)) := Fr.of_alloc _ _
  have f4 : Fr (fun _ => False) (((w.alloc o).alloc (.cells X 21)).alloc (.cells X 21)) (((w.alloc o).alloc (.cells X 21)).alloc (.cells X 21)).drew := Fr.of_drewN _ 1
  have b1 : ((w.alloc o).alloc (.cells X 21)).heap[w.heap.size + 1]? = some (.cells X 21 (0, 0)) := heap_alloc_at (by simp)
  have b2 : (((w.alloc o).alloc (.cells X 21)).alloc (.cells X 21)).heap[w.heap.size + 1 + 1]? = some (.cells X 21 (0, 0)) := heap_alloc_at (by simp)
  exact ⟨cells_at b1 (f3.join f4) (fun e => e), cells_at b2 f4 (fun e => e), f1.join (f2.join (f3.join f4))⟩
set_option maxHeartbeats 1600000 in
set_option maxRecDepth 100000 in
theorem newFinder_c (n : Nat) (w : World) :
    Calls Tryz.prog 46 #[.int .i64 (n : Int)] w fun e w' => ∃ N1 N2, e = .returned (.agg #[.slice (some ⟨N1, 0, none⟩) (2 ^ finK n 15 0) (2 ^ finK n 15 0), .slice (some ⟨N2, 0, none⟩) (2 ^ finK n 15 0) (2 ^ finK n 15 0)]) ∧
      w'.heap[N1]? = some (.cells (cells32 (List.replicate (2 ^ finK n 15 0) 0)).toArray 21 (0, 0)) ∧ w'.heap[N2]? = some (.cells (cells32 (List.replicate (2 ^ finK n 15 0) 0)).toArray 21 (0, 0)) ∧ w.heap.size ≤ N1 ∧ w.heap.size ≤ N2 ∧ N1 ≠ N2 ∧ Fr (fun _ => False) w w' := by
  go_enter Tryz.func46, Tryz.ntmps46
  go_wp2_with fail
  go_loop [3] (fun t => ∃ (k f s : Nat), t = .int .i64 (s : Int) ∧ s = 2 ^ k ∧ k ≤ 15 ∧ f + k = 15 ∧ finK n 15 0 = finK n f k) (fun t => 32768 - (intOf t).toNat)
  case atStart => exact ⟨0, 15, 1, rfl, rfl, by omega, rfl, rfl⟩
  case round =>
    obtain ⟨k, f, s, rfl, hs, hk, hf, hfk⟩ := hrel
    have hs15 : s ≤ 32768 := by rw [hs]; exact Nat.pow_le_pow_right (n := 2) (by decide) hk
    have hs1 : 1 ≤ s := by rw [hs]; exact pow_pos2 k
    have hsi : (s : Int) ≤ 32768 := by omega
    have Hs := hide hs
    have Hfk := hide hfk
    clear hs hfk
    by_cases hc : s < n ∧ s < 32768
    · obtain ⟨c1, c2⟩ := hc
      have i1 : (s : Int) < (n : Int) := by omega
      have i2 : (s : Int) < 32768 := by omega
      have hk15 : k < 15 := by
        rcases Nat.lt_or_ge k 15 with h1 | h1
        · exact h1
        · have : (2 : Nat) ^ 15 ≤ 2 ^ k := Nat.pow_le_pow_right (by decide) h1
          have := Hs.out
          omega
      go_wp2
      go_round
      case rel =>
        refine ⟨k + 1, f - 1, s * 2, by go_num, by rw [Hs.out, Nat.pow_succ], by omega, by omega, ?_⟩
        rw [Hfk.out]
        obtain ⟨g, rfl⟩ : ∃ g, f = g + 1 := ⟨f - 1, by omega⟩
        rw [finK, if_pos ⟨by rw [← Hs.out]; exact c1, by rw [← Hs.out]; exact c2⟩]
        rfl
      case measure => simp [intOf]; omega
    · have hend : finK n 15 0 = k := by
        rw [Hfk.out]
        cases f with
        | zero => rfl
        | succ f => rw [finK, if_neg (by rw [← Hs.out]; exact hc)]
      have hmk := make32 s (by omega)
      have hz : s = 2 ^ finK n 15 0 := by rw [hend]; exact Hs.out
      have Hz := hide hz
      clear hend hz
      rcases (show n ≤ s ∨ (s < n ∧ 32768 ≤ s) by omega) with c1 | ⟨c1, c2⟩
      · have i1 : ¬ (s : Int) < (n : Int) := by omega
        clear hc
        go_wp2
        go_region
        · go_wp2
          refine bodyPost_ret (v := .agg #[.slice (some ⟨w.heap.size + 1, 0, none⟩) s s, .slice (some ⟨w.heap.size + 1 + 1, 0, none⟩) s s]) (by simp [results, Tryz.results46, go_sem]) rfl ?_
          rw [← Hz.out]
          obtain ⟨q1, q2, q3⟩ := two_new w (.cells #[.slice (some ⟨w.heap.size + 1, 0, none⟩) s s, .slice (some ⟨w.heap.size + 1 + 1, 0, none⟩) s s] 91) (cells32 (List.replicate s 0)).toArray
          exact ⟨_, _, rfl, q1, q2, by omega, by omega, by omega, q3⟩
        · go_wp2
          refine bodyPost_ret (v := .agg #[.slice (some ⟨w.heap.size + 1 + 1, 0, none⟩) s s, .slice (some ⟨w.heap.size + 1, 0, none⟩) s s]) (by simp [results, Tryz.results46, go_sem]) rfl ?_
          rw [← Hz.out]
          obtain ⟨q1, q2, q3⟩ := two_new w (.cells #[.slice (some ⟨w.heap.size + 1 + 1, 0, none⟩) s s, .slice (some ⟨w.heap.size + 1, 0, none⟩) s s] 91) (cells32 (List.replicate s 0)).toArray
          exact ⟨_, _, rfl, q2, q1, by omega, by omega, by omega, q3⟩
      · have i1 : (s : Int) < (n : Int) := by omega
        have i2 : ¬ (s : Int) < 32768 := by omega
        clear hc
        go_wp2
        go_region
        · go_wp2
          refine bodyPost_ret (v := .agg #[.slice (some ⟨w.heap.size + 1, 0, none⟩) s s, .slice (some ⟨w.heap.size + 1 + 1, 0, none⟩) s s]) (by simp [results, Tryz.results46, go_sem]) rfl ?_
          rw [← Hz.out]
          obtain ⟨q1, q2, q3⟩ := two_new w (.cells #[.slice (some ⟨w.heap.size + 1, 0, none⟩) s s, .slice (some ⟨w.heap.size + 1 + 1, 0, none⟩) s s] 91) (cells32 (List.replicate s 0)).toArray
          exact ⟨_, _, rfl, q1, q2, by omega, by omega, by omega, q3⟩
        · go_wp2
          refine bodyPost_ret (v := .agg #[.slice (some ⟨w.heap.size + 1 + 1, 0, none⟩) s s, .slice (some ⟨w.heap.size + 1, 0, none⟩) s s]) (by simp [results, Tryz.results46, go_sem]) rfl ?_
          rw [← Hz.out]
          obtain ⟨q1, q2, q3⟩ := two_new w (.cells #[.slice (some ⟨w.heap.size + 1 + 1, 0, none⟩) s s, .slice (some ⟨w.heap.size + 1, 0, none⟩) s s] 91) (cells32 (List.replicate s 0)).toArray
          exact ⟨_, _, rfl, q2, q1, by omega, by omega, by omega, q3⟩
end Go.Proofs.YtdpmpllbdoefdaaGreatDoor
namespace Go.Proofs.YtdpmpllbdoefdaaGreatDoor
open Go.RowKit
set_option maxHeartbeats 400000 in
set_option maxRecDepth 100000 in
theorem low_outO (B o : Nat) (ov : Value) (os : List Nat) (w : World) (h : w.cell? ⟨B, o + 2, none⟩ = some ov) (hl : Lies w ov os) (hlen : os.length ≤ 2147483648) :
    Calls Tryz.prog 63 #[.pointer (some ⟨B, o, none⟩)] w fun e w' => ∃ a c, e = .returned (.slice a os.length c) ∧ w'.ownsRow w.heap.size 5 1 (.slice a os.length c) os.length (cellsOf os) ∧ Below w.heap.size w w' := by
  have hsh : ∃ a c, ov = .slice a os.length c := by
    rcases hl with ⟨rfl, rfl⟩ | ⟨ad, c, rfl, _⟩
    · exact ⟨_, _, rfl⟩
    · exact ⟨_, _, rfl⟩
  obtain ⟨a0, c0, rfl⟩ := hsh
  have Hl := hide hl
  clear hl
  go_enter Tryz.func63, Tryz.ntmps63
  go_wp2_with (go_at_call 39; refine (clone_c _ os _ Hl.out hlen).mono ?_; rintro e w1 ⟨a, c, rfl, hown, hbel⟩)
  go_ret
  exact ⟨a, c, rfl, hown, hbel⟩
structure Bts (t : Bt) (os : List Nat) : Prop where
  len : os.length = (t.p + 7) / 8
  bytes : ∀ b ∈ os, b < 256
  num : leNum os = t.v
set_option maxHeartbeats 400000 in
set_option maxRecDepth 100000 in
theorem penOut_c (T : TypeId) (B o : Nat) (cs : Array Value) (g : Option Nat) (t : Bt) (w : World) (h : Pn T w B o cs g t) (hp : t.p ≤ 2147480000) :
    Calls Tryz.prog 54 #[.pointer (some ⟨B, o, none⟩)] w fun e w' => ∃ a c os, Bts t os ∧ e = .returned (.slice a os.length c) ∧ w'.ownsRow w.heap.size 5 1 (.slice a os.length c) os.length (cellsOf os) ∧ Fr (fun _ => False) w w' := by
  obtain ⟨os, ⟨⟨ov, h1, h2, h3, h4, h5⟩, h6⟩, h7, h8⟩ := h.wt.ex
  have hk : Bts t os := ⟨h7.len, h7.bytes, h8⟩
  have hc := cell_of (o := o + 2) h1 h2
  have Hc := hide (low_outO B o ov os w hc (lies_own h4) (by rw [h7.len]; omega))
  have Hk := hide hk
  clear h h1 h2 h3 h4 h5 h6 h7 h8 hk hc
  go_enter Tryz.func54, Tryz.ntmps54
  go_wp2_with fail
  refine (calls_args Hc.out (by rfl)).mono ?_
  rintro e w1 ⟨a, c, rfl, hown, hbel⟩
  have HO := hide hown
  have HF := hide ((Fr.of_below hbel).mono (S' := fun _ => False) (fun k hk h => by omega))
  clear hown hbel
  go_wp2
  go_ret
  exact ⟨a, c, os, Hk.out, rfl, HO.out, HF.out⟩
def mostF (n : Nat) : Nat := n + 5 * ((n + 65534) / 65535) + 5
set_option maxHeartbeats 800000 in
set_option maxRecDepth 100000 in
theorem most_c (z : Int) (w : World) (hz : z ≤ 2147480000) :
    Calls Tryz.prog 20 #[.int .i64 z] w fun e w' => e = .returned (.int .i64 (mostF z.toNat : Int)) ∧ w = w' := by
  obtain ⟨n, hn⟩ : ∃ n : Nat, n = z.toNat := ⟨_, rfl⟩
  rw [← hn]
  have hmx : (if (0 : Int) < z then z else 0) = (n : Int) := by split <;> omega
  obtain ⟨q, hq⟩ : ∃ q, q = n / 65535 := ⟨_, rfl⟩
  obtain ⟨r, hr⟩ : ∃ r, r = n % 65535 := ⟨_, rfl⟩
  have hqi : (n : Int) / 65535 = (q : Int) := by omega
  have hri : (n : Int) % 65535 = (r : Int) := by omega
  have hni : (n : Int) ≤ 2147480000 := by omega
  have hqb : (q : Int) ≤ 40000 := by omega
  by_cases h0 : z ≤ 0
  · have hn0 : n = 0 := by omega
    subst hn0
    have e : mostF 0 = 5 := rfl
    have g0 : ¬ (0 : Int) < z := by omega
    clear hn hq hr hqi hri hmx
    rcases (show z < 0 ∨ z = 0 by omega) with h1 | h1
    · go_enter Tryz.func20, Tryz.ntmps20
      go_wp2
      go_ret
      exact ⟨rfl, rfl⟩
    · subst h1
      clear g0 h0
      go_enter Tryz.func20, Tryz.ntmps20
      go_wp2
      go_ret
      exact ⟨rfl, rfl⟩
  · have g0 : (0 : Int) < z := by omega
    obtain rfl : z = (n : Int) := by omega
    by_cases hr0 : r = 0
    · have e : mostF n = n + 5 * q + 5 := by unfold mostF; omega
      have He := hide e
      subst hr0
      clear e hn hq hr hmx h0
      go_enter Tryz.func20, Tryz.ntmps20
      go_wp2
      all_goals
        go_ret
        rw [He.out]
        exact ⟨by congr 2, rfl⟩
    · have e : mostF n = n + 5 * (q + 1) + 5 := by unfold mostF; omega
      have He := hide e
      have hrp : (0 : Int) < (r : Int) := by omega
      clear e hn hq hr hmx h0
      go_enter Tryz.func20, Tryz.ntmps20
      go_wp2
      all_goals
        go_ret
        rw [He.out]
        exact ⟨by congr 2, rfl⟩
end Go.Proofs.YtdpmpllbdoefdaaGreatDoor
namespace Go.Proofs.YtdpmpllbdoefdaaGreatDoor
open Go.RowKit
set_option maxHeartbeats 400000 in
set_option maxRecDepth 100000 in
theorem out_c (M : Nat) (ov : Value) (os : List Nat) (w : World) (h : w.cell? ⟨M, 12, none⟩ = some ov) (hl : Lies w ov os) (hlen : os.length ≤ 2147483648) :
    Calls Tryz.prog 34 #[.pointer (some ⟨M, 0, none⟩)] w fun e w' => ∃ a c, e = .returned (.slice a os.length c) ∧ w'.ownsRow w.heap.size 5 1 (.slice a os.length c) os.length (cellsOf os) ∧ Fr (fun _ => False) w w' := by
  have hsh : ∃ a c, ov = .slice a os.length c := by
    rcases hl with ⟨rfl, rfl⟩ | ⟨ad, c, rfl, _⟩
    · exact ⟨_, _, rfl⟩
    · exact ⟨_, _, rfl⟩
  obtain ⟨a0, c0, rfl⟩ := hsh
  have Hl := hide hl
  clear hl
  go_enter Tryz.func34, Tryz.ntmps34
  go_wp2_with (go_at_call 39; refine (clone_c _ os _ Hl.out hlen).mono ?_; rintro e w1 ⟨a, c, rfl, hown, hbel⟩)
  go_ret
  exact ⟨a, c, rfl, hown, (Fr.of_below hbel).mono (S' := fun _ => False) (fun k hk h => by omega)⟩
end Go.Proofs.YtdpmpllbdoefdaaGreatDoor
namespace Go.Proofs.YtdpmpllbdoefdaaGreatDoor
open Go.RowKit
def cellsP : List Pc → List Value
  | [] => []
  | p :: r => .int .u8 (p.lit : Int) :: .int .u16 (p.len : Int) :: .int .u16 (p.back : Int) :: cellsP r
structure Mc (w : World) (lo M : Nat) (cs : Array Value) (bs : List Nat) (N1 N2 k taken told begin tp : Nat) (ps : List Pc) (nw od : List Nat) (g : Option Nat) (t : Bt) : Prop where
  pn : Pn 101 w M 7 cs g t
  sz : cs.size = 14
  c0 : ∃ da dc, cs[0]? = some (.slice da bs.length dc) ∧ w.ownsRow lo 5 1 (.slice da bs.length dc) bs.length (cellsOf bs) ∧ (∀ ad, da = some ad → g ≠ some ad.block)
  c1 : cs[1]? = some (.int .i64 (taken : Int))
  c2 : cs[2]? = some (.int .i64 (told : Int))
  c3 : cs[3]? = some (.int .i64 (begin : Int))
  c4 : ∃ pa pc, cs[4]? = some (.slice pa ps.length pc) ∧ w.ownsRow lo 113 3 (.slice pa ps.length pc) ps.length (cellsP ps)
  fd : Fd w M 5 N1 N2 k nw od tp
  c12 : cs[12]? = some (.slice none 0 0)
  c13 : cs[13]? = some (.bool false)
  loM : lo ≤ M ∧ lo ≤ N1 ∧ lo ≤ N2
  log : ∀ j, g = some j → lo ≤ j
  pos : 2 ≤ lo
  gl : Gl w
  byt : ∀ b ∈ bs, b < 256
  len : bs.length ≤ 4194304
theorem blk_ne {w : World} {a b : Nat} {x y : Array Value} {S T : TypeId} (h1 : w.heap[a]? = some (.cells x S (0, 0))) (h2 : w.heap[b]? = some (.cells y T (0, 0))) (hne : S ≠ T) : a ≠ b := fun e => by
  subst e
  rw [h1] at h2
  cases h2
  exact hne rfl
theorem pen_row {T : TypeId} {w : World} {B o : Nat} {cs : Array Value} {g : Option Nat} {t : Bt} (h : Pn T w B o cs g t) {j : Nat} (hj : g = some j) : ∃ cur, w.heap[j]? = some (.cells cur 5 (0, 0)) := by
  obtain ⟨os, ⟨⟨ov, h1, h2, h3, h4, h5⟩, h6⟩, _⟩ := h.wt.ex
  rcases h4.2 with ⟨hv, _⟩ | ⟨g', cap, cur, hv, _, hh, _⟩
  · rw [hv] at h5; rw [← h5] at hj; cases hj
  · rw [hv] at h5
    have : some g' = some j := by rw [← hj, ← h5]; rfl
    cases this
    exact ⟨cur, hh⟩
theorem own_blk {w : World} {lo n sz c : Nat} {T : TypeId} {a : Option Addr} {xs : List Value} (h : w.ownsRow lo T sz (.slice a n c) n xs) {ad : Addr} (ha : a = some ad) : ∃ g cur, ad = ⟨g, 0, none⟩ ∧ lo ≤ g ∧ w.heap[g]? = some (.cells cur T (0, 0)) := by
  rcases h.2 with ⟨hv, _⟩ | ⟨g, cap, cur, hv, hg, hh, _⟩
  · obtain ⟨e1, _, _⟩ := Value.slice.inj hv; rw [e1] at ha; cases ha
  · obtain ⟨e1, _, _⟩ := Value.slice.inj hv
    rw [e1] at ha
    cases ha
    exact ⟨g, cur, rfl, hg, hh⟩
theorem pn_set {T : TypeId} {w : World} {B o : Nat} {cs : Array Value} {g : Option Nat} {t : Bt} (h : Pn T w B o cs g t) (i : Nat) (v : Value) (h1 : i ≠ o + 2) (h2 : i ≠ o + 2 + 1) (h3 : i ≠ o + 4) : Pn T (w.setCell ⟨B, i, none⟩ v) B o (cs.setIfInBounds i v) g t := by
  obtain ⟨os, ⟨⟨ov, e1, e2, e3, e4, e5⟩, e6⟩, e7, e8⟩ := h.wt.ex
  have f : Fr (fun j => j = B) w (w.setCell ⟨B, i, none⟩ v) := Fr.of_setCell w ⟨B, i, none⟩ v
  refine ⟨⟨os, ⟨⟨ov, heap_setCell_own _ e1, ?_, ?_, ?_, e5⟩, e6⟩, e7, e8⟩, ?_⟩
  · rw [Array.getElem?_setIfInBounds_ne h1]; exact e2
  · rw [Array.getElem?_setIfInBounds_ne h2]; exact e3
  · exact ownsRow_fr e4 fun j hj => f.block j (e4.lt j hj).2 (fun e => e6 j (e5 ▸ hj) e)
  · rw [Array.getElem?_setIfInBounds_ne h3]; exact h.wr
theorem Mc.blk {w : World} {lo M : Nat} {cs : Array Value} {bs : List Nat} {N1 N2 k taken told begin tp : Nat} {ps : List Pc} {nw od : List Nat} {g : Option Nat} {t : Bt} (h : Mc w lo M cs bs N1 N2 k taken told begin tp ps nw od g t) : w.heap[M]? = some (.cells cs 101 (0, 0)) := h.pn.wt.blk.1
theorem Mc.pen {w : World} {lo M : Nat} {cs : Array Value} {bs : List Nat} {N1 N2 k taken told begin tp : Nat} {ps : List Pc} {nw od : List Nat} {g : Option Nat} {t : Bt} (h : Mc w lo M cs bs N1 N2 k taken told begin tp ps nw od g t) {w1 : World} {cs1 : Array Value} {g1 : Option Nat} {t1 : Bt} (hP : PGo 101 w w1 M 7 cs cs1 g g1 t1) : Mc w1 lo M cs1 bs N1 N2 k taken told begin tp ps nw od g1 t1 := by
  have hK : ∀ i, i ≠ 9 → i ≠ 10 → i ≠ 11 → cs1[i]? = cs[i]? := fun i a b c => hP.cs.keep i a b c
  have hMl := lt_of h.blk
  have hgo : ∀ j, j < w.heap.size → g ≠ some j → g1 ≠ some j := fun j hj hn e => by
    rcases hP.own with e2 | ⟨z, e2, hz⟩
    · exact hn (by rw [← e2]; exact e)
    · rw [e2] at e; cases e; omega
  have hN1 : ¬ (N1 = M ∨ g = some N1) := by
    rintro (e | e)
    · exact h.fd.n1 e
    · obtain ⟨cur, hc⟩ := pen_row h.pn e; exact blk_ne h.fd.b1 hc (by decide) rfl
  have hN2 : ¬ (N2 = M ∨ g = some N2) := by
    rintro (e | e)
    · exact h.fd.n2 e
    · obtain ⟨cur, hc⟩ := pen_row h.pn e; exact blk_ne h.fd.b2 hc (by decide) rfl
  obtain ⟨da, dc, z1, z2, z3⟩ := h.c0
  obtain ⟨pa, pc, y1, y2⟩ := h.c4
  refine ⟨hP.pn, hP.cs.size.trans h.sz, ⟨da, dc, (hK 0 (by omega) (by omega) (by omega)).trans z1, ownsRow_fr z2 fun j hj => hP.fr.block j (z2.lt j hj).2 ?_, fun ad e => ?_⟩, (hK 1 (by omega) (by omega) (by omega)).trans h.c1, (hK 2 (by omega) (by omega) (by omega)).trans h.c2, (hK 3 (by omega) (by omega) (by omega)).trans h.c3, ⟨pa, pc, (hK 4 (by omega) (by omega) (by omega)).trans y1, ownsRow_fr y2 fun j hj => hP.fr.block j (y2.lt j hj).2 ?_⟩, h.fd.keep hP.fr ⟨?_, ?_⟩ hN1 hN2, (hK 12 (by omega) (by omega) (by omega)).trans h.c12, (hK 13 (by omega) (by omega) (by omega)).trans h.c13, h.loM, ?_, h.pos, h.gl.keep hP.fr ?_, h.byt, h.len⟩
  · cases da with
    | none => cases hj
    | some ad =>
      obtain ⟨b, cur, rfl, _, hb⟩ := own_blk z2 rfl
      cases hj
      rintro (e | e)
      · exact blk_ne hb h.blk (by decide) e
      · exact z3 _ rfl e
  · obtain ⟨b, cur, rfl, _, hb⟩ := own_blk z2 e
    exact hgo b (lt_of hb) (z3 _ e)
  · cases pa with
    | none => cases hj
    | some ad =>
      obtain ⟨b, cur, rfl, _, hb⟩ := own_blk y2 rfl
      cases hj
      rintro (e | e)
      · exact blk_ne hb h.blk (by decide) e
      · obtain ⟨cur2, hc⟩ := pen_row h.pn e; exact blk_ne hb hc (by decide) rfl
  · have e0 : cs1[5]? = cs[5]? := hK 5 (by omega) (by omega) (by omega)
    rw [cell_of_row w1 M 5 cs1 101 (0, 0) hP.pn.wt.blk.1, cell_of_row w M 5 cs 101 (0, 0) h.blk, e0]
  · have e0 : cs1[6]? = cs[6]? := hK 6 (by omega) (by omega) (by omega)
    rw [cell_of_row w1 M (5 + 1) cs1 101 (0, 0) hP.pn.wt.blk.1, cell_of_row w M (5 + 1) cs 101 (0, 0) h.blk]
    exact e0
  · intro j hj
    rcases hP.own with e | ⟨z, e, hz⟩
    · exact h.log j (by rw [← e]; exact hj)
    · rw [e] at hj; cases hj; have := h.loM; omega
  · rintro (e | e)
    · have := h.loM; have := h.pos; omega
    · have := h.log 1 e; have := h.pos; omega
theorem Mc.upd {w : World} {lo M : Nat} {cs : Array Value} {bs : List Nat} {N1 N2 k taken told begin tp : Nat} {ps : List Pc} {nw od : List Nat} {g : Option Nat} {t : Bt} (h : Mc w lo M cs bs N1 N2 k taken told begin tp ps nw od g t) (i : Nat) (v : Value) (hi : 1 ≤ i ∧ i ≤ 4) {taken' told' begin' : Nat} {ps' : List Pc} (h1 : (cs.setIfInBounds i v)[1]? = some (.int .i64 (taken' : Int))) (h2 : (cs.setIfInBounds i v)[2]? = some (.int .i64 (told' : Int))) (h3 : (cs.setIfInBounds i v)[3]? = some (.int .i64 (begin' : Int)))
    (h4 : ∃ pa pc, (cs.setIfInBounds i v)[4]? = some (.slice pa ps'.length pc) ∧ w.ownsRow lo 113 3 (.slice pa ps'.length pc) ps'.length (cellsP ps')) : Mc (w.setCell ⟨M, i, none⟩ v) lo M (cs.setIfInBounds i v) bs N1 N2 k taken' told' begin' tp ps' nw od g t ∧ Fr (fun j => j = M) w (w.setCell ⟨M, i, none⟩ v) := by
  have f : Fr (fun j => j = M) w (w.setCell ⟨M, i, none⟩ v) := Fr.of_setCell w ⟨M, i, none⟩ v
  obtain ⟨da, dc, z1, z2, z3⟩ := h.c0
  obtain ⟨pa, pc, y1, y2⟩ := h.c4
  obtain ⟨pa', pc', x1, x2⟩ := h4
  refine ⟨⟨pn_set h.pn i v (by omega) (by omega) (by omega), by simp [h.sz], ⟨da, dc, by rw [Array.getElem?_setIfInBounds_ne (by omega)]; exact z1, ownsRow_fr z2 fun j hj => f.block j (z2.lt j hj).2 ?_, z3⟩, h1, h2, h3, ⟨pa', pc', x1, ownsRow_fr x2 fun j hj => f.block j (x2.lt j hj).2 ?_⟩, h.fd.keep f ⟨?_, ?_⟩ h.fd.n1 h.fd.n2, by rw [Array.getElem?_setIfInBounds_ne (by omega)]; exact h.c12, by rw [Array.getElem?_setIfInBounds_ne (by omega)]; exact h.c13, h.loM, h.log, h.pos, h.gl.keep f ?_, h.byt, h.len⟩, f⟩
  · cases da with
    | none => cases hj
    | some ad =>
      obtain ⟨b, cur, rfl, _, hb⟩ := own_blk z2 rfl
      cases hj
      exact fun e => blk_ne hb h.blk (by decide) e
  · cases pa' with
    | none => cases hj
    | some ad =>
      obtain ⟨b, cur, rfl, _, hb⟩ := own_blk x2 rfl
      cases hj
      exact fun e => blk_ne hb h.blk (by decide) e
  · rw [cell_of_row _ M 5 _ 101 (0, 0) (heap_setCell_own v h.blk), cell_of_row w M 5 cs 101 (0, 0) h.blk, Array.getElem?_setIfInBounds_ne (by omega)]
  · rw [cell_of_row _ M (5 + 1) _ 101 (0, 0) (heap_setCell_own v h.blk), cell_of_row w M (5 + 1) cs 101 (0, 0) h.blk, Array.getElem?_setIfInBounds_ne (by omega)]
  · have := h.loM; have := h.pos; omega
theorem Mc.keep {w : World} {lo M : Nat} {cs : Array Value} {bs : List Nat} {N1 N2 k taken told begin tp : Nat} {ps : List Pc} {nw od : List Nat} {g : Option Nat} {t : Bt} (h : Mc w lo M cs bs N1 N2 k taken told begin tp ps nw od g t) {w1 : World} {S : Nat → Prop} (f : Fr S w w1) (hS : ∀ i, lo ≤ i → i < w.heap.size → ¬ S i) (hG : ¬ S 1) : Mc w1 lo M cs bs N1 N2 k taken told begin tp ps nw od g t := by
  obtain ⟨da, dc, z1, z2, z3⟩ := h.c0
  obtain ⟨pa, pc, y1, y2⟩ := h.c4
  have hM := hS M h.loM.1 (lt_of h.blk)
  exact ⟨⟨h.pn.wt.keep f hM (fun j hj => hS j (h.log j hj) (h.pn.wt.lts.1 j hj)), h.pn.wr⟩, h.sz, ⟨da, dc, z1, ownsRow_fr z2 fun j hj => f.block j (z2.lt j hj).2 (hS j (z2.lt j hj).1 (z2.lt j hj).2), z3⟩, h.c1, h.c2, h.c3, ⟨pa, pc, y1, ownsRow_fr y2 fun j hj => f.block j (y2.lt j hj).2 (hS j (y2.lt j hj).1 (y2.lt j hj).2)⟩, h.fd.keep f ⟨cell_blk (a := ⟨M, 5, none⟩) (f.block M (lt_of h.blk) hM), cell_blk (a := ⟨M, 5 + 1, none⟩) (f.block M (lt_of h.blk) hM)⟩ (hS N1 h.loM.2.1 (lt_of h.fd.b1)) (hS N2 h.loM.2.2 (lt_of h.fd.b2)), h.c12, h.c13, h.loM, h.log, h.pos, h.gl.keep f hG, h.byt, h.len⟩
theorem cellsP_get : ∀ (ps : List Pc) (i : Nat), i < ps.length → ∀ k, k < 3 → (cellsP ps)[i * 3 + k]? = (pcCells (ps.getD i ⟨0, 0, 0⟩))[k]? := by
  intro ps
  induction ps with
  | nil => intro i h; cases h
  | cons p ps ih =>
    intro i h k hk
    cases i with
    | zero =>
      rcases (by omega : k = 0 ∨ k = 1 ∨ k = 2) with rfl | rfl | rfl <;> rfl
    | succ i =>
      have := ih i (by simpa using h) k hk
      rw [show (i + 1) * 3 + k = i * 3 + k + 1 + 1 + 1 by omega]
      simpa [cellsP] using this
theorem own_pieces {w : World} {lo n c : Nat} {a : Option Addr} {ps : List Pc} (h : w.ownsRow lo 113 3 (.slice a n c) n (cellsP ps)) (hn : n = ps.length) : ∃ P, (0 < n → a = some ⟨P, 0, none⟩) ∧ LiesP w P 0 ps := by
  rcases h.2 with ⟨hv, e0⟩ | ⟨g, cap, cur, hv, hg, hh, hr⟩
  · exact ⟨0, fun h0 => by omega, fun i hi => by omega⟩
  · cases hv
    refine ⟨g, fun _ => rfl, fun i hi k hk => ?_⟩
    have e : ∀ j, (⟨g, 0, none⟩ : Addr).add j = ⟨g, j, none⟩ := fun j => by rw [add_none, Nat.zero_add]
    have hk' : k < (pcCells (ps.getD i ⟨0, 0, 0⟩)).length := hk
    have q := h.cells (g := g) rfl (i * 3 + k) ((pcCells (ps.getD i ⟨0, 0, 0⟩))[k]) (by rw [cellsP_get ps i hi k hk]; exact List.getElem?_eq_getElem hk')
    rw [e] at q
    rw [Nat.zero_add, q]
    exact (List.getElem?_eq_getElem hk').symm
theorem own_trunc {w : World} {lo n sz c : Nat} {T : TypeId} {a : Option Addr} {xs : List Value} (h : w.ownsRow lo T sz (.slice a n c) n xs) : w.ownsRow lo T sz (.slice a 0 c) 0 [] := by
  refine ⟨by simp, ?_⟩
  rcases h.2 with ⟨hv, _⟩ | ⟨g, cap, cur, hv, hg, hh, hr, h5, h6, _⟩
  · obtain ⟨e1, _, e3⟩ := Value.slice.inj hv
    exact Or.inl ⟨by rw [e1, e3], rfl⟩
  · obtain ⟨e1, _, e3⟩ := Value.slice.inj hv
    exact Or.inr ⟨g, cap, cur, by rw [e1, e3], hg, hh, Nat.zero_le _, h5, h6, by simp⟩
theorem raw_lies {w : World} {lo c : Nat} {da : Option Addr} {bs : List Nat} {b e : Nat} (h : w.ownsRow lo 5 1 (.slice da bs.length c) bs.length (cellsOf bs)) (hb : b ≤ e) (he : e ≤ bs.length) :
    Lies w (.slice (if c = b then da else Option.map (fun x => x.add b) da) (e - b) (c - b)) ((bs.take e).drop b) ∧ ∀ ad, (if c = b then da else Option.map (fun x => x.add b) da) = some ad → ∃ ad0, da = some ad0 ∧ ad.block = ad0.block := by
  have hl : ((bs.take e).drop b).length = e - b := by simp; omega
  rcases h.2 with ⟨hv, e0⟩ | ⟨g, cap, cur, hv, hg, hh, hr, _⟩
  · obtain ⟨e1, e2, e3⟩ := Value.slice.inj hv
    have hb0 : b = 0 := by omega
    have he0 : e = 0 := by omega
    subst e1 e3 hb0 he0
    refine ⟨Or.inl ⟨by simp, by simp⟩, fun ad hc => by simp at hc⟩
  · obtain ⟨e1, e2, e3⟩ := Value.slice.inj hv
    subst e1 e3
    by_cases hcb : c = b
    · rw [if_pos hcb]
      refine ⟨Or.inr ⟨⟨g, 0, none⟩, c - b, by rw [hl], fun j u hu => ?_⟩, fun ad hc => ⟨_, rfl, by cases hc; rfl⟩⟩
      have : (bs.take e).drop b = [] := List.length_eq_zero_iff.1 (by rw [hl]; omega)
      rw [this] at hu
      simp [cellsOf] at hu
    · rw [if_neg hcb]
      refine ⟨Or.inr ⟨(⟨g, 0, none⟩ : Addr).add b, c - b, by rw [hl]; rfl, fun j u hu => ?_⟩, fun ad hc => ⟨_, rfl, by cases hc; rw [add_block]⟩⟩
      have hj : j < e - b := by
        have := (List.getElem?_eq_some_iff.1 hu).1
        simp only [cellsOf, List.length_map] at this
        omega
      have q := h.cells (g := g) rfl (b + j) u (by
        rw [← hu]
        simp only [cellsOf, List.getElem?_map, List.getElem?_drop]
        rw [List.getElem?_take_of_lt (by omega)])
      rw [add_none] at q
      rw [add_none, add_none]
      simpa [Nat.add_assoc] using q
set_option maxHeartbeats 1600000 in
set_option maxRecDepth 100000 in
theorem endBlock_c (lo M N1 N2 k taken told begin tp : Nat) (cs : Array Value) (bs : List Nat) (ps : List Pc) (nw od : List Nat) (g : Option Nat) (t : Bt) (last : Bool) (w : World) (h : Mc w lo M cs bs N1 N2 k taken told begin tp ps nw od g t)
    (hbt : begin ≤ told) (htl : told ≤ bs.length) (h6 : told - begin ≤ 65535) (hm : mays ps (bs.take begin)) (hpl : ps.length ≤ 65535) (hp : t.p ≤ 1000000000) :
    Calls Tryz.prog 52 #[.pointer (some ⟨M, 0, none⟩), .bool last] w fun e w' => e = .returned (.tuple #[]) ∧ ∃ oL oD oC cs' g', Cds ps oL oD oC ∧ Mc w' lo M cs' bs N1 N2 k taken told told tp [] nw od g' (blockF t last ((bs.take told).drop begin) ps oL oD oC) ∧ Fr (fun i => lo ≤ i) w w' := by
  obtain ⟨da, dc, hda, hdo, hdg⟩ := h.c0
  obtain ⟨pa, pc, hpa, hpo⟩ := h.c4
  have k0 := cell_of (o := 0) h.blk hda
  have k2 := cell_of (o := 2) h.blk h.c2
  have k3 := cell_of (o := 3) h.blk h.c3
  have k4 := cell_of (o := 4) h.blk hpa
  obtain ⟨n, hn⟩ : ∃ n, n = bs.length := ⟨_, rfl⟩
  obtain ⟨q, hq⟩ : ∃ q, q = ps.length := ⟨_, rfl⟩
  rw [← hn] at k0 htl
  rw [← hq] at k4
  have i1 : (begin : Int) ≤ (told : Int) := by omega
  have i2 : (told : Int) ≤ (n : Int) := by omega
  have hdc : n ≤ dc := by
    rcases hdo.2 with ⟨hv, _⟩ | ⟨_, cap, _, hv, _, _, hr, _⟩
    · obtain ⟨_, e2, e3⟩ := Value.slice.inj hv; omega
    · obtain ⟨_, e2, e3⟩ := Value.slice.inj hv; omega
  have i3 : (n : Int) ≤ (dc : Int) := by omega
  have hlb := h.len
  have i4 : (n : Int) ≤ 4194304 := by omega
  have i5 : told ≤ dc := by omega
  have hd : Mc w.drew lo M cs bs N1 N2 k taken told begin tp ps nw od g t := h.keep (Fr.of_drewN w 1) (fun _ _ _ e => e) (fun e => e)
  have hdo' : w.drew.ownsRow lo 5 1 (.slice da bs.length dc) bs.length (cellsOf bs) := ownsRow_fr hdo fun j hj => (Fr.of_drewN w 1).block j (hdo.lt j hj).2 (fun e => e)
  have hpo' : w.drew.ownsRow lo 113 3 (.slice pa ps.length pc) ps.length (cellsP ps) := ownsRow_fr hpo fun j hj => (Fr.of_drewN w 1).block j (hpo.lt j hj).2 (fun e => e)
  obtain ⟨r1, r2⟩ := raw_lies (b := begin) (e := told) hdo' hbt (by omega)
  obtain ⟨P, p1, p2⟩ := own_pieces hpo' rfl
  have hrl : ((bs.take told).drop begin).length = told - begin := by simp; omega
  have HB := hide (putBlock_c 101 M 7 cs g t _ _ _ ((bs.take told).drop begin) pa P 0 ps.length pc ps last (bs.take begin) w.drew hd.pn hp r1 hrl.symm h6 (fun b hb => h.byt b (List.mem_of_mem_take (List.mem_of_mem_drop hb))) (fun ad e => by
    obtain ⟨ad0, e1, e2⟩ := r2 ad e
    obtain ⟨b, cur, rfl, _, hb⟩ := own_blk hdo' e1
    rw [e2]
    exact ⟨blk_ne hb hd.blk (by decide), hdg _ e1, lt_of hb⟩) p1 p2 rfl hpl (fun h0 => by
    obtain ⟨b, cur, e1, _, hb⟩ := own_blk hpo' (p1 h0)
    cases e1
    exact ⟨blk_ne hb hd.blk (by decide), fun e => by obtain ⟨cur2, hc⟩ := pen_row hd.pn e; exact blk_ne hb hc (by decide) rfl⟩) hm hd.gl (by
    have := h.pos
    rintro (e | e)
    · have := h.loM; omega
    · have := h.log 1 e; omega))
  rw [← hq] at HB
  have Hd := hide hd
  have Hq := hide hq
  have Hda := hide hda
  have Hpa := hide hpa
  have Hpo := hide hpo
  have hlo := h.loM.1
  have hMl := lt_of h.blk
  have Hn := hide hn
  clear h hd hdo' hpo' r1 r2 p1 p2 hrl hda hpa hpo hq hdo hdg hn
  go_enter Tryz.func52, Tryz.ntmps52
  go_wp2_with fail
  refine wp_region_held_drew (S := fun W' => (W'.cell? ⟨M, 0, none⟩ = some (.slice da n dc) ∧ W'.cell? ⟨M, 2, none⟩ = some (.int .i64 (told : Int))) ∧ (W'.cell? ⟨M, 3, none⟩ = some (.int .i64 (begin : Int)) ∧ W'.cell? ⟨M, 4, none⟩ = some (.slice pa q pc))) (by kernel_rfl) ⟨⟨k0, k2⟩, ⟨k3, k4⟩⟩ (fun hHeld => ?_)
  refine wpAnyH_take (i := 0) (v := ?v0) rfl (by kernel_rfl) (by kernel_rfl) (by kernel_rfl) (fun _ _ _ h => h) (Or.inl ⟨by rfl, ?hy0⟩) hHeld ?rest0
  case hy0 => (intro W hSw; (try dsimp only at hSw); obtain ⟨⟨hSa, hSb⟩, ⟨hSc, hSd⟩⟩ := hSw; go_simp; all_goals (with_reducible rfl))
  change wpAnyH _ _ _ _ _ _ _ (Act.put _ (some 4) _) _
  simp only [Act.put, List.setIfInBounds_toArray, List.set_cons_zero, List.set_cons_succ]
  refine wpAnyH_take (i := 3) (v := ?v3) rfl (by kernel_rfl) (by kernel_rfl) (by kernel_rfl) (fun _ _ _ h => h) (Or.inl ⟨by rfl, ?hy3⟩) hHeld ?rest3
  case hy3 => (intro W hSw; (try dsimp only at hSw); obtain ⟨⟨hSa, hSb⟩, ⟨hSc, hSd⟩⟩ := hSw; go_simp; all_goals (with_reducible rfl))
  change wpAnyH _ _ _ _ _ _ _ (Act.put _ (some 7) _) _
  simp only [Act.put, List.setIfInBounds_toArray, List.set_cons_zero, List.set_cons_succ]
  refine wpAnyH_take (i := 7) (v := ?v7) rfl (by kernel_rfl) (by kernel_rfl) (by kernel_rfl) (fun _ _ _ h => h) (Or.inl ⟨by rfl, ?hy7⟩) hHeld ?rest7
  case hy7 => (intro W hSw; (try dsimp only at hSw); obtain ⟨⟨hSa, hSb⟩, ⟨hSc, hSd⟩⟩ := hSw; go_simp; all_goals (with_reducible rfl))
  change wpAnyH _ _ _ _ _ _ _ (Act.put _ (some 11) _) _
  simp only [Act.put, List.setIfInBounds_toArray, List.set_cons_zero, List.set_cons_succ]
  refine wpAnyH_take (i := 11) (v := ?v11) rfl (by kernel_rfl) (by kernel_rfl) (by kernel_rfl) (fun _ _ _ h => h) (Or.inl ⟨by rfl, ?hy11⟩) hHeld ?rest11
  case hy11 => (intro W hSw; (try dsimp only at hSw); obtain ⟨⟨hSa, hSb⟩, ⟨hSc, hSd⟩⟩ := hSw; go_simp; all_goals (with_reducible rfl))
  change wpAnyH _ _ _ _ _ _ _ (Act.put _ (some 15) _) _
  simp only [Act.put, List.setIfInBounds_toArray, List.set_cons_zero, List.set_cons_succ]
  refine wpAnyH_take (i := 16) (v := ?v16) rfl (by kernel_rfl) (by kernel_rfl) (by kernel_rfl) (fun _ _ _ h => h) (Or.inl ⟨by rfl, ?hy16⟩) hHeld ?rest16
  case hy16 => (intro W hSw; (try dsimp only at hSw); obtain ⟨⟨hSa, hSb⟩, ⟨hSc, hSd⟩⟩ := hSw; go_simp; all_goals (with_reducible rfl))
  change wpAnyH _ _ _ _ _ _ _ (Act.put _ (some 20) _) _
  simp only [Act.put, List.setIfInBounds_toArray, List.set_cons_zero, List.set_cons_succ]
  refine wpAnyH_take (i := 20) (v := ?v20) rfl (by kernel_rfl) (by kernel_rfl) (by kernel_rfl) (fun _ _ _ h => h) (Or.inl ⟨by rfl, ?hy20⟩) hHeld ?rest20
  case hy20 => (intro W hSw; (try dsimp only at hSw); obtain ⟨⟨hSa, hSb⟩, ⟨hSc, hSd⟩⟩ := hSw; go_simp; all_goals (with_reducible rfl))
  change wpAnyH _ _ _ _ _ _ _ (Act.put _ (some 24) _) _
  simp only [Act.put, List.setIfInBounds_toArray, List.set_cons_zero, List.set_cons_succ]
  refine wpAnyH_take (i := 1) (v := ?v1) rfl (by kernel_rfl) (by kernel_rfl) (by kernel_rfl) (fun _ _ _ h => h) (Or.inl ⟨by rfl, ?hy1⟩) hHeld ?rest1
  case hy1 => (intro W hSw; (try dsimp only at hSw); obtain ⟨⟨hSa, hSb⟩, ⟨hSc, hSd⟩⟩ := hSw; go_simp; all_goals (with_reducible rfl))
  change wpAnyH _ _ _ _ _ _ _ (Act.put _ (some 5) _) _
  simp only [Act.put, List.setIfInBounds_toArray, List.set_cons_zero, List.set_cons_succ]
  refine wpAnyH_take (i := 4) (v := ?v4) rfl (by kernel_rfl) (by kernel_rfl) (by kernel_rfl) (fun _ _ _ h => h) (Or.inl ⟨by rfl, ?hy4⟩) hHeld ?rest4
  case hy4 => (intro W hSw; (try dsimp only at hSw); obtain ⟨⟨hSa, hSb⟩, ⟨hSc, hSd⟩⟩ := hSw; go_simp; all_goals (with_reducible rfl))
  change wpAnyH _ _ _ _ _ _ _ (Act.put _ (some 8) _) _
  simp only [Act.put, List.setIfInBounds_toArray, List.set_cons_zero, List.set_cons_succ]
  refine wpAnyH_take (i := 8) (v := ?v8) rfl (by kernel_rfl) (by kernel_rfl) (by kernel_rfl) (fun _ _ _ h => h) (Or.inl ⟨by rfl, ?hy8⟩) hHeld ?rest8
  case hy8 => (intro W hSw; (try dsimp only at hSw); obtain ⟨⟨hSa, hSb⟩, ⟨hSc, hSd⟩⟩ := hSw; go_simp; all_goals (with_reducible rfl))
  change wpAnyH _ _ _ _ _ _ _ (Act.put _ (some 12) _) _
  simp only [Act.put, List.setIfInBounds_toArray, List.set_cons_zero, List.set_cons_succ]
  refine wpAnyH_take (i := 12) (v := ?v12) rfl (by kernel_rfl) (by kernel_rfl) (by kernel_rfl) (fun _ _ _ h => h) (Or.inl ⟨by rfl, ?hy12⟩) hHeld ?rest12
  case hy12 => (intro W hSw; (try dsimp only at hSw); obtain ⟨⟨hSa, hSb⟩, ⟨hSc, hSd⟩⟩ := hSw; go_simp; all_goals (with_reducible rfl))
  change wpAnyH _ _ _ _ _ _ _ (Act.put _ (some 16) _) _
  simp only [Act.put, List.setIfInBounds_toArray, List.set_cons_zero, List.set_cons_succ]
  refine wpAnyH_take (i := 17) (v := ?v17) rfl (by kernel_rfl) (by kernel_rfl) (by kernel_rfl) (fun _ _ _ h => h) (Or.inl ⟨by rfl, ?hy17⟩) hHeld ?rest17
  case hy17 => (intro W hSw; (try dsimp only at hSw); obtain ⟨⟨hSa, hSb⟩, ⟨hSc, hSd⟩⟩ := hSw; go_simp; all_goals (with_reducible rfl))
  change wpAnyH _ _ _ _ _ _ _ (Act.put _ (some 21) _) _
  simp only [Act.put, List.setIfInBounds_toArray, List.set_cons_zero, List.set_cons_succ]
  refine wpAnyH_take (i := 2) (v := ?v2) rfl (by kernel_rfl) (by kernel_rfl) (by kernel_rfl) (fun _ _ _ h => h) (Or.inl ⟨by rfl, ?hy2⟩) hHeld ?rest2
  case hy2 => (intro W hSw; (try dsimp only at hSw); obtain ⟨⟨hSa, hSb⟩, ⟨hSc, hSd⟩⟩ := hSw; go_simp; all_goals (with_reducible rfl))
  change wpAnyH _ _ _ _ _ _ _ (Act.put _ (some 6) _) _
  simp only [Act.put, List.setIfInBounds_toArray, List.set_cons_zero, List.set_cons_succ]
  refine wpAnyH_take (i := 5) (v := ?v5) rfl (by kernel_rfl) (by kernel_rfl) (by kernel_rfl) (fun _ _ _ h => h) (Or.inl ⟨by rfl, ?hy5⟩) hHeld ?rest5
  case hy5 => (intro W hSw; (try dsimp only at hSw); obtain ⟨⟨hSa, hSb⟩, ⟨hSc, hSd⟩⟩ := hSw; go_simp; all_goals (with_reducible rfl))
  change wpAnyH _ _ _ _ _ _ _ (Act.put _ (some 9) _) _
  simp only [Act.put, List.setIfInBounds_toArray, List.set_cons_zero, List.set_cons_succ]
  refine wpAnyH_take (i := 9) (v := ?v9) rfl (by kernel_rfl) (by kernel_rfl) (by kernel_rfl) (fun _ _ _ h => h) (Or.inl ⟨by rfl, ?hy9⟩) hHeld ?rest9
  case hy9 => (intro W hSw; (try dsimp only at hSw); obtain ⟨⟨hSa, hSb⟩, ⟨hSc, hSd⟩⟩ := hSw; go_simp; all_goals (with_reducible rfl))
  change wpAnyH _ _ _ _ _ _ _ (Act.put _ (some 13) _) _
  simp only [Act.put, List.setIfInBounds_toArray, List.set_cons_zero, List.set_cons_succ]
  refine wpAnyH_take (i := 13) (v := ?v13) rfl (by kernel_rfl) (by kernel_rfl) (by kernel_rfl) (fun _ _ _ h => h) (Or.inl ⟨by rfl, ?hy13⟩) hHeld ?rest13
  case hy13 => (intro W hSw; (try dsimp only at hSw); obtain ⟨⟨hSa, hSb⟩, ⟨hSc, hSd⟩⟩ := hSw; go_simp; all_goals (with_reducible rfl))
  change wpAnyH _ _ _ _ _ _ _ (Act.put _ (some 17) _) _
  simp only [Act.put, List.setIfInBounds_toArray, List.set_cons_zero, List.set_cons_succ]
  refine wpAnyH_take (i := 18) (v := ?v18) rfl (by kernel_rfl) (by kernel_rfl) (by kernel_rfl) (fun _ _ _ h => h) (Or.inl ⟨by rfl, ?hy18⟩) hHeld ?rest18
  case hy18 => (intro W hSw; (try dsimp only at hSw); obtain ⟨⟨hSa, hSb⟩, ⟨hSc, hSd⟩⟩ := hSw; go_simp; all_goals (with_reducible rfl))
  change wpAnyH _ _ _ _ _ _ _ (Act.put _ (some 22) _) _
  simp only [Act.put, List.setIfInBounds_toArray, List.set_cons_zero, List.set_cons_succ]
  refine wpAnyH_take (i := 6) (v := ?v6) rfl (by kernel_rfl) (by kernel_rfl) (by kernel_rfl) (fun _ _ _ h => h) (Or.inl ⟨by rfl, ?hy6⟩) hHeld ?rest6
  case hy6 => (intro W hSw; (try dsimp only at hSw); obtain ⟨⟨hSa, hSb⟩, ⟨hSc, hSd⟩⟩ := hSw; go_simp; all_goals (with_reducible rfl))
  change wpAnyH _ _ _ _ _ _ _ (Act.put _ (some 10) _) _
  simp only [Act.put, List.setIfInBounds_toArray, List.set_cons_zero, List.set_cons_succ]
  refine wpAnyH_take (i := 10) (v := ?v10) rfl (by kernel_rfl) (by kernel_rfl) (by kernel_rfl) (fun _ _ _ h => h) (Or.inl ⟨by rfl, ?hy10⟩) hHeld ?rest10
  case hy10 => (intro W hSw; (try dsimp only at hSw); obtain ⟨⟨hSa, hSb⟩, ⟨hSc, hSd⟩⟩ := hSw; go_simp; all_goals (with_reducible rfl))
  change wpAnyH _ _ _ _ _ _ _ (Act.put _ (some 14) _) _
  simp only [Act.put, List.setIfInBounds_toArray, List.set_cons_zero, List.set_cons_succ]
  refine wpAnyH_take (i := 14) (v := ?v14) rfl (by kernel_rfl) (by kernel_rfl) (by kernel_rfl) (fun _ _ _ h => h) (Or.inl ⟨by rfl, ?hy14⟩) hHeld ?rest14
  case hy14 => (intro W hSw; (try dsimp only at hSw); obtain ⟨⟨hSa, hSb⟩, ⟨hSc, hSd⟩⟩ := hSw; go_simp; all_goals (with_reducible rfl))
  change wpAnyH _ _ _ _ _ _ _ (Act.put _ (some 18) _) _
  simp only [Act.put, List.setIfInBounds_toArray, List.set_cons_zero, List.set_cons_succ]
  refine wpAnyH_take (i := 19) (v := ?v19) rfl (by kernel_rfl) (by kernel_rfl) (by kernel_rfl) (fun _ _ _ h => h) (Or.inl ⟨by rfl, ?hy19⟩) hHeld ?rest19
  case hy19 => (intro W hSw; (try dsimp only at hSw); obtain ⟨⟨hSa, hSb⟩, ⟨hSc, hSd⟩⟩ := hSw; go_simp; all_goals (with_reducible rfl))
  change wpAnyH _ _ _ _ _ _ _ (Act.put _ (some 23) _) _
  simp only [Act.put, List.setIfInBounds_toArray, List.set_cons_zero, List.set_cons_succ]
  refine wpAnyH_take (i := 15) (v := ?v15) rfl (by kernel_rfl) (by kernel_rfl) (by kernel_rfl) (fun _ _ _ h => h) (Or.inl ⟨by rfl, ?hy15⟩) hHeld ?rest15
  case hy15 => (intro W hSw; (try dsimp only at hSw); obtain ⟨⟨hSa, hSb⟩, ⟨hSc, hSd⟩⟩ := hSw; go_simp; all_goals (with_reducible rfl))
  change wpAnyH _ _ _ _ _ _ _ (Act.put _ (some 19) _) _
  simp only [Act.put, List.setIfInBounds_toArray, List.set_cons_zero, List.set_cons_succ]
  refine wpAnyH_ready (rs := [21]) (by kernel_rfl) (by simp) ?_
  refine AllReadyH.cons rfl (fun K hK => ?_) AllReadyH.nil
  try simp only [List.getElem_toArray, List.getElem_cons_succ, List.getElem_cons_zero]
  go_simp
  refine (calls_args HB.out (by rfl)).mono ?_
  rintro e w1 ⟨rfl, oL, oD, oC, cs1, g1, hCds, hP1⟩
  have hM1 := Hd.out.pen hP1
  have e0 : cs1[0]? = some (.slice da n dc) := by rw [hP1.cs.keep 0 (by omega) (by omega) (by omega), Hda.out, Hn.out]
  have e4 : cs1[4]? = some (.slice pa q pc) := by rw [hP1.cs.keep 4 (by omega) (by omega) (by omega), Hpa.out, Hq.out]
  have hS1 := And.intro (And.intro (cell_of (o := 0) hM1.blk e0) (cell_of (o := 2) hM1.blk hM1.c2)) (And.intro (cell_of (o := 3) hM1.blk hM1.c3) (cell_of (o := 4) hM1.blk e4))
  have HM1 := hide hM1
  have HF1 := hide ((Fr.of_drewN w 1).trans hP1.fr)
  have HCds := hide hCds
  have E4 := hide e4
  clear hP1 hM1 hCds e0 e4
  refine hK.out _ _ hS1 (fun hHeld => ?_)
  clear hK K
  refine wpAnyH_done (by kernel_rfl) ?_ _
  have k2' := hS1.1.2
  have k3' := hS1.2.1
  have k4' := hS1.2.2
  have f3 := frozen_of (o := 3) HM1.out.blk
  have f4 := frozen_of (o := 4) HM1.out.blk
  clear hHeld hS1 k0 k2 k3 k4
  go_wp2
  all_goals
    go_end0
    have hM1 := HM1.out
    obtain ⟨hM2, hF2⟩ := hM1.upd 3 (.int .i64 (told : Int)) (by omega) (taken' := taken) (told' := told) (begin' := told) (ps' := ps) (by rw [Array.getElem?_setIfInBounds_ne (by omega)]; exact hM1.c1) (by rw [Array.getElem?_setIfInBounds_ne (by omega)]; exact hM1.c2) (get_set _ hM1.c3) (by
      obtain ⟨x, y, z1, z2⟩ := hM1.c4
      exact ⟨x, y, by rw [Array.getElem?_setIfInBounds_ne (by omega)]; exact z1, z2⟩)
    obtain ⟨x, y, z1, z2⟩ := hM2.c4
    have z3 := z1
    rw [Array.getElem?_setIfInBounds_ne (by omega), E4.out] at z3
    obtain ⟨e1, _, e3⟩ := Value.slice.inj (Option.some.inj z3)
    rw [← e1, ← e3] at z2
    obtain ⟨hM3, hF3⟩ := hM2.upd 4 (.slice pa 0 pc) (by omega) (taken' := taken) (told' := told) (begin' := told) (ps' := []) (by rw [Array.getElem?_setIfInBounds_ne (by omega)]; exact hM2.c1) (by rw [Array.getElem?_setIfInBounds_ne (by omega)]; exact hM2.c2) (by rw [Array.getElem?_setIfInBounds_ne (by omega)]; exact hM2.c3) ⟨pa, pc, get_set _ z1, own_trunc z2⟩
    refine ⟨rfl, oL, oD, oC, HCds.out, ⟨_, g1, hM3⟩, ?_⟩
    exact (HF1.out.trans (hF2.trans hF3)).mono fun i hi e => by
      rcases e with (e | e) | e | e
      · exact e.elim
      · rcases e with e | e
        · omega
        · exact Hd.out.log i e
      · omega
      · omega
end Go.Proofs.YtdpmpllbdoefdaaGreatDoor
namespace Go.Proofs.YtdpmpllbdoefdaaGreatDoor
open Go.RowKit
theorem Tryz.info113 : (Tryz.prog.info? 113).map (fun i => (i.zero, i.size, i.bytes)) = some (some (.agg #[.int .u8 0, .int .u16 0, .int .u16 0]), 3, 6) := by kernel_rfl
theorem Tryz.und60s : Tryz.prog.underlying 88 = some (.slice 113) := by kernel_rfl
def adds (bs : List Nat) (k at' : Nat) (nw od : List Nat) : Nat → List Nat × List Nat
  | 0 => (nw, od)
  | i + 1 => (addN bs (adds bs k at' nw od i).1 k (at' + i), addO bs (adds bs k at' nw od i).1 (adds bs k at' nw od i).2 k (at' + i))
def endOf (bs : List Nat) (begin : Nat) : Nat := min (begin + 65535) bs.length
def rowOf (bs nw od : List Nat) (k begin told : Nat) : Nat × Nat := findP (bs.take (endOf bs begin)) nw od k told
def pcOf (bs nw od : List Nat) (k begin told : Nat) : Pc := ⟨bs.getD told 0, (rowOf bs nw od k begin told).1, (rowOf bs nw od k begin told).2⟩
def advOf (bs nw od : List Nat) (k begin told : Nat) : Nat := max (rowOf bs nw od k begin told).1 1
theorem getD_le {l : List Nat} {m : Nat} (h : ∀ x ∈ l, x ≤ m) (i : Nat) : l.getD i 0 ≤ m := by
  rw [List.getD_eq_getElem?_getD]
  cases e : l[i]? with
  | none => exact Nat.zero_le _
  | some v => exact h v (List.mem_of_getElem? e)
theorem row_ok {bs nw od : List Nat} {k begin told : Nat} (hn : ∀ x ∈ nw, x ≤ told) (ho : ∀ x ∈ od, x ≤ told) (hb : begin ≤ told) (h6 : told < begin + 65535) (hl : told < bs.length) :
    (rowOf bs nw od k begin told = (0, 0) ∨ RowOk (bs.take (endOf bs begin)) told (rowOf bs nw od k begin told).1 (rowOf bs nw od k begin told).2) := by
  unfold rowOf findP
  have hE : (bs.take (endOf bs begin)).length = endOf bs begin := by simp [endOf]
  have hE2 : told < endOf bs begin := by unfold endOf; omega
  split
  · exact Or.inl rfl
  · next hm =>
    rw [hE] at hm ⊢
    exact findA_ok (getD_le ho) (Nat.min_le_left _ _) (by rw [hE]; omega) 64 _ 0 0 (getD_le hn _) (Or.inl ⟨rfl, rfl⟩)
theorem Mc.fin {w : World} {lo M : Nat} {cs : Array Value} {bs : List Nat} {N1 N2 k taken told begin tp : Nat} {ps : List Pc} {nw od : List Nat} {g : Option Nat} {t : Bt} (h : Mc w lo M cs bs N1 N2 k taken told begin tp ps nw od g t) {w1 : World} {tp' : Nat} {nw' od' : List Nat} (hf : Fd w1 M 5 N1 N2 k nw' od' tp') (f : Fr (fun i => i = N1 ∨ i = N2) w w1) : Mc w1 lo M cs bs N1 N2 k taken told begin tp' ps nw' od' g t := by
  obtain ⟨da, dc, z1, z2, z3⟩ := h.c0
  obtain ⟨pa, pc, y1, y2⟩ := h.c4
  have ty : ∀ b cur T, w.heap[b]? = some (.cells cur T (0, 0)) → T ≠ 21 → ¬ (b = N1 ∨ b = N2) := fun b cur T hb hT => by
    rintro (e | e)
    · exact blk_ne hb h.fd.b1 hT e
    · exact blk_ne hb h.fd.b2 hT e
  refine ⟨⟨h.pn.wt.keep f (ty M cs 101 h.blk (by decide)) (fun j hj => ?_), h.pn.wr⟩, h.sz, ⟨da, dc, z1, ownsRow_fr z2 fun j hj => f.block j (z2.lt j hj).2 ?_, z3⟩, h.c1, h.c2, h.c3, ⟨pa, pc, y1, ownsRow_fr y2 fun j hj => f.block j (y2.lt j hj).2 ?_⟩, hf, h.c12, h.c13, h.loM, h.log, h.pos, h.gl.keep f ?_, h.byt, h.len⟩
  · obtain ⟨cur, hc⟩ := pen_row h.pn hj
    exact ty j cur 5 hc (by decide)
  · cases da with
    | none => cases hj
    | some ad =>
      obtain ⟨b, cur, rfl, _, hb⟩ := own_blk z2 rfl
      cases hj
      exact ty b cur 5 hb (by decide)
  · cases pa with
    | none => cases hj
    | some ad =>
      obtain ⟨b, cur, rfl, _, hb⟩ := own_blk y2 rfl
      cases hj
      exact ty b cur 113 hb (by decide)
  · have := h.loM; have := h.pos; omega
theorem cellsP_append (a b : List Pc) : cellsP (a ++ b) = cellsP a ++ cellsP b := by
  induction a with
  | nil => rfl
  | cons x r ih => simp [cellsP, ih]
theorem cellsP_one (l : List Pc) : ∀ u ∈ cellsP l, u.oneCell' = true := by
  induction l with
  | nil => intro u hu; cases hu
  | cons x r ih =>
    intro u hu
    simp only [cellsP, List.mem_cons] at hu
    rcases hu with rfl | rfl | rfl | hu
    · rfl
    · rfl
    · rfl
    · exact ih u hu
theorem Mc.bytes {w : World} {lo M : Nat} {cs : Array Value} {bs : List Nat} {N1 N2 k taken told begin tp : Nat} {ps : List Pc} {nw od : List Nat} {g : Option Nat} {t : Bt} (h : Mc w lo M cs bs N1 N2 k taken told begin tp ps nw od g t) (h0 : 0 < bs.length) : ∃ D dc, cs[0]? = some (.slice (some ⟨D, 0, none⟩) bs.length dc) ∧ bs.length ≤ dc ∧ LiesB w D 0 bs ∧ lo ≤ D ∧ g ≠ some D ∧ (∃ cur, w.heap[D]? = some (.cells cur 5 (0, 0))) := by
  obtain ⟨da, dc, z1, z2, z3⟩ := h.c0
  rcases z2.2 with ⟨hv, e0⟩ | ⟨D, cap, cur, hv, hg, hh, hr, _⟩
  · omega
  · obtain ⟨e1, _, e3⟩ := Value.slice.inj hv
    subst e1 e3
    refine ⟨D, dc, z1, hr, fun i hi => ?_, hg, z3 _ rfl, cur, hh⟩
    have q := z2.cells (g := D) rfl i (.int .u8 ((bs.getD i 0 : Nat) : Int)) (by simp [cellsOf, List.getElem?_eq_getElem hi])
    rw [add_none, Nat.zero_add] at q
    rw [Nat.zero_add]
    exact q
theorem liesB_take {w : World} {D f : Nat} {bs : List Nat} (h : LiesB w D f bs) (e : Nat) : LiesB w D f (bs.take e) := fun i hi => by
  have hi' : i < bs.length := by rw [List.length_take] at hi; omega
  have hie : i < e := by rw [List.length_take] at hi; omega
  rw [h i hi', List.getD_eq_getElem?_getD, List.getD_eq_getElem?_getD, List.getElem?_take_of_lt hie]
theorem Mc.app {w : World} {lo M : Nat} {cs : Array Value} {bs : List Nat} {N1 N2 k taken told begin tp : Nat} {ps : List Pc} {nw od : List Nat} {g : Option Nat} {t : Bt} (h : Mc w lo M cs bs N1 N2 k taken told begin tp ps nw od g t) {w1 : World} {pa : Option Addr} {pc : Nat} (hpa : cs[4]? = some (.slice pa ps.length pc)) (f : Fr (fun i => (Value.slice pa ps.length pc).ownBlock = some i) w w1) {ps' : List Pc} {va : Option Addr} {vc : Nat} (ho : w1.ownsRow lo 113 3 (.slice va ps'.length vc) ps'.length (cellsP ps')) :
    Mc (w1.setCell ⟨M, 4, none⟩ (.slice va ps'.length vc)) lo M (cs.setIfInBounds 4 (.slice va ps'.length vc)) bs N1 N2 k taken told begin tp ps' nw od g t ∧ Fr (fun i => lo ≤ i) w (w1.setCell ⟨M, 4, none⟩ (.slice va ps'.length vc)) := by
  obtain ⟨da, dc, z1, z2, z3⟩ := h.c0
  obtain ⟨pa', pc', y1, y2⟩ := h.c4
  rw [y1] at hpa
  obtain ⟨e1, _, e3⟩ := Value.slice.inj (Option.some.inj hpa)
  subst e1 e3
  have hS : ∀ i, (Value.slice pa' ps.length pc').ownBlock = some i → lo ≤ i ∧ ∃ cur, w.heap[i]? = some (.cells cur 113 (0, 0)) := fun i hi => by
    cases pa' with
    | none => cases hi
    | some ad =>
      obtain ⟨b, cur, rfl, hlo, hb⟩ := own_blk y2 rfl
      cases hi
      exact ⟨hlo, cur, hb⟩
  have ty : ∀ b cur T, w.heap[b]? = some (.cells cur T (0, 0)) → T ≠ 113 → ¬ ((Value.slice pa' ps.length pc').ownBlock = some b) := fun b cur T hb hT e => by
    obtain ⟨_, cur2, hb2⟩ := hS b e
    exact blk_ne hb hb2 hT rfl
  have hM : w1.heap[M]? = some (.cells cs 101 (0, 0)) := cells_at h.blk f (ty M cs 101 h.blk (by decide))
  have f2 : Fr (fun j => j = M) w1 (w1.setCell ⟨M, 4, none⟩ (.slice va ps'.length vc)) := Fr.of_setCell w1 ⟨M, 4, none⟩ _
  have ff := f.trans f2
  have tyM : ∀ b cur T, w.heap[b]? = some (.cells cur T (0, 0)) → T ≠ 113 → b ≠ M → ¬ ((Value.slice pa' ps.length pc').ownBlock = some b ∨ b = M) := fun b cur T hb hT hne e => e.elim (ty b cur T hb hT) hne
  have hpn : Pn 101 w1 M 7 cs g t := ⟨h.pn.wt.keep f (ty M cs 101 h.blk (by decide)) (fun j hj => by obtain ⟨cur, hc⟩ := pen_row h.pn hj; exact ty j cur 5 hc (by decide)), h.pn.wr⟩
  refine ⟨⟨pn_set hpn 4 _ (by omega) (by omega) (by omega), by simp [h.sz], ⟨da, dc, by rw [Array.getElem?_setIfInBounds_ne (by omega)]; exact z1, ownsRow_fr z2 fun j hj => ff.block j (z2.lt j hj).2 ?_, z3⟩, by rw [Array.getElem?_setIfInBounds_ne (by omega)]; exact h.c1, by rw [Array.getElem?_setIfInBounds_ne (by omega)]; exact h.c2, by rw [Array.getElem?_setIfInBounds_ne (by omega)]; exact h.c3, ⟨va, vc, get_set _ y1, ownsRow_fr ho fun j hj => f2.block j (ho.lt j hj).2 ?_⟩, h.fd.keep ff ⟨?_, ?_⟩ (tyM N1 _ 21 h.fd.b1 (by decide) h.fd.n1) (tyM N2 _ 21 h.fd.b2 (by decide) h.fd.n2), by rw [Array.getElem?_setIfInBounds_ne (by omega)]; exact h.c12, by rw [Array.getElem?_setIfInBounds_ne (by omega)]; exact h.c13, h.loM, h.log, h.pos, h.gl.keep ff ?_, h.byt, h.len⟩, ff.mono fun i _ e => ?_⟩
  · cases da with
    | none => cases hj
    | some ad =>
      obtain ⟨b, cur, rfl, _, hb⟩ := own_blk z2 rfl
      cases hj
      exact tyM b cur 5 hb (by decide) (blk_ne hb h.blk (by decide))
  · cases va with
    | none => cases hj
    | some ad =>
      obtain ⟨b, cur, rfl, _, hb⟩ := own_blk ho rfl
      cases hj
      exact fun e => blk_ne hb hM (by decide) e
  · rw [cell_of_row _ M 5 _ 101 (0, 0) (heap_setCell_own _ hM), cell_of_row w M 5 cs 101 (0, 0) h.blk, Array.getElem?_setIfInBounds_ne (by omega)]
  · rw [cell_of_row _ M (5 + 1) _ 101 (0, 0) (heap_setCell_own _ hM), cell_of_row w M (5 + 1) cs 101 (0, 0) h.blk, Array.getElem?_setIfInBounds_ne (by omega)]
  · rintro (e | e)
    · have := (hS 1 e).1; have := h.pos; omega
    · have := h.loM; have := h.pos; omega
  · rcases e with e | e
    · exact (hS i e).1
    · have := h.loM; omega
theorem wrap_u16_id (x : Nat) (h : x < 65536) : IntKind.u16.wrap (x : Int) = (x : Int) := by
  simp [IntKind.wrap, IntKind.bits, IntKind.signed]
  omega
theorem four_keep {w w' : World} {S : Nat → Prop} {M D e : Nat} {u0 u2 u4 x : Value} (f : Fr S w w') (h1 : ¬ S M) (h2 : ¬ S D) (c0 : w.cell? ⟨M, 0, none⟩ = some u0) (c2 : w.cell? ⟨M, 2, none⟩ = some u2) (c4 : w.cell? ⟨M, 4, none⟩ = some u4) (c5 : w.cell? ⟨D, e, none⟩ = some x) :
    (w'.cell? ⟨M, 0, none⟩ = some u0 ∧ w'.cell? ⟨M, 2, none⟩ = some u2) ∧ (w'.cell? ⟨M, 4, none⟩ = some u4 ∧ w'.cell? ⟨D, e, none⟩ = some x) :=
  ⟨⟨(cell_blk (a := ⟨M, 0, none⟩) (f.block M (cell_lt c0) h1)).trans c0, (cell_blk (a := ⟨M, 2, none⟩) (f.block M (cell_lt c2) h1)).trans c2⟩, ⟨(cell_blk (a := ⟨M, 4, none⟩) (f.block M (cell_lt c4) h1)).trans c4, (cell_blk (a := ⟨D, e, none⟩) (f.block D (cell_lt c5) h2)).trans c5⟩⟩
theorem own_ne {w : World} {lo n sz c b : Nat} {T T' : TypeId} {a : Option Addr} {xs : List Value} {cur : Array Value} (h : w.ownsRow lo T sz (.slice a n c) n xs) (hb : w.heap[b]? = some (.cells cur T' (0, 0))) (hT : T ≠ T') (e : (Value.slice a n c).ownBlock = some b) : False := by
  cases a with
  | none => cases e
  | some ad =>
    obtain ⟨b', cur', rfl, _, hb'⟩ := own_blk h rfl
    cases e
    exact blk_ne hb' hb hT rfl
theorem fr_lo7 {w wr w7 : World} {lo M N1 N2 : Nat} (h : Fr (fun i => lo ≤ i) w wr) (k : Fr (fun i => i = N1 ∨ i = N2) wr.drew w7) (hl : lo ≤ M ∧ lo ≤ N1 ∧ lo ≤ N2) : Fr (fun i => lo ≤ i) w w7 :=
  (h.trans ((Fr.of_drewN wr 1).trans k)).mono fun i _ e => by
    rcases e with e | e | e
    · exact e
    · exact e.elim
    · rcases e with e | e <;> omega
set_option maxHeartbeats 3200000 in
set_option maxRecDepth 100000 in
theorem tellNext_c (lo M N1 N2 k taken told begin : Nat) (cs : Array Value) (bs : List Nat) (ps : List Pc) (nw od : List Nat) (g : Option Nat) (t : Bt) (w : World) (h : Mc w lo M cs bs N1 N2 k taken told begin told ps nw od g t)
    (hbt : begin ≤ told) (h6 : told < begin + 65535) (hlt : told < bs.length) (hpl : ps.length ≤ 65535) :
    Calls Tryz.prog 53 #[.pointer (some ⟨M, 0, none⟩)] w fun e w' => e = .returned (.tuple #[]) ∧ ∃ cs', Mc w' lo M cs' bs N1 N2 k taken (told + advOf bs nw od k begin told) begin (told + advOf bs nw od k begin told) (ps ++ [pcOf bs nw od k begin told]) (adds bs k told nw od (advOf bs nw od k begin told)).1 (adds bs k told nw od (advOf bs nw od k begin told)).2 g t ∧ Fr (fun i => lo ≤ i) w w' := by
  obtain ⟨i0, hi0, hz0, hz1, hz2⟩ := info_parts Tryz.info113
  obtain ⟨D, dc, hda, hdc, hLB, hloD, hgD, hDb⟩ := h.bytes (by omega)
  have k0 := cell_of (o := 0) h.blk hda
  have k2 := cell_of (o := 2) h.blk h.c2
  have k3 := cell_of (o := 3) h.blk h.c3
  have hlb := h.len
  have hEdef : endOf bs begin = min (begin + 65535) bs.length := rfl
  have hrow := row_ok (k := k) h.fd.t1 h.fd.t2 hbt h6 hlt
  have hPc : pcOf bs nw od k begin told = ⟨bs.getD told 0, (rowOf bs nw od k begin told).1, (rowOf bs nw od k begin told).2⟩ := rfl
  have hAdv : advOf bs nw od k begin told = max (rowOf bs nw od k begin told).1 1 := rfl
  obtain ⟨n, hn⟩ : ∃ n, n = bs.length := ⟨_, rfl⟩
  obtain ⟨E, hE⟩ : ∃ E, E = endOf bs begin := ⟨_, rfl⟩
  rw [← hE, ← hn] at hEdef
  have hRow0 : rowOf bs nw od k begin told = findP (bs.take E) nw od k told := by unfold rowOf; rw [hE]
  rw [← hE] at hrow
  obtain ⟨len, hlen⟩ : ∃ len, len = (rowOf bs nw od k begin told).1 := ⟨_, rfl⟩
  obtain ⟨back, hback⟩ : ∃ back, back = (rowOf bs nw od k begin told).2 := ⟨_, rfl⟩
  obtain ⟨adv, hadv⟩ : ∃ adv, adv = advOf bs nw od k begin told := ⟨_, rfl⟩
  obtain ⟨p, hp⟩ : ∃ p, p = pcOf bs nw od k begin told := ⟨_, rfl⟩
  obtain ⟨lit, hlit⟩ : ∃ lit, lit = bs.getD told 0 := ⟨_, rfl⟩
  rw [← hadv, ← hp]
  rw [← hlen, ← hback, ← hp, ← hlit] at hPc
  rw [← hlen, ← hadv] at hAdv
  have hEl : (bs.take E).length = E := by rw [List.length_take]; omega
  have hfacts : len ≤ 258 ∧ back ≤ 32768 ∧ told + len ≤ E := by
    rcases hrow with e | e
    · rw [hlen, hback, e]; exact ⟨by omega, by omega, by show told + 0 ≤ E; omega⟩
    · rw [← hlen, ← hback] at e
      obtain ⟨_, a2, a3, _, a5, _⟩ := e
      rw [hEl] at a3
      exact ⟨a2, a5, a3⟩
  obtain ⟨f1, f2, f3⟩ := hfacts
  have hlitb : lit < 256 := by
    rw [hlit, List.getD_eq_getElem?_getD, List.getElem?_eq_getElem hlt]
    exact h.byt _ (List.getElem_mem hlt)
  have hmin : (if (n : Int) < (begin : Int) + 65535 then (n : Int) else (begin : Int) + 65535) = (E : Int) := by split <;> omega
  have hEn : E ≤ n := by omega
  have hEdc : E ≤ dc := by omega
  have hEdci : (E : Int) ≤ (dc : Int) := by omega
  have hni : (n : Int) ≤ 4194304 := by omega
  have hbi : (begin : Int) ≤ 4194304 := by omega
  have htoldi : (told : Int) < (n : Int) := by omega
  rw [← hn] at k0
  have H := hide h
  have Hn := hide hn
  have HLB := hide hLB
  have HPc := hide hPc
  have HAdv := hide hAdv
  have Hda := hide hda
  have Hlit := hide hlit
  have hlo := h.loM.1
  have hMl := lt_of h.blk
  have HDb := hide hDb
  have Hfind : Hid (Calls Tryz.prog 61 #[.pointer (some ⟨M, 5, none⟩), .slice (some ⟨D, 0, none⟩) E dc, .int .i64 (told : Int)] w.drew.drew fun e w' => e = .returned (.tuple #[.int .i64 (len : Int), .int .i64 (back : Int)]) ∧ Fr (fun _ => False) w.drew.drew w') := by
    have hF : Fr (fun _ => False) w w.drew.drew := Fr.of_drewN w 2
    have q := find_c M 5 N1 N2 k told D 0 E dc (bs.take E) nw od w.drew.drew (h.keep hF (fun _ _ _ e => e) (fun e => e)).fd (liesB_take (hLB.fr hF (fun e => e)) E) hEl.symm (by omega) (fun b hb => h.byt b (List.mem_of_mem_take hb)) (by omega)
    rw [← hRow0, ← hlen, ← hback] at q
    exact q
  clear h hn hLB hPc hAdv hda hlit hrow hRow0 hlen hback hadv hp hE hEdef hDb
  go_enter Tryz.func53, Tryz.ntmps53
  go_wp2_with fail
  go_region
  go_wp2_with fail
  have k0d : w.drew.drew.cell? ⟨M, 0, none⟩ = some (.slice (some ⟨D, 0, none⟩) n dc) := k0
  have k2d : w.drew.drew.cell? ⟨M, 2, none⟩ = some (.int .i64 (told : Int)) := k2
  refine wp_region_held_drew (S := fun W' => W'.cell? ⟨M, 0, none⟩ = some (.slice (some ⟨D, 0, none⟩) n dc) ∧ W'.cell? ⟨M, 2, none⟩ = some (.int .i64 (told : Int))) (by kernel_rfl) ⟨k0d, k2d⟩ (fun hHeld => ?_)
  refine wpAnyH_take (i := 0) (v := ?v0) rfl (by kernel_rfl) (by kernel_rfl) (by kernel_rfl) (fun _ _ _ h => h) (Or.inl ⟨by rfl, ?hy0⟩) hHeld ?rest0
  case hy0 => (intro W hSw; (try dsimp only at hSw); obtain ⟨hSa, hSb⟩ := hSw; go_simp; all_goals (with_reducible rfl))
  change wpAnyH _ _ _ _ _ _ _ (Act.put _ (some 17) _) _
  simp only [Act.put, List.setIfInBounds_toArray, List.set_cons_zero, List.set_cons_succ]
  refine wpAnyH_take (i := 3) (v := ?v3) rfl (by kernel_rfl) (by kernel_rfl) (by kernel_rfl) (fun _ _ _ h => h) (Or.inl ⟨by rfl, ?hy3⟩) hHeld ?rest3
  case hy3 => (intro W hSw; (try dsimp only at hSw); obtain ⟨hSa, hSb⟩ := hSw; go_simp; all_goals (with_reducible rfl))
  change wpAnyH _ _ _ _ _ _ _ (Act.put _ (some 20) _) _
  simp only [Act.put, List.setIfInBounds_toArray, List.set_cons_zero, List.set_cons_succ]
  refine wpAnyH_take (i := 7) (v := ?v7) rfl (by kernel_rfl) (by kernel_rfl) (by kernel_rfl) (fun _ _ _ h => h) (Or.inl ⟨by rfl, ?hy7⟩) hHeld ?rest7
  case hy7 => (intro W hSw; (try dsimp only at hSw); obtain ⟨hSa, hSb⟩ := hSw; go_simp; all_goals (with_reducible rfl))
  change wpAnyH _ _ _ _ _ _ _ (Act.put _ (some 24) _) _
  simp only [Act.put, List.setIfInBounds_toArray, List.set_cons_zero, List.set_cons_succ]
  refine wpAnyH_take (i := 9) (v := ?v9) rfl (by kernel_rfl) (by kernel_rfl) (by kernel_rfl) (fun _ _ _ h => h) (Or.inl ⟨by rfl, ?hy9⟩) hHeld ?rest9
  case hy9 => (intro W hSw; (try dsimp only at hSw); obtain ⟨hSa, hSb⟩ := hSw; go_simp; all_goals (with_reducible rfl))
  change wpAnyH _ _ _ _ _ _ _ (Act.put _ (some 26) _) _
  simp only [Act.put, List.setIfInBounds_toArray, List.set_cons_zero, List.set_cons_succ]
  refine wpAnyH_take (i := 1) (v := ?v1) rfl (by kernel_rfl) (by kernel_rfl) (by kernel_rfl) (fun _ _ _ h => h) (Or.inl ⟨by rfl, ?hy1⟩) hHeld ?rest1
  case hy1 => (intro W hSw; (try dsimp only at hSw); obtain ⟨hSa, hSb⟩ := hSw; go_simp; all_goals (with_reducible rfl))
  change wpAnyH _ _ _ _ _ _ _ (Act.put _ (some 18) _) _
  simp only [Act.put, List.setIfInBounds_toArray, List.set_cons_zero, List.set_cons_succ]
  refine wpAnyH_take (i := 4) (v := ?v4) rfl (by kernel_rfl) (by kernel_rfl) (by kernel_rfl) (fun _ _ _ h => h) (Or.inl ⟨by rfl, ?hy4⟩) hHeld ?rest4
  case hy4 => (intro W hSw; (try dsimp only at hSw); obtain ⟨hSa, hSb⟩ := hSw; go_simp; all_goals (with_reducible rfl))
  change wpAnyH _ _ _ _ _ _ _ (Act.put _ (some 21) _) _
  simp only [Act.put, List.setIfInBounds_toArray, List.set_cons_zero, List.set_cons_succ]
  refine wpAnyH_take (i := 10) (v := ?v10) rfl (by kernel_rfl) (by kernel_rfl) (by kernel_rfl) (fun _ _ _ h => h) (Or.inl ⟨by rfl, ?hy10⟩) hHeld ?rest10
  case hy10 => (intro W hSw; (try dsimp only at hSw); obtain ⟨hSa, hSb⟩ := hSw; go_simp; all_goals (with_reducible rfl))
  change wpAnyH _ _ _ _ _ _ _ (Act.put _ (some 27) _) _
  simp only [Act.put, List.setIfInBounds_toArray, List.set_cons_zero, List.set_cons_succ]
  refine wpAnyH_take (i := 2) (v := ?v2) rfl (by kernel_rfl) (by kernel_rfl) (by kernel_rfl) (fun _ _ _ h => h) (Or.inl ⟨by rfl, ?hy2⟩) hHeld ?rest2
  case hy2 => (intro W hSw; (try dsimp only at hSw); obtain ⟨hSa, hSb⟩ := hSw; go_simp; all_goals (with_reducible rfl))
  change wpAnyH _ _ _ _ _ _ _ (Act.put _ (some 19) _) _
  simp only [Act.put, List.setIfInBounds_toArray, List.set_cons_zero, List.set_cons_succ]
  refine wpAnyH_take (i := 5) (v := ?v5) rfl (by kernel_rfl) (by kernel_rfl) (by kernel_rfl) (fun _ _ _ h => h) (Or.inl ⟨by rfl, ?hy5⟩) hHeld ?rest5
  case hy5 => (intro W hSw; (try dsimp only at hSw); obtain ⟨hSa, hSb⟩ := hSw; go_simp; all_goals (with_reducible rfl))
  change wpAnyH _ _ _ _ _ _ _ (Act.put _ (some 22) _) _
  simp only [Act.put, List.setIfInBounds_toArray, List.set_cons_zero, List.set_cons_succ]
  refine wpAnyH_take (i := 11) (v := ?v11) rfl (by kernel_rfl) (by kernel_rfl) (by kernel_rfl) (fun _ _ _ h => h) (Or.inl ⟨by rfl, ?hy11⟩) hHeld ?rest11
  case hy11 => (intro W hSw; (try dsimp only at hSw); obtain ⟨hSa, hSb⟩ := hSw; go_simp; all_goals (with_reducible rfl))
  change wpAnyH _ _ _ _ _ _ _ (Act.put _ (some 28) _) _
  simp only [Act.put, List.setIfInBounds_toArray, List.set_cons_zero, List.set_cons_succ]
  refine wpAnyH_take (i := 6) (v := ?v6) rfl (by kernel_rfl) (by kernel_rfl) (by kernel_rfl) (fun _ _ _ h => h) (Or.inl ⟨by rfl, ?hy6⟩) hHeld ?rest6
  case hy6 => (intro W hSw; (try dsimp only at hSw); obtain ⟨hSa, hSb⟩ := hSw; go_simp; all_goals (with_reducible rfl))
  change wpAnyH _ _ _ _ _ _ _ (Act.put _ (some 23) _) _
  simp only [Act.put, List.setIfInBounds_toArray, List.set_cons_zero, List.set_cons_succ]
  refine wpAnyH_take (i := 12) (v := ?v12) rfl (by kernel_rfl) (by kernel_rfl) (by kernel_rfl) (fun _ _ _ h => h) (Or.inl ⟨by rfl, ?hy12⟩) hHeld ?rest12
  case hy12 => (intro W hSw; (try dsimp only at hSw); obtain ⟨hSa, hSb⟩ := hSw; go_simp; all_goals (with_reducible rfl))
  change wpAnyH _ _ _ _ _ _ _ (Act.put _ (some 29) _) _
  simp only [Act.put, List.setIfInBounds_toArray, List.set_cons_zero, List.set_cons_succ]
  refine wpAnyH_take (i := 8) (v := ?v8) rfl (by kernel_rfl) (by kernel_rfl) (by kernel_rfl) (fun _ _ _ h => h) (Or.inl ⟨by rfl, ?hy8⟩) hHeld ?rest8
  case hy8 => (intro W hSw; (try dsimp only at hSw); obtain ⟨hSa, hSb⟩ := hSw; go_simp; all_goals (with_reducible rfl))
  change wpAnyH _ _ _ _ _ _ _ (Act.put _ (some 25) _) _
  simp only [Act.put, List.setIfInBounds_toArray, List.set_cons_zero, List.set_cons_succ]
  refine wpAnyH_ready (rs := [13]) (by kernel_rfl) (by simp) ?_
  refine AllReadyH.cons rfl (fun K hK => ?_) AllReadyH.nil
  try simp only [List.getElem_toArray, List.getElem_cons_succ, List.getElem_cons_zero]
  go_simp
  refine (calls_args Hfind.out (by rfl)).mono ?_
  rintro e w1 ⟨rfl, hF1⟩
  have HF1 := hide ((Fr.of_drewN w 2).join hF1)
  have hS1 := And.intro ((cell_blk (a := ⟨M, 0, none⟩) (hF1.block M (cell_lt k0d) (fun e => e))).trans k0d) ((cell_blk (a := ⟨M, 2, none⟩) (hF1.block M (cell_lt k2d) (fun e => e))).trans k2d)
  clear hF1
  refine hK.out _ _ hS1 (fun hHeld => ?_)
  clear hK K
  refine wpAnyH_take (i := 14) (v := ?v14) rfl (by kernel_rfl) (by kernel_rfl) (by kernel_rfl) (fun _ _ _ h => h) (Or.inl ⟨by rfl, ?hy14⟩) hHeld ?rest14
  case hy14 => (intro W hSw; (try dsimp only at hSw); obtain ⟨hSa, hSb⟩ := hSw; go_simp; all_goals (with_reducible rfl))
  change wpAnyH _ _ _ _ _ _ _ (Act.put _ (some 16) _) _
  simp only [Act.put, List.setIfInBounds_toArray, List.set_cons_zero, List.set_cons_succ]
  refine wpAnyH_take (i := 15) (v := ?v15) rfl (by kernel_rfl) (by kernel_rfl) (by kernel_rfl) (fun _ _ _ h => h) (Or.inl ⟨by rfl, ?hy15⟩) hHeld ?rest15
  case hy15 => (intro W hSw; (try dsimp only at hSw); obtain ⟨hSa, hSb⟩ := hSw; go_simp; all_goals (with_reducible rfl))
  change wpAnyH _ _ _ _ _ _ _ (Act.put _ (some 31) _) _
  simp only [Act.put, List.setIfInBounds_toArray, List.set_cons_zero, List.set_cons_succ]
  refine wpAnyH_take (i := 16) (v := ?v16) rfl (by kernel_rfl) (by kernel_rfl) (by kernel_rfl) (fun _ _ _ h => h) (Or.inl ⟨by rfl, ?hy16⟩) hHeld ?rest16
  case hy16 => (intro W hSw; (try dsimp only at hSw); obtain ⟨hSa, hSb⟩ := hSw; go_simp; all_goals (with_reducible rfl))
  change wpAnyH _ _ _ _ _ _ _ (Act.put _ (some 32) _) _
  simp only [Act.put, List.setIfInBounds_toArray, List.set_cons_zero, List.set_cons_succ]
  refine wpAnyH_take (i := 17) (v := ?v17) rfl (by kernel_rfl) (by kernel_rfl) (by kernel_rfl) (fun _ _ _ h => h) (Or.inl ⟨by rfl, ?hy17⟩) hHeld ?rest17
  case hy17 => (intro W hSw; (try dsimp only at hSw); obtain ⟨hSa, hSb⟩ := hSw; go_simp; all_goals (with_reducible rfl))
  change wpAnyH _ _ _ _ _ _ _ (Act.put _ (some 3) _) _
  simp only [Act.put, List.setIfInBounds_toArray, List.set_cons_zero, List.set_cons_succ]
  refine wpAnyH_take (i := 18) (v := ?v18) rfl (by kernel_rfl) (by kernel_rfl) (by kernel_rfl) (fun _ _ _ h => h) (Or.inl ⟨by rfl, ?hy18⟩) hHeld ?rest18
  case hy18 => (intro W hSw; (try dsimp only at hSw); obtain ⟨hSa, hSb⟩ := hSw; go_simp; all_goals (with_reducible rfl))
  change wpAnyH _ _ _ _ _ _ _ (Act.put _ (some 4) _) _
  simp only [Act.put, List.setIfInBounds_toArray, List.set_cons_zero, List.set_cons_succ]
  refine wpAnyH_done (by kernel_rfl) ?_ _
  clear hHeld hS1 k0 k2 k3 k0d k2d hmin
  obtain ⟨w2, hw2⟩ : ∃ w2, w2 = w1.drew := ⟨_, rfl⟩
  have hF2 : Fr (fun _ => False) w w2 := by rw [hw2]; exact HF1.out.join (Fr.of_drewN w1 1)
  have hM2 : Mc w2 lo M cs bs N1 N2 k taken told begin told ps nw od g t := H.out.keep hF2 (fun _ _ _ e => e) (fun e => e)
  obtain ⟨pa, pc, hpa, hpo⟩ := hM2.c4
  obtain ⟨q, hq⟩ : ∃ q, q = ps.length := ⟨_, rfl⟩
  rw [← hq] at hpa hpo hpl
  have j0 : w2.cell? ⟨M, 0, none⟩ = some (.slice (some ⟨D, 0, none⟩) n dc) := cell_of (o := 0) hM2.blk (by rw [Hda.out, Hn.out])
  have j2 : w2.cell? ⟨M, 2, none⟩ = some (.int .i64 (told : Int)) := cell_of (o := 2) hM2.blk hM2.c2
  have j4 : w2.cell? ⟨M, 4, none⟩ = some (.slice pa q pc) := cell_of (o := 4) hM2.blk hpa
  have jD : w2.cell? ⟨D, told, none⟩ = some (.int .u8 (lit : Int)) := by
    have := (HLB.out.fr hF2 (fun e => e)) told (by rw [← Hn.out]; omega)
    rw [Nat.zero_add, ← Hlit.out] at this
    exact this
  have q1 := wrap_u16_id len (by omega)
  have q2 := wrap_u16_id back (by omega)
  have HM2 := hide hM2
  have HF2 := hide hF2
  have Hpo := hide hpo
  have Hpa := hide hpa
  have Hq := hide hq
  have hMl2 : M < w2.heap.size := lt_of hM2.blk
  have hj4 : M < w1.heap.size := by rw [hw2] at hMl2; exact hMl2
  clear hF2 hM2 hpa hpo hq
  rw [hw2] at j0 j2 j4 jD
  have Hw2 := hide hw2
  clear hw2
  go_wp2_with fail
  refine wp_region_L (S := fun W' => (W'.cell? ⟨M, 0, none⟩ = some (.slice (some ⟨D, 0, none⟩) n dc) ∧ W'.cell? ⟨M, 2, none⟩ = some (.int .i64 (told : Int))) ∧ (W'.cell? ⟨M, 4, none⟩ = some (.slice pa q pc) ∧ W'.cell? ⟨D, told, none⟩ = some (.int .u8 (lit : Int)))) 24 (by kernel_rfl) ⟨⟨j0, j2⟩, ⟨j4, jD⟩⟩ (fun hHeld => ?_)
  refine wpAnyL_take [22, 23, 24] (i := 0) (v := ?v0z) rfl (by kernel_rfl) (by kernel_rfl) (by kernel_rfl) (by kernel_rfl) (fun _ _ _ h => h) (Or.inl ⟨by rfl, ?hy0z⟩) hHeld ?rest0z
  case hy0z => (intro W hSw; (try dsimp only at hSw); obtain ⟨⟨hSa, hSb⟩, ⟨hSc, hSd⟩⟩ := hSw; go_simp; all_goals (with_reducible rfl))
  change wpAnyL _ _ _ _ _ _ _ _ (Act.put _ (some 33) _) _
  simp only [Act.put, List.setIfInBounds_toArray, List.set_cons_zero, List.set_cons_succ]
  refine wpAnyL_take [2, 3, 4, 21, 24] (i := 1) (v := ?v1z) rfl (by kernel_rfl) (by kernel_rfl) (by kernel_rfl) (by kernel_rfl) (fun _ _ _ h => h) (Or.inl ⟨by rfl, ?hy1z⟩) hHeld ?rest1z
  case hy1z => (intro W hSw; (try dsimp only at hSw); obtain ⟨⟨hSa, hSb⟩, ⟨hSc, hSd⟩⟩ := hSw; go_simp; all_goals (with_reducible rfl))
  change wpAnyL _ _ _ _ _ _ _ _ (Act.put _ (some 34) _) _
  simp only [Act.put, List.setIfInBounds_toArray, List.set_cons_zero, List.set_cons_succ]
  refine wpAnyL_take [6, 7, 8, 13, 14, 19, 20, 21, 24] (i := 5) (v := ?v5z) rfl (by kernel_rfl) (by kernel_rfl) (by kernel_rfl) (by kernel_rfl) (fun _ _ _ h => h) (Or.inl ⟨by rfl, ?hy5z⟩) hHeld ?rest5z
  case hy5z => (intro W hSw; (try dsimp only at hSw); obtain ⟨⟨hSa, hSb⟩, ⟨hSc, hSd⟩⟩ := hSw; go_simp; all_goals (with_reducible rfl))
  change wpAnyL _ _ _ _ _ _ _ _ (Act.put _ (some 38) _) _
  simp only [Act.put, List.setIfInBounds_toArray, List.set_cons_zero, List.set_cons_succ]
  refine wpAnyL_take [10, 11, 12, 13, 14, 19, 20, 21, 24] (i := 9) (v := ?v9z) rfl (by kernel_rfl) (by kernel_rfl) (by kernel_rfl) (by kernel_rfl) (fun _ _ _ h => h) (Or.inl ⟨by rfl, ?hy9z⟩) hHeld ?rest9z
  case hy9z => (intro W hSw; (try dsimp only at hSw); obtain ⟨⟨hSa, hSb⟩, ⟨hSc, hSd⟩⟩ := hSw; go_simp; all_goals (with_reducible rfl))
  change wpAnyL _ _ _ _ _ _ _ _ (Act.put _ (some 42) _) _
  simp only [Act.put, List.setIfInBounds_toArray, List.set_cons_zero, List.set_cons_succ]
  refine wpAnyL_take [16, 19, 20, 21, 24] (i := 15) (v := ?v15z) rfl (by kernel_rfl) (by kernel_rfl) (by kernel_rfl) (by kernel_rfl) (fun _ _ _ h => h) (Or.inl ⟨by rfl, ?hy15z⟩) hHeld ?rest15z
  case hy15z => (intro W hSw; (try dsimp only at hSw); obtain ⟨⟨hSa, hSb⟩, ⟨hSc, hSd⟩⟩ := hSw; go_simp; all_goals (with_reducible rfl))
  change wpAnyL _ _ _ _ _ _ _ _ (Act.put _ (some 48) _) _
  simp only [Act.put, List.setIfInBounds_toArray, List.set_cons_zero, List.set_cons_succ]
  refine wpAnyL_take [18, 19, 20, 21, 24] (i := 17) (v := ?v17z) rfl (by kernel_rfl) (by kernel_rfl) (by kernel_rfl) (by kernel_rfl) (fun _ _ _ h => h) (Or.inl ⟨by rfl, ?hy17z⟩) hHeld ?rest17z
  case hy17z => (intro W hSw; (try dsimp only at hSw); obtain ⟨⟨hSa, hSb⟩, ⟨hSc, hSd⟩⟩ := hSw; go_simp; all_goals (with_reducible rfl))
  change wpAnyL _ _ _ _ _ _ _ _ (Act.put _ (some 50) _) _
  simp only [Act.put, List.setIfInBounds_toArray, List.set_cons_zero, List.set_cons_succ]
  refine wpAnyL_take [3, 4, 21, 24] (i := 2) (v := ?v2z) rfl (by kernel_rfl) (by kernel_rfl) (by kernel_rfl) (by kernel_rfl) (fun _ _ _ h => h) (Or.inl ⟨by rfl, ?hy2z⟩) hHeld ?rest2z
  case hy2z => (intro W hSw; (try dsimp only at hSw); obtain ⟨⟨hSa, hSb⟩, ⟨hSc, hSd⟩⟩ := hSw; go_simp; all_goals (with_reducible rfl))
  change wpAnyL _ _ _ _ _ _ _ _ (Act.put _ (some 35) _) _
  simp only [Act.put, List.setIfInBounds_toArray, List.set_cons_zero, List.set_cons_succ]
  refine wpAnyL_take [7, 8, 13, 14, 19, 20, 21, 24] (i := 6) (v := ?v6z) rfl (by kernel_rfl) (by kernel_rfl) (by kernel_rfl) (by kernel_rfl) (fun _ _ _ h => h) (Or.inl ⟨by rfl, ?hy6z⟩) hHeld ?rest6z
  case hy6z => (intro W hSw; (try dsimp only at hSw); obtain ⟨⟨hSa, hSb⟩, ⟨hSc, hSd⟩⟩ := hSw; go_simp; all_goals (with_reducible rfl))
  change wpAnyL _ _ _ _ _ _ _ _ (Act.put _ (some 39) _) _
  simp only [Act.put, List.setIfInBounds_toArray, List.set_cons_zero, List.set_cons_succ]
  refine wpAnyL_take [11, 12, 13, 14, 19, 20, 21, 24] (i := 10) (v := ?v10z) rfl (by kernel_rfl) (by kernel_rfl) (by kernel_rfl) (by kernel_rfl) (fun _ _ _ h => h) (Or.inl ⟨by rfl, ?hy10z⟩) hHeld ?rest10z
  case hy10z => (intro W hSw; (try dsimp only at hSw); obtain ⟨⟨hSa, hSb⟩, ⟨hSc, hSd⟩⟩ := hSw; go_simp; all_goals (with_reducible rfl))
  change wpAnyL _ _ _ _ _ _ _ _ (Act.put _ (some 43) _) _
  simp only [Act.put, List.setIfInBounds_toArray, List.set_cons_zero, List.set_cons_succ]
  refine wpAnyL_take [19, 20, 21, 24] (i := 16) (v := ?v16z) rfl (by kernel_rfl) (by kernel_rfl) (by kernel_rfl) (by kernel_rfl) (fun _ _ _ h => h) (Or.inl ⟨by rfl, ?hy16z⟩) hHeld ?rest16z
  case hy16z => (intro W hSw; (try dsimp only at hSw); obtain ⟨⟨hSa, hSb⟩, ⟨hSc, hSd⟩⟩ := hSw; go_simp; all_goals (with_reducible rfl))
  change wpAnyL _ _ _ _ _ _ _ _ (Act.put _ (some 49) _) _
  simp only [Act.put, List.setIfInBounds_toArray, List.set_cons_zero, List.set_cons_succ]
  refine wpAnyL_take [19, 20, 21, 24] (i := 18) (v := ?v18z) rfl (by kernel_rfl) (by kernel_rfl) (by kernel_rfl) (by kernel_rfl) (fun _ _ _ h => h) (Or.inl ⟨by rfl, ?hy18z⟩) hHeld ?rest18z
  case hy18z => (intro W hSw; (try dsimp only at hSw); obtain ⟨⟨hSa, hSb⟩, ⟨hSc, hSd⟩⟩ := hSw; go_simp; all_goals (with_reducible rfl))
  change wpAnyL _ _ _ _ _ _ _ _ (Act.put _ (some 51) _) _
  simp only [Act.put, List.setIfInBounds_toArray, List.set_cons_zero, List.set_cons_succ]
  refine wpAnyL_take [4, 21, 24] (i := 3) (v := ?v3z) rfl (by kernel_rfl) (by kernel_rfl) (by kernel_rfl) (by kernel_rfl) (fun _ _ _ h => h) (Or.inl ⟨by rfl, ?hy3z⟩) hHeld ?rest3z
  case hy3z => (intro W hSw; (try dsimp only at hSw); obtain ⟨⟨hSa, hSb⟩, ⟨hSc, hSd⟩⟩ := hSw; go_simp; all_goals (with_reducible rfl))
  change wpAnyL _ _ _ _ _ _ _ _ (Act.put _ (some 36) _) _
  simp only [Act.put, List.setIfInBounds_toArray, List.set_cons_zero, List.set_cons_succ]
  refine wpAnyL_take [8, 13, 14, 19, 20, 21, 24] (i := 7) (v := ?v7z) rfl (by kernel_rfl) (by kernel_rfl) (by kernel_rfl) (by kernel_rfl) (fun _ _ _ h => h) (Or.inl ⟨by rfl, ?hy7z⟩) hHeld ?rest7z
  case hy7z => (intro W hSw; (try dsimp only at hSw); obtain ⟨⟨hSa, hSb⟩, ⟨hSc, hSd⟩⟩ := hSw; go_simp; all_goals (with_reducible rfl))
  change wpAnyL _ _ _ _ _ _ _ _ (Act.put _ (some 40) _) _
  simp only [Act.put, List.setIfInBounds_toArray, List.set_cons_zero, List.set_cons_succ]
  refine wpAnyL_take [12, 13, 14, 19, 20, 21, 24] (i := 11) (v := ?v11z) rfl (by kernel_rfl) (by kernel_rfl) (by kernel_rfl) (by kernel_rfl) (fun _ _ _ h => h) (Or.inl ⟨by rfl, ?hy11z⟩) hHeld ?rest11z
  case hy11z => (intro W hSw; (try dsimp only at hSw); obtain ⟨⟨hSa, hSb⟩, ⟨hSc, hSd⟩⟩ := hSw; go_simp; all_goals (with_reducible rfl))
  change wpAnyL _ _ _ _ _ _ _ _ (Act.put _ (some 44) _) _
  simp only [Act.put, List.setIfInBounds_toArray, List.set_cons_zero, List.set_cons_succ]
  refine wpAnyL_take [21, 24] (i := 4) (v := ?v4z) rfl (by kernel_rfl) (by kernel_rfl) (by kernel_rfl) (by kernel_rfl) (fun _ _ _ h => h) (Or.inl ⟨by rfl, ?hy4z⟩) hHeld ?rest4z
  case hy4z => (intro W hSw; (try dsimp only at hSw); obtain ⟨⟨hSa, hSb⟩, ⟨hSc, hSd⟩⟩ := hSw; go_simp; all_goals (with_reducible rfl))
  change wpAnyL _ _ _ _ _ _ _ _ (Act.put _ (some 37) _) _
  simp only [Act.put, List.setIfInBounds_toArray, List.set_cons_zero, List.set_cons_succ]
  refine wpAnyL_take [13, 14, 19, 20, 21, 24] (i := 8) (v := ?v8z) rfl (by kernel_rfl) (by kernel_rfl) (by kernel_rfl) (by kernel_rfl) (fun _ _ _ h => h) (Or.inl ⟨by rfl, ?hy8z⟩) hHeld ?rest8z
  case hy8z => (intro W hSw; (try dsimp only at hSw); obtain ⟨⟨hSa, hSb⟩, ⟨hSc, hSd⟩⟩ := hSw; go_simp; all_goals (with_reducible rfl))
  change wpAnyL _ _ _ _ _ _ _ _ (Act.put _ (some 41) _) _
  simp only [Act.put, List.setIfInBounds_toArray, List.set_cons_zero, List.set_cons_succ]
  refine wpAnyL_take [13, 14, 19, 20, 21, 24] (i := 12) (v := ?v12z) rfl (by kernel_rfl) (by kernel_rfl) (by kernel_rfl) (by kernel_rfl) (fun _ _ _ h => h) (Or.inl ⟨by rfl, ?hy12z⟩) hHeld ?rest12z
  case hy12z => (intro W hSw; (try dsimp only at hSw); obtain ⟨⟨hSa, hSb⟩, ⟨hSc, hSd⟩⟩ := hSw; go_simp; all_goals (with_reducible rfl))
  change wpAnyL _ _ _ _ _ _ _ _ (Act.put _ (some 45) _) _
  simp only [Act.put, List.setIfInBounds_toArray, List.set_cons_zero, List.set_cons_succ]
  refine wpAnyL_take [14, 19, 20, 21, 24] (i := 13) (v := ?v13z) rfl (by kernel_rfl) (by kernel_rfl) (by kernel_rfl) (by kernel_rfl) (fun _ _ _ h => h) (Or.inl ⟨by rfl, ?hy13z⟩) hHeld ?rest13z
  case hy13z => (intro W hSw; (try dsimp only at hSw); obtain ⟨⟨hSa, hSb⟩, ⟨hSc, hSd⟩⟩ := hSw; go_simp; all_goals (with_reducible rfl))
  change wpAnyL _ _ _ _ _ _ _ _ (Act.put _ (some 46) _) _
  simp only [Act.put, List.setIfInBounds_toArray, List.set_cons_zero, List.set_cons_succ]
  refine wpAnyL_take [19, 20, 21, 24] (i := 14) (v := ?v14z) rfl (by kernel_rfl) (by kernel_rfl) (by kernel_rfl) (by kernel_rfl) (fun _ _ _ h => h) (Or.inl ⟨by rfl, ?hy14z⟩) hHeld ?rest14z
  case hy14z => (intro W hSw; (try dsimp only at hSw); obtain ⟨⟨hSa, hSb⟩, ⟨hSc, hSd⟩⟩ := hSw; go_simp; all_goals (with_reducible rfl))
  change wpAnyL _ _ _ _ _ _ _ _ (Act.put _ (some 47) _) _
  simp only [Act.put, List.setIfInBounds_toArray, List.set_cons_zero, List.set_cons_succ]
  refine wpAnyL_take [20, 21, 24] (i := 19) (v := ?v19z) rfl (by kernel_rfl) (by kernel_rfl) (by kernel_rfl) (by kernel_rfl) (fun _ _ _ h => h) (Or.inl ⟨by rfl, ?hy19z⟩) hHeld ?rest19z
  case hy19z => (intro W hSw; (try dsimp only at hSw); obtain ⟨⟨hSa, hSb⟩, ⟨hSc, hSd⟩⟩ := hSw; go_simp; all_goals (with_reducible rfl))
  change wpAnyL _ _ _ _ _ _ _ _ (Act.put _ (some 52) _) _
  simp only [Act.put, List.setIfInBounds_toArray, List.set_cons_zero, List.set_cons_succ]
  refine wpAnyL_one (i := 20) (by kernel_rfl) rfl (fun K hK => ?_)
  try simp only [List.getElem_toArray, List.getElem_cons_succ, List.getElem_cons_zero]
  go_simp
  obtain ⟨X, hX⟩ : ∃ X, X = w1.heap.size := ⟨_, rfl⟩
  obtain ⟨w3, hw3⟩ : ∃ w3, w3 = (w1.alloc (.cells #[.int .u8 (lit : Int), .int .u16 (len : Int), .int .u16 (back : Int)] 113)).drew := ⟨_, rfl⟩
  rw [← hw3, ← hX]
  have hF3 : Fr (fun _ => False) w2 w3 := by rw [hw3, Hw2.out]; exact Fr.of_alloc w1.drew _
  have hbX : w3.heap[X]? = some (.cells #[.int .u8 (lit : Int), .int .u16 (len : Int), .int .u16 (back : Int)] 113 (0, 0)) := by rw [hw3]; exact cells_at (heap_alloc_at hX) (Fr.of_drewN _ 1) (fun e => e)
  have hS3 := four_keep hF3 (fun e => e) (fun e => e) (Hw2.out ▸ j0) (Hw2.out ▸ j2) (Hw2.out ▸ j4) (Hw2.out ▸ jD)
  have hM3 := HM2.out.keep hF3 (fun _ _ _ e => e) (fun e => e)
  have hO3 : w3.ownsRow lo 113 3 (.slice pa q pc) q (cellsP ps) := ownsRow_fr Hpo.out fun j hj => hF3.block j (Hpo.out.lt j hj).2 (fun e => e)
  have hlo3 : lo ≤ w3.heap.size := by have := hF3.size; omega
  have HM3 := hide hM3
  have HO3 := hide hO3
  have HF3 := hide (HF2.out.join hF3)
  have HbX := hide hbX
  have HX := hide hX
  clear hw3 hX hF3 hbX hM3 hO3
  refine hK.out _ _ (fun _ => hS3) (fun hHeld0 => ?_)
  have hHeld := hHeld0 (by decide)
  clear hHeld0
  clear hK K
  refine wpAnyL_one (i := 21) (by kernel_rfl) rfl (fun K hK => ?_)
  try simp only [List.getElem_toArray, List.getElem_cons_succ, List.getElem_cons_zero]
  rw [if_pos (by rfl)]
  refine wp_append_lies w3 (.tmp 37) (.tmp 53) 88 rfl lo 113 i0 _ 3 6 Tryz.und60s hi0 hz0 hz1 hz2 rfl (by decide) (.slice pa q pc) q (cellsP ps) rfl HO3.out ⟨X, 0, none⟩ 1 1 (cellsP [⟨lit, len, back⟩]) rfl rfl (World.news_of_block HbX.out) (cellsP_one _) (by decide) (by unfold maxLen; omega) (by omega) hlo3 w3.heap.size rfl ?_
  intro gq cap w4 hown4 hgrow hat hlt4
  have hFg : Fr (fun i => (Value.slice pa q pc).ownBlock = some i) w3 w4 := Fr.of_grown hgrow
  have hS4 := four_keep hFg (fun e => own_ne HO3.out HM3.out.blk (by decide) e) (fun e => by obtain ⟨cur, hc⟩ := HDb.out; exact own_ne HO3.out (cells_at hc HF3.out (fun e => e)) (by decide) e) hS3.1.1 hS3.1.2 hS3.2.1 hS3.2.2
  have hM4 : w4.heap[M]? = some (.cells cs 101 (0, 0)) := cells_at HM3.out.blk hFg (fun e => own_ne HO3.out HM3.out.blk (by decide) e)
  have f4 := frozen_of (o := 4) hM4
  have c4 := hS4.2.1
  have Hown4 := hide hown4
  have HFg := hide hFg
  clear hown4 hgrow hat hFg hM4
  refine hK.out _ _ (fun _ => hS4) (fun hHeld0 => ?_)
  have hHeld := hHeld0 (by decide)
  clear hHeld0
  clear hK K
  refine wpAnyL_take [23, 24] (i := 22) (v := ?v22z) rfl (by kernel_rfl) (by kernel_rfl) (by kernel_rfl) (by kernel_rfl) (fun _ _ _ h => h) (Or.inl ⟨by rfl, ?hy22z⟩) hHeld ?rest22z
  case hy22z => (intro W hSw; (try dsimp only at hSw); obtain ⟨⟨hSa, hSb⟩, ⟨hSc, hSd⟩⟩ := hSw; go_simp; all_goals (with_reducible rfl))
  change wpAnyL _ _ _ _ _ _ _ _ (Act.put _ (some 55) _) _
  simp only [Act.put, List.setIfInBounds_toArray, List.set_cons_zero, List.set_cons_succ]
  refine wpAnyL_take [24] (i := 23) (v := ?v23z) rfl (by kernel_rfl) (by kernel_rfl) (by kernel_rfl) (by kernel_rfl) (fun _ _ _ h => h) (Or.inl ⟨by rfl, ?hy23z⟩) hHeld ?rest23z
  case hy23z => (intro W hSw; (try dsimp only at hSw); obtain ⟨⟨hSa, hSb⟩, ⟨hSc, hSd⟩⟩ := hSw; go_simp; all_goals (with_reducible rfl))
  change wpAnyL _ _ _ _ _ _ _ _ (Act.put _ (some 56) _) _
  simp only [Act.put, List.setIfInBounds_toArray, List.set_cons_zero, List.set_cons_succ]
  refine wpAnyL_one (i := 24) (by kernel_rfl) rfl (fun K hK => ?_)
  try simp only [List.getElem_toArray, List.getElem_cons_succ, List.getElem_cons_zero]
  go_simp
  have z0 : True := trivial
  refine hK.out _ _ (fun h => absurd rfl h) (fun _ => ?_)
  clear hK K
  refine wpAnyL_done (by kernel_rfl) ?_ _
  have eL : (ps ++ [p]).length = q + 1 := by rw [List.length_append, ← Hq.out]; rfl
  have hown5 : w4.ownsRow lo 113 3 (.slice (some ⟨gq, 0, none⟩) (ps ++ [p]).length cap) (ps ++ [p]).length (cellsP (ps ++ [p])) := by
    rw [eL, cellsP_append, HPc.out]
    exact Hown4.out
  obtain ⟨hM5, hF5⟩ := HM3.out.app (by rw [← Hq.out]; exact Hpa.out) (by rw [← Hq.out]; exact HFg.out) hown5
  rw [eL] at hM5 hF5
  obtain ⟨w5, hw5⟩ : ∃ w5, w5 = w4.setCell ⟨M, 4, none⟩ (.slice (some ⟨gq, 0, none⟩) (q + 1) cap) := ⟨_, rfl⟩
  rw [← hw5] at hM5 hF5 ⊢
  obtain ⟨cs5, hcs5⟩ : ∃ cs5, cs5 = cs.setIfInBounds 4 (.slice (some ⟨gq, 0, none⟩) (q + 1) cap) := ⟨_, rfl⟩
  rw [← hcs5] at hM5
  have hda5 : cs5[0]? = some (.slice (some ⟨D, 0, none⟩) bs.length dc) := by rw [hcs5, Array.getElem?_setIfInBounds_ne (by omega)]; exact Hda.out
  have HM5 := hide hM5
  have HF5 := hide ((HF3.out.trans hF5).mono (S' := fun i => lo ≤ i) fun i _ e => e.elim (fun e => e.elim) id)
  have Hda5 := hide hda5
  have hmax : (if (1 : Int) < (len : Int) then (len : Int) else 1) = (adv : Int) := by rw [HAdv.out]; split <;> omega
  have hmax2 : (if (len : Int) < 1 then 1 else (len : Int)) = (adv : Int) := by rw [HAdv.out]; split <;> omega
  have hadv1 : told + adv ≤ n := by rw [HAdv.out]; omega
  have hadvi : (adv : Int) ≤ 4194304 := by omega
  clear hw5 hcs5 hM5 hF5 hown5 eL hda5 q1 q2 f4 c4 hS3 hS4 z0 j0 j2 j4 jD
  go_wp2_with fail
  go_loopw [59] (fun ti wr => ∃ (i : Nat) (cs' : Array Value), ti = .int .i64 (i : Int) ∧ i ≤ adv ∧ cs'[0]? = some (.slice (some ⟨D, 0, none⟩) bs.length dc) ∧ Mc wr lo M cs' bs N1 N2 k taken (told + i) begin (told + i) (ps ++ [p]) (adds bs k told nw od i).1 (adds bs k told nw od i).2 g t ∧ Fr (fun i => lo ≤ i) w wr) (fun ti _ => adv - (intOf ti).toNat)
  case atStart => exact ⟨0, cs5, rfl, by omega, Hda5.out, HM5.out, HF5.out⟩
  case round =>
    obtain ⟨i, cs6, rfl, hi, hda6, hM6, hF6⟩ := hrel
    by_cases hlt2 : i < adv
    · have hlti : (i : Int) < (adv : Int) := by omega
      obtain ⟨ax, hat⟩ : ∃ ax, ax = told + i := ⟨_, rfl⟩
      rw [← hat] at hM6
      obtain ⟨D', dc', hda', _, hLB', _⟩ := hM6.bytes (by rw [← Hn.out]; omega)
      rw [hda6] at hda'
      obtain ⟨eD, _, eC⟩ := Value.slice.inj (Option.some.inj hda')
      cases eD
      subst eC
      have m0 : wr.cell? ⟨M, 0, none⟩ = some (.slice (some ⟨D, 0, none⟩) n dc) := cell_of (o := 0) hM6.blk (by rw [hda6, Hn.out])
      have m2 : wr.cell? ⟨M, 2, none⟩ = some (.int .i64 (ax : Int)) := cell_of (o := 2) hM6.blk hM6.c2
      have hati : (ax : Int) < (n : Int) := by omega
      have Hadd := hide (add_c M 5 N1 N2 k ax D 0 n dc bs (adds bs k told nw od i).1 (adds bs k told nw od i).2 wr.drew (hM6.keep (Fr.of_drewN wr 1) (fun _ _ _ e => e) (fun e => e)).fd (hLB'.fr (Fr.of_drewN wr 1) (fun e => e)) Hn.out (by omega) hM6.byt (by omega))
      have m0d : wr.drew.cell? ⟨M, 0, none⟩ = some (.slice (some ⟨D, 0, none⟩) n dc) := m0
      have m2d : wr.drew.cell? ⟨M, 2, none⟩ = some (.int .i64 (ax : Int)) := m2
      have HM6 := hide hM6
      have HF6 := hide hF6
      have Hda6 := hide hda6
      have Hat := hide hat
      clear hda' hLB' hM6 hF6 hda6 hat m0 m2
      go_wp2_with fail
      refine wp_region_held_drew (S := fun W' => W'.cell? ⟨M, 0, none⟩ = some (.slice (some ⟨D, 0, none⟩) n dc) ∧ W'.cell? ⟨M, 2, none⟩ = some (.int .i64 (ax : Int))) (by kernel_rfl) ⟨m0d, m2d⟩ (fun hHeld => ?_)
      refine wpAnyH_take (i := 0) (v := ?v0y) rfl (by kernel_rfl) (by kernel_rfl) (by kernel_rfl) (fun _ _ _ h => h) (Or.inl ⟨by rfl, ?hy0y⟩) hHeld ?rest0y
      case hy0y => (intro W hSw; (try dsimp only at hSw); obtain ⟨hSa, hSb⟩ := hSw; go_simp; all_goals (with_reducible rfl))
      change wpAnyH _ _ _ _ _ _ _ (Act.put _ (some 61) _) _
      simp only [Act.put, List.setIfInBounds_toArray, List.set_cons_zero, List.set_cons_succ]
      refine wpAnyH_take (i := 3) (v := ?v3y) rfl (by kernel_rfl) (by kernel_rfl) (by kernel_rfl) (fun _ _ _ h => h) (Or.inl ⟨by rfl, ?hy3y⟩) hHeld ?rest3y
      case hy3y => (intro W hSw; (try dsimp only at hSw); obtain ⟨hSa, hSb⟩ := hSw; go_simp; all_goals (with_reducible rfl))
      change wpAnyH _ _ _ _ _ _ _ (Act.put _ (some 64) _) _
      simp only [Act.put, List.setIfInBounds_toArray, List.set_cons_zero, List.set_cons_succ]
      refine wpAnyH_take (i := 7) (v := ?v7y) rfl (by kernel_rfl) (by kernel_rfl) (by kernel_rfl) (fun _ _ _ h => h) (Or.inl ⟨by rfl, ?hy7y⟩) hHeld ?rest7y
      case hy7y => (intro W hSw; (try dsimp only at hSw); obtain ⟨hSa, hSb⟩ := hSw; go_simp; all_goals (with_reducible rfl))
      change wpAnyH _ _ _ _ _ _ _ (Act.put _ (some 68) _) _
      simp only [Act.put, List.setIfInBounds_toArray, List.set_cons_zero, List.set_cons_succ]
      refine wpAnyH_take (i := 1) (v := ?v1y) rfl (by kernel_rfl) (by kernel_rfl) (by kernel_rfl) (fun _ _ _ h => h) (Or.inl ⟨by rfl, ?hy1y⟩) hHeld ?rest1y
      case hy1y => (intro W hSw; (try dsimp only at hSw); obtain ⟨hSa, hSb⟩ := hSw; go_simp; all_goals (with_reducible rfl))
      change wpAnyH _ _ _ _ _ _ _ (Act.put _ (some 62) _) _
      simp only [Act.put, List.setIfInBounds_toArray, List.set_cons_zero, List.set_cons_succ]
      refine wpAnyH_take (i := 4) (v := ?v4y) rfl (by kernel_rfl) (by kernel_rfl) (by kernel_rfl) (fun _ _ _ h => h) (Or.inl ⟨by rfl, ?hy4y⟩) hHeld ?rest4y
      case hy4y => (intro W hSw; (try dsimp only at hSw); obtain ⟨hSa, hSb⟩ := hSw; go_simp; all_goals (with_reducible rfl))
      change wpAnyH _ _ _ _ _ _ _ (Act.put _ (some 65) _) _
      simp only [Act.put, List.setIfInBounds_toArray, List.set_cons_zero, List.set_cons_succ]
      refine wpAnyH_take (i := 8) (v := ?v8y) rfl (by kernel_rfl) (by kernel_rfl) (by kernel_rfl) (fun _ _ _ h => h) (Or.inl ⟨by rfl, ?hy8y⟩) hHeld ?rest8y
      case hy8y => (intro W hSw; (try dsimp only at hSw); obtain ⟨hSa, hSb⟩ := hSw; go_simp; all_goals (with_reducible rfl))
      change wpAnyH _ _ _ _ _ _ _ (Act.put _ (some 69) _) _
      simp only [Act.put, List.setIfInBounds_toArray, List.set_cons_zero, List.set_cons_succ]
      refine wpAnyH_take (i := 2) (v := ?v2y) rfl (by kernel_rfl) (by kernel_rfl) (by kernel_rfl) (fun _ _ _ h => h) (Or.inl ⟨by rfl, ?hy2y⟩) hHeld ?rest2y
      case hy2y => (intro W hSw; (try dsimp only at hSw); obtain ⟨hSa, hSb⟩ := hSw; go_simp; all_goals (with_reducible rfl))
      change wpAnyH _ _ _ _ _ _ _ (Act.put _ (some 63) _) _
      simp only [Act.put, List.setIfInBounds_toArray, List.set_cons_zero, List.set_cons_succ]
      refine wpAnyH_take (i := 5) (v := ?v5y) rfl (by kernel_rfl) (by kernel_rfl) (by kernel_rfl) (fun _ _ _ h => h) (Or.inl ⟨by rfl, ?hy5y⟩) hHeld ?rest5y
      case hy5y => (intro W hSw; (try dsimp only at hSw); obtain ⟨hSa, hSb⟩ := hSw; go_simp; all_goals (with_reducible rfl))
      change wpAnyH _ _ _ _ _ _ _ (Act.put _ (some 66) _) _
      simp only [Act.put, List.setIfInBounds_toArray, List.set_cons_zero, List.set_cons_succ]
      refine wpAnyH_take (i := 9) (v := ?v9y) rfl (by kernel_rfl) (by kernel_rfl) (by kernel_rfl) (fun _ _ _ h => h) (Or.inl ⟨by rfl, ?hy9y⟩) hHeld ?rest9y
      case hy9y => (intro W hSw; (try dsimp only at hSw); obtain ⟨hSa, hSb⟩ := hSw; go_simp; all_goals (with_reducible rfl))
      change wpAnyH _ _ _ _ _ _ _ (Act.put _ (some 70) _) _
      simp only [Act.put, List.setIfInBounds_toArray, List.set_cons_zero, List.set_cons_succ]
      refine wpAnyH_take (i := 6) (v := ?v6y) rfl (by kernel_rfl) (by kernel_rfl) (by kernel_rfl) (fun _ _ _ h => h) (Or.inl ⟨by rfl, ?hy6y⟩) hHeld ?rest6y
      case hy6y => (intro W hSw; (try dsimp only at hSw); obtain ⟨hSa, hSb⟩ := hSw; go_simp; all_goals (with_reducible rfl))
      change wpAnyH _ _ _ _ _ _ _ (Act.put _ (some 67) _) _
      simp only [Act.put, List.setIfInBounds_toArray, List.set_cons_zero, List.set_cons_succ]
      refine wpAnyH_take (i := 10) (v := ?v10y) rfl (by kernel_rfl) (by kernel_rfl) (by kernel_rfl) (fun _ _ _ h => h) (Or.inl ⟨by rfl, ?hy10y⟩) hHeld ?rest10y
      case hy10y => (intro W hSw; (try dsimp only at hSw); obtain ⟨hSa, hSb⟩ := hSw; go_simp; all_goals (with_reducible rfl))
      change wpAnyH _ _ _ _ _ _ _ (Act.put _ (some 71) _) _
      simp only [Act.put, List.setIfInBounds_toArray, List.set_cons_zero, List.set_cons_succ]
      refine wpAnyH_ready (rs := [11]) (by kernel_rfl) (by simp) ?_
      refine AllReadyH.cons rfl (fun K hK => ?_) AllReadyH.nil
      try simp only [List.getElem_toArray, List.getElem_cons_succ, List.getElem_cons_zero]
      go_simp
      refine (calls_args Hadd.out (by rfl)).mono ?_
      rintro e w7 ⟨rfl, hfd7, hF7⟩
      have hM7 := (HM6.out.keep (Fr.of_drewN wr 1) (fun _ _ _ e => e) (fun e => e)).fin hfd7 hF7
      have hS7 := And.intro ((cell_of (o := 0) hM7.blk (by rw [Hda6.out, Hn.out]) : w7.cell? ⟨M, 0, none⟩ = some (.slice (some ⟨D, 0, none⟩) n dc))) ((cell_of (o := 2) hM7.blk hM7.c2 : w7.cell? ⟨M, 2, none⟩ = some (.int .i64 (ax : Int))))
      have HM7 := hide hM7
      have HF7 := hide (fr_lo7 HF6.out hF7 HM6.out.loM)
      clear hfd7 hF7 hM7
      refine hK.out _ _ hS7 (fun hHeld => ?_)
      clear hK K
      refine wpAnyH_done (by kernel_rfl) ?_ _
      have m2 := hS7.2
      have f2' := frozen_of (o := 2) HM7.out.blk
      clear hHeld hS7 m0d m2d
      go_wp2_with fail
      go_roundw
      case rel =>
        have hM7 := HM7.out
        obtain ⟨hM8, hF8⟩ := hM7.upd 2 (.int .i64 ((ax : Int) + 1)) (by omega) (taken' := taken) (told' := told + (i + 1)) (begin' := begin) (ps' := ps ++ [p]) (by rw [Array.getElem?_setIfInBounds_ne (by omega)]; exact hM7.c1) (by rw [get_set _ hM7.c2, Hat.out]; congr 2) (by rw [Array.getElem?_setIfInBounds_ne (by omega)]; exact hM7.c3) (by
          obtain ⟨x, y, z1, z2⟩ := hM7.c4
          exact ⟨x, y, by rw [Array.getElem?_setIfInBounds_ne (by omega)]; exact z1, z2⟩)
        refine ⟨i + 1, cs6.setIfInBounds 2 (.int .i64 ((ax : Int) + 1)), by go_num, by omega, ?_, ?_⟩
        · rw [Array.getElem?_setIfInBounds_ne (by omega)]; exact Hda6.out
        · have e : told + (i + 1) = ax + 1 := by have := Hat.out; omega
          rw [e] at hM8 ⊢
          have e2 : adds bs k told nw od (i + 1) = (addN bs (adds bs k told nw od i).1 k ax, addO bs (adds bs k told nw od i).1 (adds bs k told nw od i).2 k ax) := by rw [Hat.out]; rfl
          rw [e2]
          exact ⟨hM8, (HF7.out.trans hF8).mono fun j _ e => e.elim id (fun e => by omega)⟩
      case measure => simp [intOf]; omega
    · obtain rfl : i = adv := by omega
      have HM6 := hide hM6
      have HF6 := hide hF6
      clear hM6 hF6
      go_wp2
      go_end0
      exact ⟨rfl, cs6, HM6.out, HF6.out⟩
end Go.Proofs.YtdpmpllbdoefdaaGreatDoor
namespace Go.Proofs.YtdpmpllbdoefdaaGreatDoor
open Go.RowKit
structure Ms where
  told : Nat
  begin : Nat
  ps : List Pc
  nw : List Nat
  od : List Nat
  t : Bt
def kOf (bs : List Nat) : Nat := finK bs.length 15 0
def startS (bs : List Nat) : Ms := ⟨0, 0, [], List.replicate (2 ^ kOf bs) 0, List.replicate (2 ^ kOf bs) 0, t0⟩
def tellF (bs : List Nat) (s : Ms) : Ms :=
  ⟨s.told + advOf bs s.nw s.od (kOf bs) s.begin s.told, s.begin, s.ps ++ [pcOf bs s.nw s.od (kOf bs) s.begin s.told], (adds bs (kOf bs) s.told s.nw s.od (advOf bs s.nw s.od (kOf bs) s.begin s.told)).1, (adds bs (kOf bs) s.told s.nw s.od (advOf bs s.nw s.od (kOf bs) s.begin s.told)).2, s.t⟩
def EndR (bs : List Nat) (s : Ms) (last : Bool) (t' : Bt) : Prop := ∃ oL oD oC, Cds s.ps oL oD oC ∧ t' = blockF s.t last ((bs.take s.told).drop s.begin) s.ps oL oD oC
def cutS (s : Ms) (t' : Bt) : Ms := ⟨s.told, s.told, [], s.nw, s.od, t'⟩
def Nx (bs : List Nat) (s s' : Ms) : Prop := (s.told ≠ s.begin + 65535 ∧ s' = tellF bs s) ∨ (s.told = s.begin + 65535 ∧ ∃ t', EndR bs s false t' ∧ s' = tellF bs (cutS s t'))
inductive Rch (bs : List Nat) : Ms → Prop
  | start : Rch bs (startS bs)
  | step {s s' : Ms} : Rch bs s → s.told < bs.length → Nx bs s s' → Rch bs s'
def Stream (bs os : List Nat) : Prop := ∃ s t', Rch bs s ∧ s.told = bs.length ∧ EndR bs s true t' ∧ Bts t' os
structure Inv (bs : List Nat) (s : Ms) : Prop where
  bt : s.begin ≤ s.told
  tl : s.told ≤ bs.length
  t6 : s.told ≤ s.begin + 65535
  may : mays s.ps (bs.take s.begin)
  play : plays s.ps (bs.take s.begin) = bs.take s.told
  cnt : s.ps.length ≤ s.told - s.begin
  top : (∀ x ∈ s.nw, x ≤ s.told) ∧ ∀ x ∈ s.od, x ≤ s.told
  ok : s.t.ok
  leads : Leads s.t ⟨0, false, [], .ahead⟩ ⟨s.t.p, false, bs.take s.begin, .ahead⟩
  full : ∃ q, s.begin = 65535 * q ∧ s.t.p ≤ 8 * (s.begin + 5 * q)
theorem grow_row {bs : List Nat} {told back : Nat} (hb1 : 1 ≤ back) (hbt : back ≤ told) : ∀ len, told + len ≤ bs.length → (∀ k, k < len → bs.getD (told - back + k) 0 = bs.getD (told + k) 0) → grow back len (bs.take told) = bs.take (told + len) := by
  intro len
  induction len with
  | zero => intro _ _; rfl
  | succ len ih =>
    intro hl hk
    rw [grow_succ, ih (by omega) (fun k h => hk k (by omega))]
    have hlen : (bs.take (told + len)).length = told + len := by rw [List.length_take]; omega
    have e1 : (bs.take (told + len)).getD ((bs.take (told + len)).length - back) 0 = bs.getD (told + len) 0 := by
      rw [hlen, ← hk len (by omega), show told + len - back = told - back + len by omega, List.getD_eq_getElem?_getD, List.getD_eq_getElem?_getD, List.getElem?_take_of_lt (by omega)]
    have hlt : told + len < bs.length := by omega
    rw [e1, show told + (len + 1) = told + len + 1 by omega, List.take_succ_eq_append_getElem hlt, List.getD_eq_getElem?_getD, List.getElem?_eq_getElem hlt]
    rfl
theorem addN_top {bs nw : List Nat} {k at' top : Nat} (h : ∀ x ∈ nw, x ≤ top) (ha : at' + 1 ≤ top) : ∀ x ∈ addN bs nw k at', x ≤ top := by
  intro x hx
  unfold addN at hx
  split at hx
  · exact h x hx
  · rcases List.mem_or_eq_of_mem_set hx with e | e
    · exact h x e
    · omega
theorem addO_top {bs nw od : List Nat} {k at' top : Nat} (h : ∀ x ∈ od, x ≤ top) (hn : ∀ x ∈ nw, x ≤ top) : ∀ x ∈ addO bs nw od k at', x ≤ top := by
  intro x hx
  unfold addO at hx
  split at hx
  · exact h x hx
  · rcases List.mem_or_eq_of_mem_set hx with e | e
    · exact h x e
    · rw [e]; exact getD_le hn _
theorem adds_top {bs nw od : List Nat} {k told : Nat} (h1 : ∀ x ∈ nw, x ≤ told) (h2 : ∀ x ∈ od, x ≤ told) : ∀ i, (∀ x ∈ (adds bs k told nw od i).1, x ≤ told + i) ∧ ∀ x ∈ (adds bs k told nw od i).2, x ≤ told + i := by
  intro i
  induction i with
  | zero => exact ⟨h1, h2⟩
  | succ i ih =>
    have a1 : ∀ x ∈ (adds bs k told nw od i).1, x ≤ told + (i + 1) := fun x hx => by have := ih.1 x hx; omega
    have a2 : ∀ x ∈ (adds bs k told nw od i).2, x ≤ told + (i + 1) := fun x hx => by have := ih.2 x hx; omega
    exact ⟨addN_top a1 (by omega), addO_top a2 a1⟩
theorem take_more (bs : List Nat) (told : Nat) (h : told < bs.length) : bs.take told ++ [bs.getD told 0] = bs.take (told + 1) := by
  rw [List.take_succ_eq_append_getElem h, List.getD_eq_getElem?_getD, List.getElem?_eq_getElem h]
  rfl
theorem Inv.tell {bs : List Nat} (hb : ∀ b ∈ bs, b < 256) {s : Ms} (h : Inv bs s) (hlt : s.told < bs.length) (h6 : s.told < s.begin + 65535) : Inv bs (tellF bs s) := by
  have hr := row_ok (bs := bs) (k := kOf bs) h.top.1 h.top.2 h.bt h6 hlt
  have hEl : (bs.take (endOf bs s.begin)).length = endOf bs s.begin := by simp [endOf]
  have hE : endOf bs s.begin ≤ bs.length ∧ endOf bs s.begin ≤ s.begin + 65535 := by unfold endOf; omega
  have hlitb : bs.getD s.told 0 < 256 := by
    rw [List.getD_eq_getElem?_getD, List.getElem?_eq_getElem hlt]
    exact hb _ (List.getElem_mem hlt)
  have key : (pcOf bs s.nw s.od (kOf bs) s.begin s.told).may (bs.take s.told) ∧ (pcOf bs s.nw s.od (kOf bs) s.begin s.told).play (bs.take s.told) = bs.take (s.told + advOf bs s.nw s.od (kOf bs) s.begin s.told) ∧ s.told + advOf bs s.nw s.od (kOf bs) s.begin s.told ≤ endOf bs s.begin := by
    have hpc : pcOf bs s.nw s.od (kOf bs) s.begin s.told = ⟨bs.getD s.told 0, (rowOf bs s.nw s.od (kOf bs) s.begin s.told).1, (rowOf bs s.nw s.od (kOf bs) s.begin s.told).2⟩ := rfl
    have hadv : advOf bs s.nw s.od (kOf bs) s.begin s.told = max (rowOf bs s.nw s.od (kOf bs) s.begin s.told).1 1 := rfl
    rw [hpc, hadv]
    rcases hr with e | e
    · rw [e]
      refine ⟨Or.inl ⟨rfl, hlitb⟩, ?_, ?_⟩
      · show (if (0 : Nat) = 0 then bs.take s.told ++ [bs.getD s.told 0] else _) = _
        rw [if_pos rfl]
        exact take_more bs s.told hlt
      · show s.told + max 0 1 ≤ _
        unfold endOf; omega
    · generalize rowOf bs s.nw s.od (kOf bs) s.begin s.told = r at e ⊢
      obtain ⟨len, back⟩ := r
      obtain ⟨a1, a2, a3, a4, a5, a6, a7⟩ := e
      simp only at a1 a2 a3 a4 a5 a6 a7 ⊢
      rw [hEl] at a3
      have hm : max len 1 = len := by omega
      rw [hm]
      refine ⟨Or.inr ⟨a1, a2, a4, a5, by rw [List.length_take]; show back ≤ _; omega⟩, ?_, a3⟩
      show (if len = 0 then _ else grow back len (bs.take s.told)) = _
      rw [if_neg (by omega)]
      refine grow_row a4 a6 len (by omega) (fun k hk => ?_)
      have := a7 k hk
      simp only [List.getD_eq_getElem?_getD] at this ⊢
      rwa [List.getElem?_take_of_lt (by omega), List.getElem?_take_of_lt (by omega)] at this
  obtain ⟨k1, k2, k3⟩ := key
  have hadv1 : 1 ≤ advOf bs s.nw s.od (kOf bs) s.begin s.told := by unfold advOf; omega
  obtain ⟨t1, t2⟩ := adds_top (bs := bs) (k := kOf bs) h.top.1 h.top.2 (advOf bs s.nw s.od (kOf bs) s.begin s.told)
  have hbt := h.bt
  have hcnt := h.cnt
  refine ⟨?_, ?_, ?_, ?_, ?_, ?_, ⟨t1, t2⟩, h.ok, h.leads, h.full⟩
  · show s.begin ≤ s.told + _; omega
  · show s.told + _ ≤ _; omega
  · show s.told + _ ≤ s.begin + 65535; omega
  · show mays (s.ps ++ [_]) (bs.take s.begin)
    rw [mays_snoc, h.play]
    exact ⟨h.may, k1⟩
  · show plays (s.ps ++ [_]) (bs.take s.begin) = _
    rw [plays_snoc, h.play]
    exact k2
  · show (s.ps ++ [_]).length ≤ s.told + _ - s.begin
    rw [List.length_append, List.length_singleton]
    omega
theorem padTo_round (p B : Nat) (h : p ≤ 8 * B) : p + 3 + padTo (p + 3) ≤ 8 * (B + 1) := by unfold padTo; omega
theorem raw_app (bs : List Nat) {b e : Nat} (h : b ≤ e) : bs.take b ++ (bs.take e).drop b = bs.take e := by
  have : bs.take b = (bs.take e).take b := by rw [List.take_take, Nat.min_eq_left h]
  rw [this]
  exact List.take_append_drop b (bs.take e)
theorem Inv.ends {bs : List Nat} (hb : ∀ b ∈ bs, b < 256) {s : Ms} (h : Inv bs s) {last : Bool} {t' : Bt} (he : EndR bs s last t') :
    t'.ok ∧ Leads t' ⟨0, false, [], .ahead⟩ ⟨t'.p, last, bs.take s.told, .ahead⟩ ∧ ∃ q, s.begin = 65535 * q ∧ t'.p ≤ 8 * (s.told + 5 * (q + 1)) := by
  obtain ⟨oL, oD, oC, hc, et⟩ := he
  have hrl : ((bs.take s.told).drop s.begin).length = s.told - s.begin := by
    have := h.tl
    rw [List.length_drop, List.length_take]
    omega
  have h6 := h.t6
  have hbt := h.bt
  have htl := h.tl
  obtain ⟨a, b, c, d⟩ := block_leads h.ok last (raw := (bs.take s.told).drop s.begin) (by omega) (fun x hx => hb x (List.mem_of_mem_take (List.mem_of_mem_drop hx))) h.may (by rw [h.play, raw_app bs h.bt]) hc
  rw [raw_app bs h.bt] at c
  rw [← et] at a b c d
  refine ⟨a, (h.leads.more b).trans c (by simp only [List.length_take]; omega), ?_⟩
  obtain ⟨q, q1, q2⟩ := h.full
  refine ⟨q, q1, ?_⟩
  have := padTo_round s.t.p _ q2
  rw [hrl] at d
  omega
theorem Inv.cut {bs : List Nat} (hb : ∀ b ∈ bs, b < 256) {s : Ms} (h : Inv bs s) (h6 : s.told = s.begin + 65535) {t' : Bt} (he : EndR bs s false t') : Inv bs (cutS s t') := by
  obtain ⟨a, b, q, q1, q2⟩ := h.ends hb he
  exact ⟨Nat.le_refl _, h.tl, Nat.le_add_right _ _, trivial, rfl, by simp [cutS], h.top, a, b, q + 1, by show s.told = _; omega, q2⟩
theorem Inv.start (bs : List Nat) : Inv bs (startS bs) := by
  refine ⟨Nat.le_refl _, Nat.zero_le _, Nat.zero_le _, trivial, rfl, Nat.zero_le _, ⟨fun x hx => ?_, fun x hx => ?_⟩, by show (0 : Nat) < 2 ^ 0; decide, Leads.refl _ _, 0, rfl, Nat.zero_le _⟩
  · rw [(List.mem_replicate.1 hx).2]; exact Nat.zero_le _
  · rw [(List.mem_replicate.1 hx).2]; exact Nat.zero_le _
theorem Inv.next {bs : List Nat} (hb : ∀ b ∈ bs, b < 256) {s s' : Ms} (h : Inv bs s) (hlt : s.told < bs.length) (hn : Nx bs s s') : Inv bs s' := by
  rcases hn with ⟨h1, rfl⟩ | ⟨h1, t', he, rfl⟩
  · exact h.tell hb hlt (by have := h.t6; omega)
  · exact (h.cut hb h1 he).tell hb hlt (by show s.told < s.told + 65535; omega)
theorem Rch.inv {bs : List Nat} (hb : ∀ b ∈ bs, b < 256) {s : Ms} (h : Rch bs s) : Inv bs s := by
  induction h with
  | start => exact Inv.start bs
  | step _ hlt hn ih => exact ih.next hb hlt hn
theorem Stream.len {bs os : List Nat} (hb : ∀ b ∈ bs, b < 256) (h : Stream bs os) : os.length ≤ mostF bs.length := by
  obtain ⟨s, t', r, e, f, g⟩ := h
  obtain ⟨_, _, q, q1, q2⟩ := (r.inv hb).ends hb f
  have hi := r.inv hb
  have h1 := hi.bt
  have h2 := hi.t6
  have hl := g.1
  unfold mostF
  by_cases h0 : bs.length = 0
  · omega
  · omega
theorem Stream.reads {bs os : List Nat} (hb : ∀ b ∈ bs, b < 256) (h : Stream bs os) : ∃ t' : Bt, t'.ok ∧ Bts t' os ∧ Leads t' ⟨0, false, [], .ahead⟩ ⟨t'.p, true, bs, .ahead⟩ := by
  obtain ⟨s, t', r, e, f, g⟩ := h
  obtain ⟨a, b, _⟩ := (r.inv hb).ends hb f
  rw [e, List.take_length] at b
  exact ⟨t', a, g, b⟩
end Go.Proofs.YtdpmpllbdoefdaaGreatDoor
namespace Go.Proofs.YtdpmpllbdoefdaaGreatDoor
open Go.RowKit
structure MSt (w : World) (lo M : Nat) (bs : List Nat) (taken : Nat) (s : Ms) : Prop where
  rch : Rch bs s
  ex : ∃ cs N1 N2 g, Mc w lo M cs bs N1 N2 (kOf bs) taken s.told s.begin s.told s.ps s.nw s.od g s.t
structure Md (w : World) (lo M : Nat) (os : List Nat) : Prop where
  ex : ∃ cs oa oc, w.heap[M]? = some (.cells cs 101 (0, 0)) ∧ cs[12]? = some (.slice oa os.length oc) ∧ w.ownsRow lo 5 1 (.slice oa os.length oc) os.length (cellsOf os) ∧ cs[13]? = some (.bool true)
  loM : lo ≤ M
theorem inv_p {bs : List Nat} {s : Ms} (h : Inv bs s) (hl : bs.length ≤ 4194304) : s.t.p ≤ 40000000 ∧ s.ps.length ≤ 65535 := by
  obtain ⟨q, q1, q2⟩ := h.full
  have h1 := h.bt
  have h2 := h.tl
  have h3 := h.cnt
  have h4 := h.t6
  exact ⟨by omega, by omega⟩
def toldOf (w : World) (M : Nat) : Nat := match w.cell? ⟨M, 2, none⟩ with
  | some v => (intOf v).toNat
  | none => 0
theorem MSt.told {w : World} {lo M : Nat} {bs : List Nat} {taken : Nat} {s : Ms} (h : MSt w lo M bs taken s) : toldOf w M = s.told := by
  obtain ⟨cs, N1, N2, g, h1⟩ := h.ex
  unfold toldOf
  rw [cell_of (o := 2) h1.blk h1.c2]
  simp [intOf]
theorem arr14 {cs : Array Value} (h : cs.size = 14) : ∃ x0 x1 x2 x3 x4 x5 x6 x7 x8 x9 x10 x11 x12 x13, cs = #[x0, x1, x2, x3, x4, x5, x6, x7, x8, x9, x10, x11, x12, x13] := by
  obtain ⟨l⟩ := cs
  match l, h with
  | [x0, x1, x2, x3, x4, x5, x6, x7, x8, x9, x10, x11, x12, x13], _ => exact ⟨x0, x1, x2, x3, x4, x5, x6, x7, x8, x9, x10, x11, x12, x13, rfl⟩
theorem set14 {w4 : World} {M : Nat} {x0 x1 x2 x3 x4 x5 x6 x7 x8 x9 x10 x11 x12 x13 : Value} {T : TypeId} (h : w4.heap[M]? = some (.cells #[x0, x1, x2, x3, x4, x5, x6, x7, x8, x9, x10, x11, x12, x13] T (0, 0))) (y0 y1 y2 y3 y4 y5 y6 y7 y8 y9 y10 y11 y12 y13 : Value) :
    ((((((((((((((w4.setCell ⟨M, 0, none⟩ y0).setCell ⟨M, 1, none⟩ y1).setCell ⟨M, 2, none⟩ y2).setCell ⟨M, 3, none⟩ y3).setCell ⟨M, 4, none⟩ y4).setCell ⟨M, 5, none⟩ y5).setCell ⟨M, 6, none⟩ y6).setCell ⟨M, 7, none⟩ y7).setCell ⟨M, 8, none⟩ y8).setCell ⟨M, 9, none⟩ y9).setCell ⟨M, 10, none⟩ y10).setCell ⟨M, 11, none⟩ y11).setCell ⟨M, 12, none⟩ y12).setCell ⟨M, 13, none⟩ y13).heap[M]? = some (.cells #[y0, y1, y2, y3, y4, y5, y6, y7, y8, y9, y10, y11, y12, y13] T (0, 0)) ∧ Fr (fun i => i = M) w4 ((((((((((((((w4.setCell ⟨M, 0, none⟩ y0).setCell ⟨M, 1, none⟩ y1).setCell ⟨M, 2, none⟩ y2).setCell ⟨M, 3, none⟩ y3).setCell ⟨M, 4, none⟩ y4).setCell ⟨M, 5, none⟩ y5).setCell ⟨M, 6, none⟩ y6).setCell ⟨M, 7, none⟩ y7).setCell ⟨M, 8, none⟩ y8).setCell ⟨M, 9, none⟩ y9).setCell ⟨M, 10, none⟩ y10).setCell ⟨M, 11, none⟩ y11).setCell ⟨M, 12, none⟩ y12).setCell ⟨M, 13, none⟩ y13) := by
  have e0 : (w4.setCell ⟨M, 0, none⟩ y0).heap[M]? = some (.cells #[y0, x1, x2, x3, x4, x5, x6, x7, x8, x9, x10, x11, x12, x13] T (0, 0)) := heap_setCell_own (o := 0) y0 h
  have e1 : ((w4.setCell ⟨M, 0, none⟩ y0).setCell ⟨M, 1, none⟩ y1).heap[M]? = some (.cells #[y0, y1, x2, x3, x4, x5, x6, x7, x8, x9, x10, x11, x12, x13] T (0, 0)) := heap_setCell_own (o := 1) y1 e0
  have e2 : (((w4.setCell ⟨M, 0, none⟩ y0).setCell ⟨M, 1, none⟩ y1).setCell ⟨M, 2, none⟩ y2).heap[M]? = some (.cells #[y0, y1, y2, x3, x4, x5, x6, x7, x8, x9, x10, x11, x12, x13] T (0, 0)) := heap_setCell_own (o := 2) y2 e1
  have e3 : ((((w4.setCell ⟨M, 0, none⟩ y0).setCell ⟨M, 1, none⟩ y1).setCell ⟨M, 2, none⟩ y2).setCell ⟨M, 3, none⟩ y3).heap[M]? = some (.cells #[y0, y1, y2, y3, x4, x5, x6, x7, x8, x9, x10, x11, x12, x13] T (0, 0)) := heap_setCell_own (o := 3) y3 e2
  have e4 : (((((w4.setCell ⟨M, 0, none⟩ y0).setCell ⟨M, 1, none⟩ y1).setCell ⟨M, 2, none⟩ y2).setCell ⟨M, 3, none⟩ y3).setCell ⟨M, 4, none⟩ y4).heap[M]? = some (.cells #[y0, y1, y2, y3, y4, x5, x6, x7, x8, x9, x10, x11, x12, x13] T (0, 0)) := heap_setCell_own (o := 4) y4 e3
  have e5 : ((((((w4.setCell ⟨M, 0, none⟩ y0).setCell ⟨M, 1, none⟩ y1).setCell ⟨M, 2, none⟩ y2).setCell ⟨M, 3, none⟩ y3).setCell ⟨M, 4, none⟩ y4).setCell ⟨M, 5, none⟩ y5).heap[M]? = some (.cells #[y0, y1, y2, y3, y4, y5, x6, x7, x8, x9, x10, x11, x12, x13] T (0, 0)) := heap_setCell_own (o := 5) y5 e4
  have e6 : (((((((w4.setCell ⟨M, 0, none⟩ y0).setCell ⟨M, 1, none⟩ y1).setCell ⟨M, 2, none⟩ y2).setCell ⟨M, 3, none⟩ y3).setCell ⟨M, 4, none⟩ y4).setCell ⟨M, 5, none⟩ y5).setCell ⟨M, 6, none⟩ y6).heap[M]? = some (.cells #[y0, y1, y2, y3, y4, y5, y6, x7, x8, x9, x10, x11, x12, x13] T (0, 0)) := heap_setCell_own (o := 6) y6 e5
  have e7 : ((((((((w4.setCell ⟨M, 0, none⟩ y0).setCell ⟨M, 1, none⟩ y1).setCell ⟨M, 2, none⟩ y2).setCell ⟨M, 3, none⟩ y3).setCell ⟨M, 4, none⟩ y4).setCell ⟨M, 5, none⟩ y5).setCell ⟨M, 6, none⟩ y6).setCell ⟨M, 7, none⟩ y7).heap[M]? = some (.cells #[y0, y1, y2, y3, y4, y5, y6, y7, x8, x9, x10, x11, x12, x13] T (0, 0)) := heap_setCell_own (o := 7) y7 e6
  have e8 : (((((((((w4.setCell ⟨M, 0, none⟩ y0).setCell ⟨M, 1, none⟩ y1).setCell ⟨M, 2, none⟩ y2).setCell ⟨M, 3, none⟩ y3).setCell ⟨M, 4, none⟩ y4).setCell ⟨M, 5, none⟩ y5).setCell ⟨M, 6, none⟩ y6).setCell ⟨M, 7, none⟩ y7).setCell ⟨M, 8, none⟩ y8).heap[M]? = some (.cells #[y0, y1, y2, y3, y4, y5, y6, y7, y8, x9, x10, x11, x12, x13] T (0, 0)) := heap_setCell_own (o := 8) y8 e7
  have e9 : ((((((((((w4.setCell ⟨M, 0, none⟩ y0).setCell ⟨M, 1, none⟩ y1).setCell ⟨M, 2, none⟩ y2).setCell ⟨M, 3, none⟩ y3).setCell ⟨M, 4, none⟩ y4).setCell ⟨M, 5, none⟩ y5).setCell ⟨M, 6, none⟩ y6).setCell ⟨M, 7, none⟩ y7).setCell ⟨M, 8, none⟩ y8).setCell ⟨M, 9, none⟩ y9).heap[M]? = some (.cells #[y0, y1, y2, y3, y4, y5, y6, y7, y8, y9, x10, x11, x12, x13] T (0, 0)) := heap_setCell_own (o := 9) y9 e8
  have e10 : (((((((((((w4.setCell ⟨M, 0, none⟩ y0).setCell ⟨M, 1, none⟩ y1).setCell ⟨M, 2, none⟩ y2).setCell ⟨M, 3, none⟩ y3).setCell ⟨M, 4, none⟩ y4).setCell ⟨M, 5, none⟩ y5).setCell ⟨M, 6, none⟩ y6).setCell ⟨M, 7, none⟩ y7).setCell ⟨M, 8, none⟩ y8).setCell ⟨M, 9, none⟩ y9).setCell ⟨M, 10, none⟩ y10).heap[M]? = some (.cells #[y0, y1, y2, y3, y4, y5, y6, y7, y8, y9, y10, x11, x12, x13] T (0, 0)) := heap_setCell_own (o := 10) y10 e9
  have e11 : ((((((((((((w4.setCell ⟨M, 0, none⟩ y0).setCell ⟨M, 1, none⟩ y1).setCell ⟨M, 2, none⟩ y2).setCell ⟨M, 3, none⟩ y3).setCell ⟨M, 4, none⟩ y4).setCell ⟨M, 5, none⟩ y5).setCell ⟨M, 6, none⟩ y6).setCell ⟨M, 7, none⟩ y7).setCell ⟨M, 8, none⟩ y8).setCell ⟨M, 9, none⟩ y9).setCell ⟨M, 10, none⟩ y10).setCell ⟨M, 11, none⟩ y11).heap[M]? = some (.cells #[y0, y1, y2, y3, y4, y5, y6, y7, y8, y9, y10, y11, x12, x13] T (0, 0)) := heap_setCell_own (o := 11) y11 e10
  have e12 : (((((((((((((w4.setCell ⟨M, 0, none⟩ y0).setCell ⟨M, 1, none⟩ y1).setCell ⟨M, 2, none⟩ y2).setCell ⟨M, 3, none⟩ y3).setCell ⟨M, 4, none⟩ y4).setCell ⟨M, 5, none⟩ y5).setCell ⟨M, 6, none⟩ y6).setCell ⟨M, 7, none⟩ y7).setCell ⟨M, 8, none⟩ y8).setCell ⟨M, 9, none⟩ y9).setCell ⟨M, 10, none⟩ y10).setCell ⟨M, 11, none⟩ y11).setCell ⟨M, 12, none⟩ y12).heap[M]? = some (.cells #[y0, y1, y2, y3, y4, y5, y6, y7, y8, y9, y10, y11, y12, x13] T (0, 0)) := heap_setCell_own (o := 12) y12 e11
  have e13 : ((((((((((((((w4.setCell ⟨M, 0, none⟩ y0).setCell ⟨M, 1, none⟩ y1).setCell ⟨M, 2, none⟩ y2).setCell ⟨M, 3, none⟩ y3).setCell ⟨M, 4, none⟩ y4).setCell ⟨M, 5, none⟩ y5).setCell ⟨M, 6, none⟩ y6).setCell ⟨M, 7, none⟩ y7).setCell ⟨M, 8, none⟩ y8).setCell ⟨M, 9, none⟩ y9).setCell ⟨M, 10, none⟩ y10).setCell ⟨M, 11, none⟩ y11).setCell ⟨M, 12, none⟩ y12).setCell ⟨M, 13, none⟩ y13).heap[M]? = some (.cells #[y0, y1, y2, y3, y4, y5, y6, y7, y8, y9, y10, y11, y12, y13] T (0, 0)) := heap_setCell_own (o := 13) y13 e12
  refine ⟨e13, ?_⟩
  exact (((((((((((((Fr.of_setCell w4 ⟨M, 0, none⟩ y0).join (Fr.of_setCell _ ⟨M, 1, none⟩ y1)).join (Fr.of_setCell _ ⟨M, 2, none⟩ y2)).join (Fr.of_setCell _ ⟨M, 3, none⟩ y3)).join (Fr.of_setCell _ ⟨M, 4, none⟩ y4)).join (Fr.of_setCell _ ⟨M, 5, none⟩ y5)).join (Fr.of_setCell _ ⟨M, 6, none⟩ y6)).join (Fr.of_setCell _ ⟨M, 7, none⟩ y7)).join (Fr.of_setCell _ ⟨M, 8, none⟩ y8)).join (Fr.of_setCell _ ⟨M, 9, none⟩ y9)).join (Fr.of_setCell _ ⟨M, 10, none⟩ y10)).join (Fr.of_setCell _ ⟨M, 11, none⟩ y11)).join (Fr.of_setCell _ ⟨M, 12, none⟩ y12)).join (Fr.of_setCell _ ⟨M, 13, none⟩ y13)
set_option maxHeartbeats 3200000 in
set_option maxRecDepth 100000 in
theorem advance_c (lo M taken : Nat) (bs : List Nat) (s : Ms) (w : World) (h : MSt w lo M bs taken s) (ht : taken ≤ bs.length) :
    Calls Tryz.prog 47 #[.pointer (some ⟨M, 0, none⟩)] w fun e w' => e = .returned (.tuple #[]) ∧ Fr (fun i => lo ≤ i) w w' ∧ ((taken < bs.length ∧ ∃ s', MSt w' lo M bs taken s' ∧ taken ≤ s'.told) ∨ (taken = bs.length ∧ ∃ os, Stream bs os ∧ Md w' lo M os)) := by
  have H := hide h
  have hlen : bs.length ≤ 4194304 := by obtain ⟨cs, N1, N2, g, h1⟩ := h.ex; exact h1.len
  have Hby : Hid (∀ b ∈ bs, b < 256) := by obtain ⟨cs, N1, N2, g, h1⟩ := h.ex; exact h1.byt
  have hlm : lo ≤ M := by obtain ⟨cs, N1, N2, g, h1⟩ := h.ex; exact h1.loM.1
  obtain ⟨n, hn⟩ : ∃ n, n = bs.length := ⟨_, rfl⟩
  rw [← hn] at ht hlen ⊢
  have Hn := hide hn
  clear h hn
  go_enter Tryz.func47, Tryz.ntmps47
  go_wp2_with fail
  go_loopw [2] (fun _ wr => ∃ s', MSt wr lo M bs taken s' ∧ Fr (fun i => lo ≤ i) w wr) (fun _ wr => n - toldOf wr M)
  case atStart => exact ⟨s, H.out, Fr.refl _ _⟩
  case round =>
    obtain ⟨s1, hS, hF⟩ := hrel
    obtain ⟨cs, N1, N2, g, hM⟩ := hS.ex
    have hI := hS.rch.inv Hby.out
    obtain ⟨hp, hpl⟩ := inv_p hI (by rw [← Hn.out]; exact hlen)
    have k1 := cell_of (o := 1) hM.blk hM.c1
    have k2 := cell_of (o := 2) hM.blk hM.c2
    have k3 := cell_of (o := 3) hM.blk hM.c3
    have htold := hS.told
    have hRch := hide hS.rch
    have hbt := hI.bt
    have htl := hI.tl
    have ht6 := hI.t6
    have HI := hide hI
    have HM := hide hM
    have HF := hide hF
    have Htold := hide htold
    rw [← Hn.out] at htl
    obtain ⟨told, begin, ps, nw, od, t⟩ := s1
    simp only at k1 k2 k3 hp hpl hbt htl ht6 HM Htold
    have i1 : (told : Int) ≤ 4194304 := by omega
    have i2 : (begin : Int) ≤ 4194304 := by omega
    have i3 : (taken : Int) ≤ 4194304 := by omega
    clear hS hM hI hF htold
    by_cases hlt : told < taken
    · have hlti : (told : Int) < (taken : Int) := by omega
      go_wp2_with fail
      go_quiet (fail)
      have hM1 := HM.out.keep (Fr.of_drewN wr nq) (fun _ _ _ e => e) (fun e => e)
      have hF1 := HF.out.trans (Fr.of_drewN wr nq)
      generalize wr.drewN nq = w1 at hM1 hF1 ⊢
      have HM1 := hide hM1
      have HF1 := hide (hF1.mono (S' := fun i => lo ≤ i) fun i _ e => e.elim id (fun e => e.elim))
      clear k1 k2 k3
      have k2 := cell_of (o := 2) hM1.blk hM1.c2
      have k3 := cell_of (o := 3) hM1.blk hM1.c3
      clear hM1 hF1
      by_cases hfull : told = begin + 65535
      · have hfb : ((told : Int) == (begin : Int) + 65535) = true := beq_iff_eq.2 (by omega)
        have Hfull := hide hfull
        clear hfull
        go_wp2_with fail
        go_quiet (fail)
        have hM2 := HM1.out.keep (Fr.of_drewN w1 nq) (fun _ _ _ e => e) (fun e => e)
        have hF2 := HF1.out.trans (Fr.of_drewN w1 nq)
        generalize w1.drewN nq = w2 at hM2 hF2 ⊢
        have HM2 := hide hM2
        have HF2 := hide (hF2.mono (S' := fun i => lo ≤ i) fun i _ e => e.elim id (fun e => e.elim))
        clear hM2 hF2 k2 k3
        go_wp2_with fail
        refine (calls_args (endBlock_c lo M N1 N2 (kOf bs) taken told begin told cs bs ps nw od g t false w2 HM2.out hbt (by rw [← Hn.out]; exact htl) (by omega) HI.out.may hpl (by omega)) (by rfl)).mono ?_
        rintro e w3 ⟨rfl, oL, oD, oC, cs3, g3, hCds, hM3, hF3⟩
        have HM3 := hide hM3
        have HF3 := hide (HF2.out.join hF3)
        have HE : Hid (EndR bs ⟨told, begin, ps, nw, od, t⟩ false (blockF t false ((bs.take told).drop begin) ps oL oD oC)) := ⟨oL, oD, oC, hCds, rfl⟩
        generalize blockF t false ((bs.take told).drop begin) ps oL oD oC = t3 at HM3 HE
        clear hM3 hF3 hCds
        go_wp2_with fail
        refine (calls_args (tellNext_c lo M N1 N2 (kOf bs) taken told told cs3 bs [] nw od g3 t3 w3 HM3.out (Nat.le_refl _) (by omega) (by rw [← Hn.out]; omega) (by simp)) (by rfl)).mono ?_
        rintro e w4 ⟨rfl, cs4, hM4, hF4⟩
        have hst : MSt w4 lo M bs taken (tellF bs (cutS ⟨told, begin, ps, nw, od, t⟩ t3)) := ⟨hRch.out.step (by rw [← Hn.out]; show told < n; omega) (Or.inr ⟨Hfull.out, t3, HE.out, rfl⟩), cs4, N1, N2, g3, hM4⟩
        have Hst := hide hst
        have HF4 := hide (HF3.out.join hF4)
        have hmore : told < toldOf w4 M := by rw [hst.told]; show told < told + _; unfold advOf; omega
        clear hM4 hF4 hst
        go_wp2
        go_roundw
        case rel => exact ⟨_, Hst.out, HF4.out⟩
        case measure => have := Htold.out; omega
      · have hfb : ((told : Int) == (begin : Int) + 65535) = false := beq_false_of_ne (by omega)
        go_wp2_with fail
        go_quiet (fail)
        have hM2 := HM1.out.keep (Fr.of_drewN w1 nq) (fun _ _ _ e => e) (fun e => e)
        have hF2 := HF1.out.trans (Fr.of_drewN w1 nq)
        generalize w1.drewN nq = w2 at hM2 hF2 ⊢
        have HM2 := hide hM2
        have HF2 := hide (hF2.mono (S' := fun i => lo ≤ i) fun i _ e => e.elim id (fun e => e.elim))
        clear hM2 hF2 k2 k3
        go_wp2_with fail
        refine (calls_args (tellNext_c lo M N1 N2 (kOf bs) taken told begin cs bs ps nw od g t w2 HM2.out hbt (by omega) (by rw [← Hn.out]; omega) hpl) (by rfl)).mono ?_
        rintro e w4 ⟨rfl, cs4, hM4, hF4⟩
        have hst : MSt w4 lo M bs taken (tellF bs ⟨told, begin, ps, nw, od, t⟩) := ⟨hRch.out.step (by rw [← Hn.out]; show told < n; omega) (Or.inl ⟨hfull, rfl⟩), cs4, N1, N2, g, hM4⟩
        have Hst := hide hst
        have HF4 := hide (HF2.out.join hF4)
        have hmore : told < toldOf w4 M := by rw [hst.told]; show told < told + _; unfold advOf; omega
        clear hM4 hF4 hst
        go_wp2
        go_roundw
        case rel => exact ⟨_, Hst.out, HF4.out⟩
        case measure => have := Htold.out; omega
    · have hlti : ¬ (told : Int) < (taken : Int) := by omega
      go_wp2_with fail
      go_quiet (fail)
      have hM1 := HM.out.keep (Fr.of_drewN wr nq) (fun _ _ _ e => e) (fun e => e)
      have hF1 := HF.out.trans (Fr.of_drewN wr nq)
      generalize wr.drewN nq = w1 at hM1 hF1 ⊢
      have HM1 := hide hM1
      have HF1 := hide (hF1.mono (S' := fun i => lo ≤ i) fun i _ e => e.elim id (fun e => e.elim))
      clear k1 k2 k3
      have k1 := cell_of (o := 1) hM1.blk hM1.c1
      obtain ⟨da, dc, hda, _⟩ := hM1.c0
      rw [← Hn.out] at hda
      have k0 := cell_of (o := 0) hM1.blk hda
      clear hM1 hF1 hda
      by_cases hall : taken = n
      · have hab : ((taken : Int) == (n : Int)) = true := beq_iff_eq.2 (by omega)
        have Hall := hide hall
        have htn : told = n := by omega
        clear hall
        go_wp2_with fail
        go_quiet (fail)
        have hM2 := HM1.out.keep (Fr.of_drewN w1 nq) (fun _ _ _ e => e) (fun e => e)
        have hF2 := HF1.out.trans (Fr.of_drewN w1 nq)
        generalize w1.drewN nq = w2 at hM2 hF2 ⊢
        have HM2 := hide hM2
        have HF2 := hide (hF2.mono (S' := fun i => lo ≤ i) fun i _ e => e.elim id (fun e => e.elim))
        have Htn := hide htn
        clear hM2 hF2 k0 k1 htn
        go_wp2_with fail
        refine (calls_args (endBlock_c lo M N1 N2 (kOf bs) taken told begin told cs bs ps nw od g t true w2 HM2.out hbt (by rw [← Hn.out]; exact htl) (by omega) HI.out.may hpl (by omega)) (by rfl)).mono ?_
        rintro e w3 ⟨rfl, oL, oD, oC, cs3, g3, hCds, hM3, hF3⟩
        have HM3 := hide hM3
        have HF3 := hide (HF2.out.join hF3)
        have HE : Hid (EndR bs ⟨told, begin, ps, nw, od, t⟩ true (blockF t true ((bs.take told).drop begin) ps oL oD oC)) := ⟨oL, oD, oC, hCds, rfl⟩
        generalize blockF t true ((bs.take told).drop begin) ps oL oD oC = t3 at HM3 HE
        have hp3 : t3.p ≤ 2147480000 := by
          obtain ⟨_, _, q, q1, q2⟩ := HI.out.ends Hby.out HE.out
          simp only at q1 q2
          omega
        clear hM3 hF3 hCds
        go_wp2_with fail
        refine (calls_args (penOut_c 101 M 7 cs3 g3 t3 w3 HM3.out.pn hp3) (by rfl)).mono ?_
        rintro e w4 ⟨oa, oc, os, hBts, rfl, hown, hF4⟩
        have hM4 := HM3.out.keep hF4 (fun _ _ _ e => e) (fun e => e)
        have Hown := hide hown
        have HF4 := hide ((HF3.out.trans hF4).mono (S' := fun i => lo ≤ i) fun i _ e => e.elim id (fun e => e.elim))
        have HM4 := hide hM4
        have HBts := hide hBts
        obtain ⟨N, hN⟩ : ∃ N, N = os.length := ⟨_, rfl⟩
        rw [← hN]
        have HN := hide hN
        have hblk4 := hM4.blk
        obtain ⟨x0, x1, x2, x3, x4, x5, x6, x7, x8, x9, x10, x11, x12, x13, hcs⟩ := arr14 hM4.sz
        rw [hcs] at hblk4
        have hlM := hM4.loM
        have hl34 := HF3.out.size
        have HB4 := hide hblk4
        have c0 := cell_of (o := 0) hblk4 rfl
        have f0 := frozen_of (o := 0) hblk4
        have c1 := cell_of (o := 1) hblk4 rfl
        have f1 := frozen_of (o := 1) hblk4
        have c2 := cell_of (o := 2) hblk4 rfl
        have f2 := frozen_of (o := 2) hblk4
        have c3 := cell_of (o := 3) hblk4 rfl
        have f3 := frozen_of (o := 3) hblk4
        have c4 := cell_of (o := 4) hblk4 rfl
        have f4 := frozen_of (o := 4) hblk4
        have c5 := cell_of (o := 5) hblk4 rfl
        have f5 := frozen_of (o := 5) hblk4
        have c6 := cell_of (o := 6) hblk4 rfl
        have f6 := frozen_of (o := 6) hblk4
        have c7 := cell_of (o := 7) hblk4 rfl
        have f7 := frozen_of (o := 7) hblk4
        have c8 := cell_of (o := 8) hblk4 rfl
        have f8 := frozen_of (o := 8) hblk4
        have c9 := cell_of (o := 9) hblk4 rfl
        have f9 := frozen_of (o := 9) hblk4
        have c10 := cell_of (o := 10) hblk4 rfl
        have f10 := frozen_of (o := 10) hblk4
        have c11 := cell_of (o := 11) hblk4 rfl
        have f11 := frozen_of (o := 11) hblk4
        have c12 := cell_of (o := 12) hblk4 rfl
        have f12 := frozen_of (o := 12) hblk4
        have c13 := cell_of (o := 13) hblk4 rfl
        have f13 := frozen_of (o := 13) hblk4
        have hM3l := lt_of HM3.out.blk
        clear hM4 hown hF4 hBts hN hblk4 hcs
        go_wp2
        go_end0
        obtain ⟨e14, f14⟩ := set14 HB4.out (.slice none 0 0) (.int .i64 0) (.int .i64 0) (.int .i64 0) (.slice none 0 0) (.slice none 0 0) (.slice none 0 0) (.slice none 0 0) (.int .i64 0) (.slice none 0 0) (.int .i64 0) (.int .i64 0) (.slice oa N oc) (.bool true)
        refine ⟨rfl, (HF4.out.trans f14).mono fun i _ e => e.elim id (fun e => by omega), Or.inr ⟨Hall.out, os, ⟨⟨told, begin, ps, nw, od, t⟩, t3, hRch.out, by rw [← Hn.out]; exact Htn.out, HE.out, HBts.out⟩, ⟨_, oa, oc, e14, by rw [← HN.out]; rfl, ?_, rfl⟩, hlM.1⟩⟩
        have ho := Hown.out
        have ho2 : w4.ownsRow lo 5 1 (.slice oa os.length oc) os.length (cellsOf os) := ⟨ho.1, ho.2.imp id fun ⟨g, cap, cur, z1, z2, z3⟩ => ⟨g, cap, cur, z1, by omega, z3⟩⟩
        exact ownsRow_fr ho2 fun j hj => f14.block j (ho2.lt j hj).2 (fun e => by have := (ho.lt j hj).1; omega)
      · have hab : ((taken : Int) == (n : Int)) = false := beq_false_of_ne (by omega)
        go_wp2_with fail
        go_quiet (fail)
        have hM2 := HM1.out.keep (Fr.of_drewN w1 nq) (fun _ _ _ e => e) (fun e => e)
        have hF2 := HF1.out.trans (Fr.of_drewN w1 nq)
        generalize w1.drewN nq = w2 at hM2 hF2 ⊢
        have HM2 := hide hM2
        have HF2 := hide (hF2.mono (S' := fun i => lo ≤ i) fun i _ e => e.elim id (fun e => e.elim))
        clear hM2 hF2 k0 k1
        go_wp2
        go_end0
        exact ⟨rfl, HF2.out, Or.inl ⟨by omega, ⟨told, begin, ps, nw, od, t⟩, ⟨hRch.out, cs, N1, N2, g, HM2.out⟩, by show taken ≤ told; omega⟩⟩
end Go.Proofs.YtdpmpllbdoefdaaGreatDoor
