/-
  filter: the best filter (the document's); the law's cost; its awake.
-/
import Derived.Test.YtkafhjjdeldkbaaMj
namespace Go.Proofs.Ytkafhjjdeldkbaa
open Go.RowKit Go.Lib
set_option linter.unusedVariables false

theorem rbest_no (B : Int) (a a2 : Option Addr) (n c m c2 : Nat) (w : World) (h : mayV 0 B n m = false) :
    Calls Try.prog 13 #[.slice a n c, .slice a2 m c2, .int .i64 B] w fun e w' => e = .returned (.int .i64 0) ∧ w = w' := by
  have HC := hide (rdo_no 0 B a a2 n c m c2 w h)
  go_enter Try.func13, Try.ntmps13
  go_wp2
  go_loopw [7, 8, 9] (fun bv lv iv wr => iv = .int .i64 0 ∧ w = wr) (fun _ _ _ _ => 0)
  case atStart => exact ⟨rfl, rfl⟩
  case round =>
    obtain ⟨rfl, rfl⟩ := hrel
    go_wp2_with fail
    refine (HC.out).mono ?_
    rintro e w' ⟨rfl, rfl⟩
    go_wp2
    go_ret
    exact ⟨rfl, rfl⟩

set_option maxHeartbeats 3200000 in
theorem rbest_yes (back : Nat) (a a2 : Option Addr) (c c2 : Nat) (xs ys : List Nat) (w : World) (hb : 1 ≤ back ∧ back ≤ 8) (hx : Lies w a xs) (hn : a = none → c = 0 ∧ xs = []) (hy : Lies w a2 ys) (hm : ys.length = 0 ∨ ys.length = xs.length) (hl : xs.length ≤ 4000) :
    Calls Try.prog 13 #[.slice a xs.length c, .slice a2 ys.length c2, .int .i64 (back : Int)] w fun e w' => e = .returned (.int .i64 ((bestV xs ys back : Nat) : Int)) ∧ Fr (fun _ => False) w w' := by
  have Hx := hide hx
  have Hy := hide hy
  have HC := hide (fun (w : World) (k : Nat) (hk : k ≤ 4) (hx : Lies w a xs) (hy : Lies w a2 ys) => rdo_yes k back a a2 c c2 xs ys w hk hb hx hn hy hm hl)
  have HB : Hid (∀ k, bestTo xs ys back (k + 1) = if costV (doV (k + 1) xs ys back) < (bestTo xs ys back k).2 then (k + 1, costV (doV (k + 1) xs ys back)) else bestTo xs ys back k) := fun k => rfl
  have HB0 : Hid (bestTo xs ys back 0 = (0, costV (doV 0 xs ys back))) := rfl
  have HV : Hid (bestV xs ys back = (bestTo xs ys back 4).1) := rfl
  have HD : Hid (∀ k, (doV k xs ys back).length = xs.length) := fun k => doV_length k xs ys back
  have HL : Hid (∀ k, (bestTo xs ys back k).1 ≤ k ∧ (bestTo xs ys back k).2 ≤ 512000) := fun k => by
    obtain ⟨h1, h2, _⟩ := bestTo_is xs ys back k
    refine ⟨h1, ?_⟩
    rw [h2]
    have := cost_le _ (doV_lt (bestTo xs ys back k).1 xs ys back)
    rw [doV_length] at this
    omega
  clear hx hy hm hb hn
  go_enter Try.func13, Try.ntmps13
  go_wp2
  go_loopw [7, 8, 9] (fun bv lv iv wr => ∃ k : Nat, k ≤ 5 ∧ iv = .int .i64 k ∧ Fr (fun _ => False) w wr ∧ ((k = 0 ∧ bv = .int .i64 0 ∧ lv = .int .i64 (-1)) ∨ ∃ j, k = j + 1 ∧ bv = .int .i64 ((bestTo xs ys back j).1 : Nat) ∧ lv = .int .i64 ((bestTo xs ys back j).2 : Nat))) (fun _ _ iv _ => 5 - (intOf iv).toNat)
  case atStart => exact ⟨0, by omega, rfl, Fr.refl _ _, .inl ⟨rfl, rfl, rfl⟩⟩
  case round =>
    obtain ⟨k, hk, rfl, hf, hst⟩ := hrel
    have HF := hide hf
    clear hf
    by_cases hlt : k < 5
    · have h0 : (0 : Int) ≤ (k : Int) := by omega
      have h1 : (k : Int) < 5 := by omega
      have HK := hide (HC.out wr k (by omega) (Hx.out.keep HF.out (fun _ _ h => h)) (Hy.out.keep HF.out (fun _ _ h => h)))
      have HDk := hide (HD.out k)
      have Hlt := hide (doV_lt k xs ys back)
      have HDe : Hid (doV k xs ys back = doV k xs ys back) := rfl
      have HST := hide hst
      generalize hD : doV k xs ys back = D at HK HDk Hlt
      have HDD := hide hD
      clear hD HDe
      obtain ⟨lv, hlv⟩ : ∃ l : Int, u8 = .int .i64 l ∧ -1 ≤ l ∧ l ≤ 512000 := by
        rcases hst with ⟨_, _, rfl⟩ | ⟨j, _, _, rfl⟩
        · exact ⟨-1, rfl, by omega, by omega⟩
        · exact ⟨_, rfl, by omega, by have := (HL.out j).2; omega⟩
      obtain ⟨rfl, l1, l2⟩ := hlv
      clear hst
      go_wp2_with fail
      refine (HK.out).mono ?_
      rintro e w1 ⟨v, rfl, ho, hf1⟩
      obtain ⟨va, vc, rfl, _⟩ := ho.form
      have HLD := hide ho.lies
      have HF1 := hide (HF.out.join hf1)
      have hDl : Hid (D.length = xs.length) := HDk.out
      have hDn : D.length ≤ 4000 := by rw [hDl.out]; exact hl
      clear ho hf1
      go_wp2
      go_loop [12, 13] (fun s i => ∃ (q z : Nat), q ≤ D.length ∧ i = .int .i64 q ∧ s = .int .i64 (z : Int) ∧ Hid (z = costV (D.take q))) (fun _ i => D.length - (intOf i).toNat)
      case atStart => exact ⟨0, 0, by omega, rfl, rfl, rfl⟩
      case round =>
        obtain ⟨q, z, hq, rfl, rfl, Hz⟩ := hrel
        have hz : z ≤ 512000 := by rw [Hz.out]; exact cost_take_le Hlt.out hDn q
        by_cases hlq : q < D.length
        · obtain ⟨ad, rfl, hck⟩ := HLD.out.2 q hlq
          have hbk : D.getD q 0 < 256 := Hlt.out _ (getD_mem D q hlq)
          have HT := hide (cost_snoc D q hlq)
          generalize D.getD q 0 = b at hck hbk HT
          have hw8 := sign_wrap b hbk
          obtain ⟨s1, s2, _, s4⟩ := sign_abs b hbk
          have habs := abs_le hbk
          generalize signV b = sv at *
          generalize absV b = av at *
          have q0 : (0 : Int) ≤ (q : Int) := by omega
          have q1 : (q : Int) < (D.length : Int) := by omega
          rcases s4 with ⟨s5, s6⟩ | ⟨s5, s6⟩
          · obtain ⟨m, rfl⟩ : ∃ m : Nat, sv = -(m : Int) := ⟨av, by omega⟩
            have hmv : m = av := by omega
            subst hmv
            clear s6
            go_wp2
            all_goals
              go_round
              case rel => exact ⟨q + 1, z + m, by omega, by go_num, by go_num, by show _ = _; rw [HT.out, Hz.out]⟩
              case measure => simp [intOf]; omega
          · obtain ⟨m, rfl⟩ : ∃ m : Nat, sv = (m : Int) := ⟨av, by omega⟩
            have hmv : m = av := by omega
            subst hmv
            clear s6
            go_wp2
            all_goals
              go_round
              case rel => exact ⟨q + 1, z + m, by omega, by go_num, by go_num, by show _ = _; rw [HT.out, Hz.out]⟩
              case measure => simp [intOf]; omega
        · have hqe : q = D.length := by omega
          have HZ : Hid (z = costV D) := by show _ = _; rw [Hz.out, hqe, List.take_length]
          have q9 : ¬ ((q : Int) < (D.length : Int)) := by omega
          clear Hz hq hqe hlq
          by_cases hcc : lv < 0 ∨ (z : Int) < lv
          · have HN : Hid (bestTo xs ys back k = (k, z)) := by
              show _ = _
              rcases HST.out with ⟨rfl, _, _⟩ | ⟨j, rfl, _, hl2⟩
              · rw [HB0.out, HDD.out, HZ.out]
              · cases hl2
                rw [HB.out, HDD.out, ← HZ.out, if_pos (by omega)]
            have hcd : (decide (lv < 0) || decide ((z : Int) < lv)) = true := by simpa using hcc
            go_wp2
            all_goals
              go_roundw
              case rel => exact ⟨k + 1, by omega, by go_num, HF1.out, .inr ⟨k, rfl, by rw [HN.out], by rw [HN.out]⟩⟩
              case measure => simp [intOf]; omega
          · have HN : Hid (∃ j, k = j + 1 ∧ u7 = .int .i64 ((bestTo xs ys back k).1 : Nat) ∧ lv = ((bestTo xs ys back k).2 : Nat)) := by
              show ∃ j, _
              rcases HST.out with ⟨rfl, _, hl2⟩ | ⟨j, rfl, hb2, hl2⟩
              · cases hl2; exfalso; omega
              · cases hl2
                refine ⟨j, rfl, ?_, ?_⟩
                · rw [HB.out, HDD.out, ← HZ.out, if_neg (by omega)]; exact hb2
                · rw [HB.out, HDD.out, ← HZ.out, if_neg (by omega)]
            have hcd : (decide (lv < 0) || decide ((z : Int) < lv)) = false := by simpa using hcc
            go_wp2
            all_goals
              go_roundw
              case rel =>
                obtain ⟨j, _, h7, h8⟩ := HN.out
                exact ⟨k + 1, by omega, by go_num, HF1.out, .inr ⟨k, rfl, h7, by rw [h8]⟩⟩
              case measure => simp [intOf]; omega
    · have hke : k = 5 := by omega
      subst hke
      rcases hst with ⟨h, _, _⟩ | ⟨j, hj, rfl, rfl⟩
      · cases h
      · have : j = 4 := by omega
        subst this
        clear hj
        go_wp2
        go_ret
        exact ⟨ret_int (by rw [HV.out]), HF.out⟩
end Go.Proofs.Ytkafhjjdeldkbaa
