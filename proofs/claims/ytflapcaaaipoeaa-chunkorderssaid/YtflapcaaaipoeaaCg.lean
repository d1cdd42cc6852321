/-
  chunk: the document's Order.
-/
import Derived.Test.YtflapcaaaipoeaaCf
namespace Go.Proofs.Ytflapcaaaipoeaa
open Go.RowKit
set_option linter.unusedVariables false

/-- What the document counts: IHDRs, IENDs, PLTEs, tRNSs, IDATs. -/
structure Cnt where
  h : Nat
  e : Nat
  p : Nat
  t : Nat
  d : Nat
/-- One chunk more; none where it may not stand. -/
def stepR (l : List Ck) (i : Nat) (s : Cnt) : Option Cnt :=
  if (l.getD i default).1 = sHead then (if 0 < i ∨ lenAt l i ≠ 13 then none else some { s with h := s.h + 1 })
  else if (l.getD i default).1 = sIend then (if i + 1 < l.length ∨ 0 < lenAt l i then none else some { s with e := s.e + 1 })
  else if (l.getD i default).1 = sIdat then (if 0 < s.d ∧ (l.getD (i - 1) default).1 ≠ sIdat then none else some { s with d := s.d + 1 })
  else if (l.getD i default).1 = sPlte then (if 0 < s.d ∨ 0 < s.t then none else some { s with p := s.p + 1 })
  else if (l.getD i default).1 = sTrns then (if 0 < s.d then none else some { s with t := s.t + 1 })
  else if kindB (l.getD i default).1 = true ∧ critB (l.getD i default).1 = false then some s else none
def runR (l : List Ck) : Nat → Option Cnt
  | 0 => some ⟨0, 0, 0, 0, 0⟩
  | n + 1 => (runR l n).bind (stepR l n)
def endR (s : Cnt) : Bool := decide (s.h = 1) && decide (s.e = 1) && decide (1 ≤ s.d) && decide (s.p ≤ 1) && decide (s.t ≤ 1)
def rorderE (l : List Ck) : Int := match runR l l.length with
  | none => 4
  | some s => if endR s then 0 else 4

theorem runR_none {l : List Ck} {n : Nat} (h : runR l n = none) : ∀ m, n ≤ m → runR l m = none
  | 0, hm => by obtain rfl : n = 0 := by omega
                exact h
  | m + 1, hm => by
    by_cases e : n = m + 1
    · rw [← e]; exact h
    · have := runR_none h m (by omega)
      show (runR l m).bind _ = none
      rw [this]; rfl

theorem rorder_none {l : List Ck} {n : Nat} (hn : n ≤ l.length) (h : runR l n = none) : rorderE l = 4 := by
  unfold rorderE
  rw [runR_none h _ hn]

set_option maxHeartbeats 1600000 in
set_option maxRecDepth 20000 in
theorem rorder_c (a : Option Addr) (c : Nat) (l : List Ck) (w : World) (hl : LiesC w a l) (hlen : l.length ≤ 281474976710656) :
    Calls Try.prog 17 #[.slice a l.length c] w fun e w' => e = .returned (.int .i64 (rorderE l)) ∧ w = w' := by
  have Hl := hide hl
  clear hl
  go_enter Try.func17, Try.ntmps17
  go_wp2
  go_loop [3, 4, 5, 6, 7, 8] (fun h e p t d i => ∃ (k xh xe xp xt xd : Nat), k ≤ l.length ∧ i = .int .i64 k ∧ h = .int .i64 xh ∧ e = .int .i64 xe ∧ p = .int .i64 xp ∧ t = .int .i64 xt ∧ d = .int .i64 xd ∧ xh ≤ k ∧ xe ≤ k ∧ xp ≤ k ∧ xt ≤ k ∧ xd ≤ k ∧ Hid (runR l k = some ⟨xh, xe, xp, xt, xd⟩)) (fun _ _ _ _ _ i => l.length - (intOf i).toNat)
  case atStart => exact ⟨0, 0, 0, 0, 0, 0, by omega, rfl, rfl, rfl, rfl, rfl, rfl, by omega, by omega, by omega, by omega, by omega, rfl⟩
  case round =>
    obtain ⟨k, xh, xe, xp, xt, xd, hk, rfl, rfl, rfl, rfl, rfl, rfl, q1, q2, q3, q4, q5, H⟩ := hrel
    by_cases hlt : k < l.length
    · obtain ⟨b, o, d, cap, rfl, hck⟩ := Hl.out k hlt
      have h0 : (0 : Int) ≤ (k : Int) := by omega
      have h1 : (k : Int) < (l.length : Int) := by omega
      have hc1 := hck.kind
      have hc2 := hck.data
      have hm := letters_c (l.getD k default).1
      have hcr := rcritical_c (l.getD k default).1
      have hs : (l.getD k default).1.size ≤ maxLen := by have := hck.size; unfold maxLen; omega
      have hnl := hck.len
      have hS : Hid (runR l (k + 1) = stepR l k ⟨xh, xe, xp, xt, xd⟩) := by
        show (runR l k).bind _ = _
        rw [H.out]; rfl
      have HN4 : Hid (runR l (k + 1) = none → rorderE l = 4) := rorder_none (by omega)
      unfold stepR at hS
      have hlA : lenAt l k = (l.getD k default).2.length := rfl
      rw [hlA] at hS
      clear hck hlA
      generalize hq : l.getD k default = q at *
      obtain ⟨kd, ds⟩ := q
      have Hq := hide hq
      clear hq
      simp only [] at hc1 hc2 hnl hS
      generalize ds.length = n at *
      have b1 : (kd.toList == [73, 72, 68, 82]) = decide (kd = sHead) := eqL kd _
      have b2 : (kd.toList == [73, 69, 78, 68]) = decide (kd = sIend) := eqL kd _
      have b3 : (kd.toList == [73, 68, 65, 84]) = decide (kd = sIdat) := eqL kd _
      have b4 : (kd.toList == [80, 76, 84, 69]) = decide (kd = sPlte) := eqL kd _
      have b5 : (kd.toList == [116, 82, 78, 83]) = decide (kd = sTrns) := eqL kd _
      by_cases e1 : kd = sHead
      · rw [if_pos e1] at hS
        rw [decide_eq_true e1] at b1
        clear b2 b3 b4 b5 e1 hm hcr
        by_cases ek : 0 < k
        · have HN : Hid (rorderE l = 4) := HN4.out (by rw [hS.out, if_pos (.inl ek)])
          clear hS HN4 H
          go_wp2
          go_ret
          exact ⟨by rw [HN.out]; rfl, rfl⟩
        · by_cases en : n = 13
          · have HN : Hid (runR l (k + 1) = some ⟨xh + 1, xe, xp, xt, xd⟩) := by show _ = _; rw [hS.out, if_neg (by omega)]
            obtain rfl : k = 0 := by omega
            rw [Nat.zero_mul, Nat.add_zero] at hc1 hc2
            clear hS HN4 H ek h0 hk
            subst en
            go_wp2
            go_round
            case rel => exact ⟨0 + 1, xh + 1, xe, xp, xt, xd, by omega, by go_num, by go_num, rfl, rfl, rfl, rfl, by omega, by omega, by omega, by omega, by omega, HN⟩
            case measure => simp [intOf]; omega
          · have HN : Hid (rorderE l = 4) := HN4.out (by rw [hS.out, if_pos (.inr en)])
            have en2 : ((n : Int) == 13) = false := by simp; omega
            have ek1 : decide ((0 : Int) < (k : Int)) = false := by simp; omega
            have ek2 : decide (0 < k) = false := by simp; omega
            have Hk := hide ek
            clear hS HN4 H ek
            go_wp2
            go_ret
            exact ⟨by rw [HN.out]; rfl, rfl⟩
      · rw [if_neg e1] at hS
        rw [decide_eq_false e1] at b1
        by_cases e2 : kd = sIend
        · rw [if_pos e2] at hS
          rw [decide_eq_true e2] at b2
          clear b3 b4 b5 e1 e2 hm hcr
          by_cases ek : k + 1 < l.length
          · have ek1 : decide ((k : Int) < (l.length : Int) - 1) = true := by simp; omega
            have HN : Hid (rorderE l = 4) := HN4.out (by rw [hS.out, if_pos (.inl ek)])
            clear hS HN4 H ek
            go_wp2
            go_ret
            exact ⟨by rw [HN.out]; rfl, rfl⟩
          · have ek1 : decide ((k : Int) < (l.length : Int) - 1) = false := by simp; omega
            by_cases en : 0 < n
            · have HN : Hid (rorderE l = 4) := HN4.out (by rw [hS.out, if_pos (.inr en)])
              clear hS HN4 H ek
              go_wp2
              go_ret
              exact ⟨by rw [HN.out]; rfl, rfl⟩
            · obtain rfl : n = 0 := by omega
              have HN : Hid (runR l (k + 1) = some ⟨xh, xe + 1, xp, xt, xd⟩) := by show _ = _; rw [hS.out, if_neg (by omega)]
              clear hS HN4 H ek en
              go_wp2
              go_round
              case rel => exact ⟨k + 1, xh, xe + 1, xp, xt, xd, by omega, by go_num, rfl, by go_num, rfl, rfl, rfl, by omega, by omega, by omega, by omega, by omega, HN⟩
              case measure => simp [intOf]; omega
        · rw [if_neg e2] at hS
          rw [decide_eq_false e2] at b2
          by_cases e3 : kd = sIdat
          · rw [if_pos e3] at hS
            rw [decide_eq_true e3] at b3
            clear b4 b5 e1 e2 e3 hm hcr
            by_cases ed : 0 < xd
            · obtain ⟨j, rfl⟩ : ∃ j, k = j + 1 := ⟨k - 1, by omega⟩
              obtain ⟨b', o', d', cap', e', hck⟩ := Hl.out j (by omega)
              obtain ⟨rfl, rfl⟩ : b' = b ∧ o' = o := by
                have := Option.some.inj e'
                simp only [Addr.mk.injEq] at this
                exact ⟨this.1.symm, this.2.1.symm⟩
              have hc3 := hck.kind
              have h2 : (j : Int) < (l.length : Int) := by omega
              rw [Nat.add_sub_cancel] at hS
              clear hck e'
              generalize (l.getD j default).1 = kj at *
              have b6 : (kj.toList == [73, 68, 65, 84]) = decide (kj = sIdat) := eqL kj _
              by_cases ej : kj = sIdat
              · rw [decide_eq_true ej] at b6
                have HN : Hid (runR l (j + 1 + 1) = some ⟨xh, xe, xp, xt, xd + 1⟩) := by show _ = _; rw [hS.out, if_neg (fun h => h.2 ej)]
                clear hS HN4 H ej
                go_wp2
                go_round
                case rel => exact ⟨j + 1 + 1, xh, xe, xp, xt, xd + 1, by omega, by go_num, rfl, rfl, rfl, rfl, by go_num, by omega, by omega, by omega, by omega, by omega, HN⟩
                case measure => simp [intOf]; omega
              · rw [decide_eq_false ej] at b6
                have HN : Hid (rorderE l = 4) := HN4.out (by rw [hS.out, if_pos ⟨ed, ej⟩])
                clear hS HN4 H ej
                go_wp2
                go_ret
                exact ⟨by rw [HN.out]; rfl, rfl⟩
            · obtain rfl : xd = 0 := by omega
              have HN : Hid (runR l (k + 1) = some ⟨xh, xe, xp, xt, 0 + 1⟩) := by show _ = _; rw [hS.out, if_neg (fun h => ed h.1)]
              clear hS HN4 H ed
              go_wp2
              go_round
              case rel => exact ⟨k + 1, xh, xe, xp, xt, 0 + 1, by omega, by go_num, rfl, rfl, rfl, rfl, by go_num, by omega, by omega, by omega, by omega, by omega, HN⟩
              case measure => simp [intOf]; omega
          · rw [if_neg e3] at hS
            rw [decide_eq_false e3] at b3
            by_cases e4 : kd = sPlte
            · rw [if_pos e4] at hS
              rw [decide_eq_true e4] at b4
              clear b5 e1 e2 e3 e4 hm hcr
              by_cases ed : 0 < xd
              · have HN : Hid (rorderE l = 4) := HN4.out (by rw [hS.out, if_pos (.inl ed)])
                clear hS HN4 H
                go_wp2
                go_ret
                exact ⟨by rw [HN.out]; rfl, rfl⟩
              · obtain rfl : xd = 0 := by omega
                by_cases et : 0 < xt
                · have HN : Hid (rorderE l = 4) := HN4.out (by rw [hS.out, if_pos (.inr et)])
                  clear hS HN4 H ed
                  go_wp2
                  go_ret
                  exact ⟨by rw [HN.out]; rfl, rfl⟩
                · obtain rfl : xt = 0 := by omega
                  have HN : Hid (runR l (k + 1) = some ⟨xh, xe, xp + 1, 0, 0⟩) := by show _ = _; rw [hS.out, if_neg (by omega)]
                  clear hS HN4 H ed et
                  go_wp2
                  go_round
                  case rel => exact ⟨k + 1, xh, xe, xp + 1, 0, 0, by omega, by go_num, rfl, rfl, by go_num, rfl, rfl, by omega, by omega, by omega, by omega, by omega, HN⟩
                  case measure => simp [intOf]; omega
            · rw [if_neg e4] at hS
              rw [decide_eq_false e4] at b4
              by_cases e5 : kd = sTrns
              · rw [if_pos e5] at hS
                rw [decide_eq_true e5] at b5
                clear e1 e2 e3 e4 e5 hm hcr
                by_cases ed : 0 < xd
                · have HN : Hid (rorderE l = 4) := HN4.out (by rw [hS.out, if_pos ed])
                  clear hS HN4 H
                  go_wp2
                  go_ret
                  exact ⟨by rw [HN.out]; rfl, rfl⟩
                · obtain rfl : xd = 0 := by omega
                  have HN : Hid (runR l (k + 1) = some ⟨xh, xe, xp, xt + 1, 0⟩) := by show _ = _; rw [hS.out, if_neg ed]
                  clear hS HN4 H ed
                  go_wp2
                  go_round
                  case rel => exact ⟨k + 1, xh, xe, xp, xt + 1, 0, by omega, by go_num, rfl, rfl, rfl, by go_num, rfl, by omega, by omega, by omega, by omega, by omega, HN⟩
                  case measure => simp [intOf]; omega
              · rw [if_neg e5] at hS
                rw [decide_eq_false e5] at b5
                clear e1 e2 e3 e4 e5
                cases t5 : kindB kd
                · rw [t5] at hm
                  have HN : Hid (rorderE l = 4) := HN4.out (by rw [hS.out, if_neg (by rw [t5]; intro h; cases h.1)])
                  clear hS HN4 H
                  go_wp2_with (first | (go_at_call 24; refine (hm _ hs).mono ?_; rintro e w' ⟨rfl, rfl⟩) | (go_at_call 19; refine (hcr _ hs).mono ?_; rintro e w' ⟨rfl, rfl⟩))
                  go_ret
                  exact ⟨by rw [HN.out]; rfl, rfl⟩
                · rw [t5] at hm
                  cases t6 : critB kd
                  · rw [t6] at hcr
                    have HN : Hid (runR l (k + 1) = some ⟨xh, xe, xp, xt, xd⟩) := by show _ = _; rw [hS.out, if_pos ⟨t5, t6⟩]
                    clear hS HN4 H
                    go_wp2_with (first | (go_at_call 24; refine (hm _ hs).mono ?_; rintro e w' ⟨rfl, rfl⟩) | (go_at_call 19; refine (hcr _ hs).mono ?_; rintro e w' ⟨rfl, rfl⟩))
                    go_round
                    case rel => exact ⟨k + 1, xh, xe, xp, xt, xd, by omega, by go_num, rfl, rfl, rfl, rfl, rfl, by omega, by omega, by omega, by omega, by omega, HN⟩
                    case measure => simp [intOf]; omega
                  · rw [t6] at hcr
                    have HN : Hid (rorderE l = 4) := HN4.out (by rw [hS.out, if_neg (by rw [t6]; intro h; cases h.2)])
                    clear hS HN4 H
                    go_wp2_with (first | (go_at_call 24; refine (hm _ hs).mono ?_; rintro e w' ⟨rfl, rfl⟩) | (go_at_call 19; refine (hcr _ hs).mono ?_; rintro e w' ⟨rfl, rfl⟩))
                    go_ret
                    exact ⟨by rw [HN.out]; rfl, rfl⟩
    · have HE : Hid (rorderE l = if endR ⟨xh, xe, xp, xt, xd⟩ then 0 else 4) := by
        show _ = _
        unfold rorderE
        have h := H.out
        rw [show k = l.length by omega] at h
        rw [h]
      clear H
      have hq1 : ((xh : Int) == 1) = decide (xh = 1) := by rw [Bool.eq_iff_iff]; simp; omega
      have hq2 : ((xe : Int) == 1) = decide (xe = 1) := by rw [Bool.eq_iff_iff]; simp; omega
      by_cases e1 : xh = 1
      · by_cases e2 : xe = 1
        · by_cases e3 : 1 ≤ xd
          · by_cases e4 : xp ≤ 1
            · by_cases e5 : xt ≤ 1
              · have HN : Hid (rorderE l = 0) := by show _ = _; rw [HE.out, if_pos (by simp [endR, e1, e2, e3, e4, e5])]
                clear HE hq1 hq2
                subst e1 e2
                go_wp2
                go_ret
                exact ⟨by rw [HN.out]; rfl, rfl⟩
              · have HN : Hid (rorderE l = 4) := by show _ = _; rw [HE.out, if_neg (by simp [endR, e5])]
                clear HE hq1 hq2
                subst e1 e2
                go_wp2
                go_ret
                exact ⟨by rw [HN.out]; rfl, rfl⟩
            · have HN : Hid (rorderE l = 4) := by show _ = _; rw [HE.out, if_neg (by simp [endR, e4])]
              clear HE hq1 hq2
              subst e1 e2
              go_wp2
              go_ret
              exact ⟨by rw [HN.out]; rfl, rfl⟩
          · have HN : Hid (rorderE l = 4) := by show _ = _; rw [HE.out, if_neg (by simp [endR, e3])]
            obtain rfl : xd = 0 := by omega
            clear HE hq1 hq2
            subst e1 e2
            go_wp2
            go_ret
            exact ⟨by rw [HN.out]; rfl, rfl⟩
        · have HN : Hid (rorderE l = 4) := by show _ = _; rw [HE.out, if_neg (by simp [endR, e2])]
          rw [decide_eq_false e2] at hq2
          clear HE hq1
          subst e1
          go_wp2
          go_ret
          exact ⟨by rw [HN.out]; rfl, rfl⟩
      · have HN : Hid (rorderE l = 4) := by show _ = _; rw [HE.out, if_neg (by simp [endR, e1])]
        rw [decide_eq_false e1] at hq1
        clear HE hq2
        go_wp2
        go_ret
        exact ⟨by rw [HN.out]; rfl, rfl⟩
end Go.Proofs.Ytflapcaaaipoeaa
