/-
  slices.Sort of numbers.
-/
import Derived.Test.YthdilabmajaehaaTg
namespace Go.Proofs.Ythdilabmajaehaa
open Go.RowKit
open Go.Sort (swp PermIn SortedIn SWO swp_get swp_size swp_permIn permIn_refl permIn_trans permIn_mono permIn_all Ins ltInt swo_ltInt)

open Go.Sort (partitionEqual partition partialInsertionSort heapSort reverseRange)

/-- What sorting owes: whatever sorted permutation of the part comes back, the whole is one. -/
def Owe (a b : Nat) (d : Array Int) (a' b' : Nat) (d' : Array Int) : Prop := ∀ R, PermIn a' b' d' R → SortedIn ltInt a' b' R → PermIn a b d R ∧ SortedIn ltInt a b R

theorem Owe.perm {a b a' b' : Nat} {d d' d2 : Array Int} (h : Owe a b d a' b' d') (hp : PermIn a' b' d' d2) : Owe a b d a' b' d2 := fun R h1 h2 => h R (permIn_trans _ _ _ _ _ hp h1) h2

set_option maxHeartbeats 4000000 in
set_option maxRecDepth 100000 in
theorem pdq_all (m : Nat) : ∀ (g n a b lim : Nat) (d : Array Int) (w : World), b - a ≤ m → St w w g n d → n ≤ 60000 → a ≤ b → b ≤ n → lim ≤ 100 → Go.Sort.Below ltInt a b d →
    Calls Try.prog 52 #[.slice (some ⟨g, 0, none⟩) n n, .int .i64 (a : Int), .int .i64 (b : Int), .int .i64 (lim : Int)] w fun e w' => e = .returned (.tuple #[]) ∧ ∃ d', St w w' g n d' ∧ PermIn a b d d' ∧ SortedIn ltInt a b d' := by
  induction m with
  | zero =>
    intro g n a b lim d w hm h hn hab hb hlim hB
    have HI := hide (insertion_c g n a b d w h (by omega) hab hb)
    have hl : (b : Int) - (a : Int) = 0 := by omega
    clear h hB
    go_enter Try.func52, Try.ntmps52
    go_wp2_with fail
    go_loopw [1, 2, 3, 8, 9, 10, 11, 12, 13, 14, 15, 16, 17, 18] (fun v1 v2 _ _ _ _ _ _ _ _ _ _ _ _ wr => v1 = .int .i64 (a : Int) ∧ v2 = .int .i64 (b : Int) ∧ wr = w) (fun _ _ _ _ _ _ _ _ _ _ _ _ _ _ _ => 0)
    case atStart => exact ⟨rfl, rfl, rfl⟩
    case round =>
      obtain ⟨rfl, rfl, rfl⟩ := hrel
      go_wp2_with fail
      refine HI.out.mono ?_
      rintro e w2 ⟨rfl, hD⟩
      have HD := hide hD
      clear hD
      go_wp2_with fail
      exact bodyPost_ret (results_none rfl _ _ _) rfl ⟨rfl, HD.out⟩
  | succ m ih =>
    intro g n a b lim d w hm h hn hab hb hlim hB
    have HS := hide h
    have HB := hide hB
    have HO : Hid (Owe a b d a b d) := fun R h1 h2 => ⟨h1, h2⟩
    have IH := hide ih
    clear h hB ih
    go_enter Try.func52, Try.ntmps52
    go_wp2_with fail
    go_loopw [1, 2, 3, 8, 9, 10, 11, 12, 13, 14, 15, 16, 17, 18] (fun v1 v2 v3 v8 v9 _ _ _ _ _ _ _ _ _ wr => ∃ (a' b' lim' : Nat) (wb wp : Bool) (d' : Array Int), v1 = .int .i64 (a' : Int) ∧ v2 = .int .i64 (b' : Int) ∧ v3 = .int .i64 (lim' : Int) ∧ v8 = .bool wb ∧ v9 = .bool wp ∧ a' ≤ b' ∧ b' ≤ n ∧ b' - a' ≤ m + 1 ∧ lim' ≤ 100 ∧ Hid (St w wr g n d') ∧ Hid (Go.Sort.Below ltInt a' b' d') ∧ Hid (Owe a b d a' b' d')) (fun v1 v2 _ _ _ _ _ _ _ _ _ _ _ _ _ => (intOf v2 - intOf v1).toNat)
    case atStart => exact ⟨a, b, lim, true, true, d, rfl, rfl, rfl, rfl, rfl, hab, hb, hm, hlim, HS.out, HB.out, HO.out⟩
    case round =>
      obtain ⟨a', b', lim', wb, wp, d', rfl, rfl, rfl, rfl, rfl, hab', hb', hm', hlim', HS, HB, HO⟩ := hrel
      obtain ⟨l, hl⟩ : ∃ l, l = b' - a' := ⟨_, rfl⟩
      have hli : (b' : Int) - (a' : Int) = (l : Int) := by omega
      have hlb : l ≤ 60000 := by omega
      have Hl := hide hl
      clear hl
      by_cases h12 : l ≤ 12
      · have h12i : (l : Int) ≤ 12 := by omega
        have HI := hide (insertion_c g n a' b' d' wr HS.out.start (by omega) hab' hb')
        go_wp2_with fail
        refine HI.out.mono ?_
        rintro e w2 ⟨rfl, d2, hS2, hP2, hO2⟩
        have HF := hide (HO.out d2 hP2 hO2)
        have HS2 := hide (HS.out.trans hS2)
        clear hS2 hP2 hO2
        go_wp2_with fail
        exact bodyPost_ret (results_none rfl _ _ _) rfl ⟨rfl, d2, HS2.out, HF.out.1, HF.out.2⟩
      have h12i : ¬ (l : Int) ≤ 12 := by omega
      by_cases h0 : lim' = 0
      · have h0i : ((lim' : Int) == 0) = true := by rw [h0]; rfl
        have HH := hide (heap_c g n a' b' d' wr HS.out.start (by omega) (by have := Hl.out; omega) hb')
        have HF := hide (Go.Sort.heapSort_holds swo_ltInt d' a' b' hab' (by have := HS.out.sz; omega))
        go_wp2_with fail
        refine HH.out.mono ?_
        rintro e w2 ⟨rfl, hS2⟩
        have HF2 := hide (HO.out _ HF.out.1 HF.out.2)
        have HS2 := hide (HS.out.trans hS2)
        clear hS2
        go_wp2_with fail
        exact bodyPost_ret (results_none rfl _ _ _) rfl ⟨rfl, _, HS2.out, HF2.out.1, HF2.out.2⟩
      have h0i : ((lim' : Int) == 0) = false := beq_false_of_ne (by omega)
      go_upto_if 35 with fail
      go_cut [3] from 34 to 41 (fun v3 wx => ∃ (lim2 : Nat) (d1 : Array Int), v3 = .int .i64 (lim2 : Int) ∧ lim2 ≤ 100 ∧ St w wx g n d1 ∧ PermIn a' b' d' d1)
      case first =>
        cases wb with
        | true =>
          go_wp2_with fail
          go_meet
          case rel => exact ⟨lim', d', rfl, hlim', HS.out, permIn_refl _ _ _⟩
        | false =>
          have HI := hide (break_c g n a' b' d' wr HS.out.start hn (by have := Hl.out; omega) hb')
          have hlm : (lim' : Int) - 1 = ((lim' - 1 : Nat) : Int) := by omega
          go_wp2_with fail
          refine HI.out.mono ?_
          rintro e w2 ⟨rfl, d2, hS2, hP2⟩
          have HS2 := hide (HS.out.trans hS2)
          have HP2 := hide hP2
          clear hS2 hP2
          go_wp2_with fail
          go_meet
          case rel => exact ⟨lim' - 1, d2, by go_num, by omega, HS2.out, HP2.out⟩
      case rest =>
      have hcut2 := hcut
      clear hcut
      obtain ⟨lim2, d1, rfl, hlim2, hS0, hP0⟩ := hcut2
      have HB1 := hide (HB.out.perm (by have := HS.out.sz; omega) hP0)
      have HO1 := hide (HO.out.perm hP0)
      have HS := hide hS0
      clear hS0 hP0 HB HO
      have HCh := hide (choose_c g n a' b' d1 _ HS.out.start (by omega) (by have := Hl.out; omega) hb')
      go_wp2_with fail
      refine HCh.out.mono ?_
      rintro e w4 ⟨p, t, rfl, hp1, hp2, ht, hF4⟩
      have HS4 := hide (HS.out.keep hF4)
      clear hF4
      go_upto_if 50 with fail
      go_cut [11, 12] from 42 to 60 (fun v11 v12 wx => ∃ (p2 t2 : Nat) (d2 : Array Int), v11 = .int .i64 (p2 : Int) ∧ v12 = .int .i64 (t2 : Int) ∧ a' ≤ p2 ∧ p2 < b' ∧ t2 ≤ 2 ∧ St w wx g n d2 ∧ PermIn a' b' d1 d2)
      case first =>
        by_cases h2 : t = 2
        · have h2i : ((t : Int) == 2) = true := by rw [h2]; rfl
          have h2j : (t : Int) = 2 := by omega
          have HI := hide (reverse_c g n a' b' d1 w4 HS4.out.start (by omega) (by have := Hl.out; omega) hb')
          have HP := hide (Go.Sort.reverseRange_holds d1 a' b' hab' (by have := HS4.out.sz; omega))
          obtain ⟨bm, hbm⟩ : ∃ bm, bm = b' - 1 := ⟨_, rfl⟩
          obtain ⟨pa, hpa⟩ : ∃ pa, pa = p - a' := ⟨_, rfl⟩
          have hbmi : (b' : Int) - 1 = (bm : Int) := by have := Hl.out; omega
          have hpai : (p : Int) - (a' : Int) = (pa : Int) := by omega
          obtain ⟨p3, hp3⟩ : ∃ p3, p3 = bm - pa := ⟨_, rfl⟩
          have hp3i : (bm : Int) - (pa : Int) = (p3 : Int) := by omega
          have hp3b : a' ≤ p3 ∧ p3 < b' := by omega
          have Hp3 := hide hp3b
          clear hbm hpa hp3 hp3b h2
          go_wp2_with fail
          refine HI.out.mono ?_
          rintro e w5 ⟨rfl, hS5⟩
          have HS5 := hide (HS4.out.trans hS5)
          clear hS5
          go_wp2_with fail
          go_meet
          case rel => exact ⟨p3, 1, _, by go_num, rfl, Hp3.out.1, Hp3.out.2, by omega, HS5.out, HP.out⟩
        · have h2i : ((t : Int) == 2) = false := beq_false_of_ne (by omega)
          go_wp2_with fail
          go_meet
          case rel => exact ⟨p, t, d1, rfl, rfl, hp1, hp2, ht, HS4.out, permIn_refl _ _ _⟩
      case rest =>
      have hcut2 := hcut
      clear hcut
      obtain ⟨p2, t2, d2, rfl, rfl, hp21, hp22, ht2, hS0, hP0⟩ := hcut2
      have HB2 := hide (HB1.out.perm (by have := HS.out.sz; omega) hP0)
      have HO2 := hide (HO1.out.perm hP0)
      have HS := hide hS0
      clear hS0 hP0 HB1 HO1 HS4
      go_upto_region 15 with fail
      go_cut [68] from 61 to 67 (fun v68 wx => ∃ q : Bool, v68 = .bool q ∧ St w wx g n d2)
      case first =>
        cases wb with
        | false =>
          go_wp2_with fail
          go_meet
          case rel => exact ⟨false, rfl, HS.out⟩
        | true =>
          cases wp with
          | false =>
            go_wp2_with fail
            go_meet
            case rel => exact ⟨false, rfl, HS.out⟩
          | true =>
            by_cases h1 : t2 = 1
            · have h1i : ((t2 : Int) == 1) = true := by rw [h1]; rfl
              have h1j : (t2 : Int) = 1 := by omega
              clear h1
              go_wp2_with fail
              go_meet
              case rel => exact ⟨true, rfl, HS.out⟩
            · have h1i : ((t2 : Int) == 1) = false := beq_false_of_ne (by omega)
              go_wp2_with fail
              go_meet
              case rel => exact ⟨false, rfl, HS.out⟩
      case rest =>
      have hcut2 := hcut
      clear hcut
      obtain ⟨q, rfl, hS0⟩ := hcut2
      have HS := hide hS0
      clear hS0
      have HSP := hide HS.out
      go_upto_if 68 with fail
      go_cut [] from 69 to 72 (fun wx => ∃ d3 : Array Int, St w wx g n d3 ∧ PermIn a' b' d2 d3)
      case first =>
        cases q with
        | false =>
          go_wp2_with fail
          go_meet
          case rel => exact ⟨d2, HS.out, permIn_refl _ _ _⟩
        | true =>
          have HI := hide (partial_c g n a' b' d2 _ HS.out.start hn (by have := Hl.out; omega) hb')
          have HP := hide (Go.Sort.partialInsertionSort_holds swo_ltInt d2 a' b' (by have := Hl.out; omega) (by have := HS.out.sz; omega) HB2.out)
          go_wp2_with fail
          refine HI.out.mono ?_
          rintro e w5 ⟨rfl, hS5⟩
          have HS5 := hide (HS.out.trans hS5)
          clear hS5
          cases hq : (partialInsertionSort ltInt d2 a' b').2 with
          | true =>
            have HF := hide (HO2.out _ HP.out.1 (HP.out.2 hq))
            clear hq
            go_wp2_with fail
            exact bodyPost_ret (results_none rfl _ _ _) rfl ⟨rfl, _, HS5.out, HF.out.1, HF.out.2⟩
          | false =>
            go_wp2_with fail
            go_meet
            case rel => exact ⟨_, HS5.out, HP.out.1⟩
      case rest =>
      have hcut2 := hcut
      clear hcut
      obtain ⟨d3, hS0, hP0⟩ := hcut2
      have HB3 := hide (HB2.out.perm (by have := HS.out.sz; omega) hP0)
      have HO3 := hide (HO2.out.perm hP0)
      have HS := hide hS0
      clear hS0 hP0 HB2 HO2 HSP
      have hpn : p2 < n := by omega
      have hpni : (p2 : Int) < (n : Int) := by omega
      have HPt := hide fun (w : World) (h : St w w g n d3) => partition_c g n a' b' p2 d3 w h hn (by have := Hl.out; omega) hp21 hp22 hb'
      have HRP := hide (Go.Sort.round_part swo_ltInt (Go.Sort.partition_holds ltInt) (mid := (partition ltInt d3 a' b' p2).1) (ap := (partition ltInt d3 a' b' p2).2.1) (d4 := (partition ltInt d3 a' b' p2).2.2) hp21 hp22 (by have := HS.out.sz; omega) HB3.out rfl)
      go_upto_region 17 with fail
      go_cut [87] from 73 to 86 (fun v87 wx => ∃ q : Bool, v87 = .bool q ∧ (q = true → 0 < a' ∧ ltInt d3[a' - 1]! d3[p2]! = false) ∧ St w wx g n d3)
      case first =>
        by_cases ha0 : 0 < a'
        · have hda : decide ((0 : Int) < (a' : Int)) = true := decide_eq_true (by omega)
          obtain ⟨am, ham⟩ : ∃ am, am = a' - 1 := ⟨_, rfl⟩
          have hami : (a' : Int) - 1 = (am : Int) := by omega
          have hamn : am < n := by omega
          have hamni : (am : Int) < (n : Int) := by omega
          have c1 := HS.out.dt.cell (j := am) (by have := HS.out.sz; omega)
          have c2 := HS.out.dt.cell (j := p2) (by have := HS.out.sz; omega)
          obtain ⟨vx, hvx⟩ : ∃ v, v = d3[am]! := ⟨_, rfl⟩
          obtain ⟨vy, hvy⟩ : ∃ v, v = d3[p2]! := ⟨_, rfl⟩
          rw [← hvx] at c1
          rw [← hvy] at c2
          have Hq : Hid (ltInt d3[a' - 1]! d3[p2]! = decide (vx < vy)) := by show _ = _; rw [← ham, ← hvx, ← hvy]; rfl
          have Ha0 : Hid (0 < a') := ha0
          have hda2 : decide (0 < a') = true := decide_eq_true ha0
          clear hvx hvy ham
          go_wp2_with fail
          go_quiet ((go_at_call 64; exact Calls.quiet_of_same (less_c _ _ _)))
          have HSn := hide (HS.out.drewN nq)
          generalize World.drewN _ nq = w6 at HSn ⊢
          clear c1 c2
          go_wp2_with fail
          go_meet
          case rel => exact ⟨_, rfl, fun h => ⟨Ha0.out, by rw [Hq.out]; simpa using h⟩, HSn.out⟩
        · have hda : decide ((0 : Int) < (a' : Int)) = false := decide_eq_false (by omega)
          have hda2 : decide (0 < a') = false := decide_eq_false ha0
          go_wp2_with fail
          go_quiet (fail)
          have HSn := hide (HS.out.drewN nq)
          generalize World.drewN _ nq = w6 at HSn ⊢
          go_wp2_with fail
          go_meet
          case rel => exact ⟨false, rfl, fun h => (by cases h), HSn.out⟩
      case rest =>
      have hcut2 := hcut
      clear hcut
      obtain ⟨q, rfl, hq, hS0⟩ := hcut2
      have HS := hide hS0
      clear hS0
      cases q with
      | false =>
          clear hq
          go_wp2_with fail
          refine (HPt.out _ HS.out.start).mono ?_
          rintro e w7 ⟨rfl, hS7⟩
          obtain ⟨g1, g2, hs4, hBa, hBr, hleft, hright⟩ := HRP.out
          obtain ⟨mid, hmid⟩ : ∃ mid, mid = (partition ltInt d3 a' b' p2).1 := ⟨_, rfl⟩
          obtain ⟨ap, hap⟩ : ∃ ap, ap = (partition ltInt d3 a' b' p2).2.1 := ⟨_, rfl⟩
          obtain ⟨d4, hd4⟩ : ∃ d4, d4 = (partition ltInt d3 a' b' p2).2.2 := ⟨_, rfl⟩
          rw [← hmid] at g1 g2
          rw [← hd4] at hs4
          rw [← hmid, ← hd4] at hBa hBr hleft hright
          rw [← hmid, ← hap]
          rw [← hd4] at hS7
          have HS7 := hide (HS.out.trans hS7)
          have HBa := hide hBa
          have HBr := hide hBr
          have HLe := hide hleft
          have HRi := hide hright
          clear hS7 hBa hBr hleft hright hmid hap hd4 hs4
          obtain ⟨lL, hlL⟩ : ∃ lL, lL = mid - a' := ⟨_, rfl⟩
          obtain ⟨lR, hlR⟩ : ∃ lR, lR = b' - mid := ⟨_, rfl⟩
          obtain ⟨l8, hl8⟩ : ∃ l8, l8 = l / 8 := ⟨_, rfl⟩
          have e1 : (mid : Int) - (a' : Int) = (lL : Int) := by omega
          have e2 : (b' : Int) - (mid : Int) = (lR : Int) := by omega
          have e3 : (l : Int).tdiv 8 = (l8 : Int) := by rw [Int.tdiv_eq_ediv_of_nonneg (by omega), hl8]; omega
          have e4 : (l : Int) / 8 = (l8 : Int) := by rw [hl8]; omega
          obtain ⟨mid1, hmid1⟩ : ∃ mid1, mid1 = mid + 1 := ⟨_, rfl⟩
          have e5 : (mid : Int) + 1 = (mid1 : Int) := by omega
          rw [← hmid1] at HBr HLe HRi
          have hm1 : a' < mid1 ∧ mid1 ≤ b' := by omega
          have hbnd : lL ≤ 60000 ∧ lR ≤ 60000 ∧ l8 ≤ 60000 ∧ mid1 ≤ 60000 := by have := Hl.out; omega
          obtain ⟨bb1, bb2, bb3, bb4⟩ := hbnd
          have HLl := hide hlL
          have HLr := hide hlR
          have HM1 := hide hmid1
          clear hlL hlR hl8 hmid1
          by_cases hlt : lL < lR
          · have hlti : (lL : Int) < (lR : Int) := by omega
            have HC := hide (IH.out g n a' mid lim2 d4 w7 (by have := Hl.out; omega) HS7.out.start hn g1 (by omega) hlim2 HBa.out)
            go_wp2_with fail
            refine HC.out.mono ?_
            rintro e w8 ⟨rfl, d5, hS8, hP8, hO8⟩
            have HS8 := hide (HS7.out.trans hS8)
            obtain ⟨hB9, hfin⟩ := HLe.out d5 hP8 hO8
            have HB9 := hide hB9
            have HO9 : Hid (Owe a b d mid1 b' d5) := fun R h1 h2 => by
              obtain ⟨q1, q2⟩ := hfin R h1 h2
              exact HO3.out R q1 q2
            clear hS8 hP8 hO8 hB9 hfin
            go_wp2_with fail
            go_roundw
            case rel => exact ⟨mid1, b', lim2, _, ap, d5, rfl, rfl, rfl, rfl, rfl, hm1.2, hb', by have := Hl.out; omega, hlim2, HS8.out, HB9.out, HO9.out⟩
            case measure => simp [intOf]; omega
          · have hlti : ¬ (lL : Int) < (lR : Int) := by omega
            have HC := hide (IH.out g n mid1 b' lim2 d4 w7 (by have := Hl.out; omega) HS7.out.start hn hm1.2 hb' hlim2 HBr.out)
            go_wp2_with fail
            refine HC.out.mono ?_
            rintro e w8 ⟨rfl, d5, hS8, hP8, hO8⟩
            have HS8 := hide (HS7.out.trans hS8)
            obtain ⟨hB9, hfin⟩ := HRi.out d5 hP8 hO8
            have HB9 := hide hB9
            have HO9 : Hid (Owe a b d a' mid d5) := fun R h1 h2 => by
              obtain ⟨q1, q2⟩ := hfin R h1 h2
              exact HO3.out R q1 q2
            clear hS8 hP8 hO8 hB9 hfin
            go_wp2_with fail
            go_roundw
            case rel => exact ⟨a', mid, lim2, _, ap, d5, rfl, rfl, rfl, rfl, rfl, g1, by omega, by have := Hl.out; omega, hlim2, HS8.out, HB9.out, HO9.out⟩
            case measure => simp [intOf]; omega
      | true =>
          obtain ⟨Ha0, hnl⟩ := hq rfl
          have HRE := hide (Go.Sort.round_eq swo_ltInt (Go.Sort.partitionEqual_holds ltInt) (mid := (partitionEqual ltInt d3 a' b' p2).1) (d4 := (partitionEqual ltInt d3 a' b' p2).2) Ha0 hp21 hp22 (by have := HS.out.sz; omega) HB3.out hnl rfl)
          have HC := hide (equals_c g n a' b' p2 d3 _ HS.out.start hn (by have := Hl.out; omega) hp21 hp22 hb')
          clear hnl Ha0 hq
          go_wp2_with fail
          refine HC.out.mono ?_
          rintro e w7 ⟨rfl, hS7⟩
          obtain ⟨g1, g2, _, hB7, hfin⟩ := HRE.out
          obtain ⟨mid, hmid⟩ : ∃ mid, mid = (partitionEqual ltInt d3 a' b' p2).1 := ⟨_, rfl⟩
          obtain ⟨d4, hd4⟩ : ∃ d4, d4 = (partitionEqual ltInt d3 a' b' p2).2 := ⟨_, rfl⟩
          rw [← hmid] at g1 g2
          rw [← hmid, ← hd4] at hB7 hfin
          rw [← hmid]
          rw [← hd4] at hS7
          have HS7 := hide (HS.out.trans hS7)
          have HB7 := hide hB7
          have HO7 : Hid (Owe a b d mid b' d4) := fun R h1 h2 => by
            obtain ⟨q1, q2⟩ := hfin R h1 h2
            exact HO3.out R q1 q2
          clear hS7 hB7 hfin hmid hd4
          go_wp2_with fail
          go_roundw
          case rel => exact ⟨mid, b', lim2, wb, wp, d4, rfl, rfl, rfl, rfl, rfl, g2, hb', by have := Hl.out; omega, hlim2, HS7.out, HB7.out, HO7.out⟩
          case measure => simp [intOf]; omega

set_option maxHeartbeats 400000 in
/-- slices.Sort: the numbers in their order, each as often as before. -/
theorem sort_any (g n : Nat) (l : List Int) (w : World) (hg : w.heap[g]? = some (.cells (cellsQ l).toArray 65 (0, 0))) (hl : l.length = n) (hn : n ≤ 60000) (h1 : 1 ≤ n) :
    Calls Try.prog 36 #[.slice (some ⟨g, 0, none⟩) n n] w fun e w' => e = .returned (.tuple #[]) ∧ Fr (fun j => j = g) w w' ∧ ∃ l' : List Int, w'.heap[g]? = some (.cells (cellsQ l').toArray 65 (0, 0)) ∧ l'.Perm l ∧ l'.length = n ∧ ∀ i j, i < j → j < n → l'.getD i 0 ≤ l'.getD j 0 := by
  have hD : Dt w g l.toArray := ⟨by rw [hg]; simp [cellsQ]⟩
  have hS : St w w g n l.toArray := ⟨hD, Fr.refl _ _, by simpa using hl⟩
  have HLn := hide (len_any n w h1 (by omega))
  have HP := hide fun (k : Nat) (hk : k ≤ 16) => pdq_all n g n 0 n k l.toArray w (by omega) hS hn (Nat.zero_le _) (Nat.le_refl _) (by omega) (Or.inl rfl)
  have hnw : IntKind.u64.wrap (n : Int) = (n : Int) := by simp [IntKind.wrap, IntKind.bits, IntKind.signed]; omega
  have Hl := hide hl
  clear hD hS hg hl
  go_enter Try.func36, Try.ntmps36
  go_wp2_with fail
  refine HLn.out.mono ?_
  rintro e w2 ⟨k, rfl, _, _, k3, rfl⟩
  go_wp2_with fail
  refine (HP.out k k3).mono ?_
  rintro e w3 ⟨rfl, d', hS, hP, hO⟩
  have HS := hide hS
  have HPp := hide hP
  have HOo := hide hO
  clear hS hP hO
  go_wp2_with fail
  go_end0
  refine ⟨rfl, HS.out.fr, d'.toList, ?_, ?_, ?_, ?_⟩
  · have := HS.out.dt.obj
    rw [this]
    congr 2
    cases d'
    simp [cellsQ]
  · have h3 := HPp.out.2.2
    have hl := Hl.out
    have hz := HS.out.sz
    simpa [hl, ← hz, List.take_of_length_le] using h3
  · have hz := HS.out.sz
    simpa using hz
  · intro i j hij hj
    have h := HOo.out i j (Nat.zero_le _) hij hj
    have hz := HS.out.sz
    have h2 : ¬ d'[j]! < d'[i]! := by simpa [ltInt] using h
    have e1 : d'.toList.getD i 0 = d'[i]! := by simp [List.getD_eq_getElem?_getD, show i < d'.size by omega]
    have e2 : d'.toList.getD j 0 = d'[j]! := by simp [List.getD_eq_getElem?_getD, show j < d'.size by omega]
    rw [e1, e2]
    omega
end Go.Proofs.Ythdilabmajaehaa
