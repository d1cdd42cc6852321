/-
  sort: partition of what is not less.
-/
import Derived.Test.YthdilabmajaehaaTe
namespace Go.Proofs.Ythdilabmajaehaa
open Go.RowKit
open Go.Sort (swp PermIn SortedIn SWO swp_get swp_size swp_permIn permIn_refl permIn_trans permIn_mono permIn_all Ins ltInt swo_ltInt)

open Go.Sort (partitionEqual partEqLoop scanUp scanDown)

set_option maxHeartbeats 2000000 in
set_option maxRecDepth 100000 in
theorem equals_c (g n a b p : Nat) (d : Array Int) (w : World) (h : St w w g n d) (hn : n ≤ 60000) (hab : a + 1 < b) (hap : a ≤ p) (hpb : p < b) (hb : b ≤ n) :
    Calls Try.prog 65 #[.slice (some ⟨g, 0, none⟩) n n, .int .i64 (a : Int), .int .i64 (b : Int), .int .i64 (p : Int)] w fun e w' => e = .returned (.int .i64 ((partitionEqual ltInt d a b p).1 : Int)) ∧ St w w' g n (partitionEqual ltInt d a b p).2 := by
  have HS := hide h
  obtain ⟨bm, hbm⟩ : ∃ bm, bm = b - 1 := ⟨_, rfl⟩
  have hbmi : (b : Int) - 1 = (bm : Int) := by omega
  obtain ⟨d1, hd1⟩ : ∃ d1, d1 = swp d a p := ⟨_, rfl⟩
  obtain ⟨R, hR⟩ : ∃ R, R = partitionEqual ltInt d a b p := ⟨_, rfl⟩
  rw [← hR]
  obtain ⟨a1, ha1⟩ : ∃ a1, a1 = a + 1 := ⟨_, rfl⟩
  have HTT : Hid (partEqLoop ltInt a a1 bm d1 = R) := by rw [hR, ha1, hbm, hd1]; exact rfl
  have hb1 : ((a : Int) + 1) = (a1 : Int) := by omega
  have han : a < n := by omega
  have hpn : p < n := by omega
  have hain : (a : Int) < (n : Int) := by omega
  have hpin : (p : Int) < (n : Int) := by omega
  have hbmn : bm < n := by omega
  have ha1b : a < a1 ∧ a1 ≤ bm + 1 := by omega
  have ha1c : a1 ≤ 60000 := by omega
  have Hd1 := hide hd1
  clear h hbm hR ha1 hd1
  go_enter Try.func65, Try.ntmps65
  go_upto_region 1 with fail
  go_cut [] from 11 to 24 (fun wx => St w wx g n (swp d a p))
  case first =>
    have hDs : d.size = n := HS.out.sz
    by_cases hxy : a = p
    · have c1 := HS.out.dt.cell (j := a) (by omega)
      have z1 := HS.out.dt.frozen a
      have hS2 := HS.out.swap (i := a) (j := p) 1 (by omega) (by omega)
      rw [← hxy] at hS2
      obtain ⟨vx, hvx⟩ : ∃ v, v = d[a]! := ⟨_, rfl⟩
      rw [← hvx] at c1 hS2
      have HS2 := hide hS2
      have Hxy := hide hxy
      clear hvx hS2 hDs
      subst hxy
      go_region
      all_goals
        go_wp2_with fail
        go_meet
        case rel => exact HS2.out
    · have c1 := HS.out.dt.cell (j := a) (by omega)
      have c2 := HS.out.dt.cell (j := p) (by omega)
      have z1 := HS.out.dt.frozen a
      have z2 := HS.out.dt.frozen p
      have hyx : ¬ p = a := fun e => hxy e.symm
      have hS2 := HS.out.swap (i := a) (j := p) 1 (by omega) (by omega)
      obtain ⟨vx, hvx⟩ : ∃ v, v = d[a]! := ⟨_, rfl⟩
      obtain ⟨vy, hvy⟩ : ∃ v, v = d[p]! := ⟨_, rfl⟩
      rw [← hvx] at c1 hS2
      rw [← hvy] at c2 hS2
      have HS2 := hide hS2
      clear hvx hvy hS2 hDs
      go_region
      all_goals
        go_wp2_with fail
        go_meet
        case rel => exact HS2.out
  case rest =>
  have HS2 := hide hcut
  clear hcut
  rw [← Hd1.out] at HS2
  go_wp2_with fail
  go_loopw [9, 10] (fun v9 v10 wr => ∃ (i0 j0 : Nat) (d3 : Array Int), v9 = .int .i64 (i0 : Int) ∧ v10 = .int .i64 (j0 : Int) ∧ a < i0 ∧ i0 ≤ j0 + 1 ∧ j0 ≤ bm ∧ Hid (St w wr g n d3) ∧ Hid (partEqLoop ltInt a i0 j0 d3 = R)) (fun v9 v10 _ => (intOf v10 + 1 - intOf v9).toNat)
  case atStart => exact ⟨a1, bm, _, by go_num, by go_num, ha1b.1, ha1b.2, Nat.le_refl _, HS2.out, HTT.out⟩
  case round =>
    obtain ⟨i0, j0, d3, rfl, rfl, ha0, hij0, hj0, HS, HLP⟩ := hrel
    obtain ⟨I2, hI2⟩ : ∃ I2, I2 = scanUp (fun x => !ltInt d3[a]! x) d3 j0 i0 := ⟨_, rfl⟩
    obtain ⟨J2, hJ2⟩ : ∃ J2, J2 = scanDown (fun x => ltInt d3[a]! x) d3 I2 j0 := ⟨_, rfl⟩
    obtain ⟨s1, s2, s3, s4, s5⟩ := two_scans (fun x => !ltInt d3[a]! x) (fun x => ltInt d3[a]! x) (fun x => by simp) d3 i0 j0 hij0 (by omega)
    rw [← hI2] at s1 s2 s3 s4 s5
    rw [← hJ2] at s3 s4 s5
    have HLP2 := HLP.out
    rw [Go.Sort.partEqLoop_eq, ← hI2, ← hJ2] at HLP2
    have HL5 := hide HLP2
    have HI2 := hide hI2.symm
    have HJ2 := hide hJ2.symm
    have Hs := hide (And.intro s1 (And.intro s2 (And.intro s3 (And.intro s4 s5))))
    have hj0n : j0 < n := by omega
    have hmeas0 : j0 ≤ 60000 := by omega
    clear HLP HLP2 hI2 hJ2 s1 s2 s3 s4 s5
    obtain ⟨va, hva⟩ : ∃ v, v = d3[a]! := ⟨_, rfl⟩
    have Hva := hide hva
    clear hva
    have HT := HI2
    go_upto_block 2 with fail
    go_cut [9] from 29 to 45 (fun v wx => v = .int .i64 (I2 : Int) ∧ St w wx g n d3)
    case first =>
      go_wp2_with fail
      go_loopw [9] (fun v wr => ∃ i : Nat, v = .int .i64 (i : Int) ∧ i0 ≤ i ∧ i ≤ j0 + 1 ∧ Hid (St w wr g n d3) ∧ Hid (Go.Sort.scanUp (fun x => !ltInt d3[a]! x) d3 j0 i = I2)) (fun v _ => j0 + 1 - (intOf v).toNat)
      case atStart => exact ⟨i0, rfl, Nat.le_refl _, hij0, HS.out, HT.out⟩
      case round =>
        obtain ⟨i, rfl, hi1, hi2, HS, HL⟩ := hrel
        by_cases hle : i ≤ j0
        · have hlei : (i : Int) ≤ (j0 : Int) := by omega
          have hin : i < n := by omega
          have hini : (i : Int) < (n : Int) := by omega
          have c1 := HS.out.dt.cell (j := i) (by have := HS.out.sz; omega)
          have c2 := HS.out.dt.cell (j := a) (by have := HS.out.sz; omega)
          obtain ⟨vx, hvx⟩ : ∃ v, v = d3[i]! := ⟨_, rfl⟩
          rw [← hvx] at c1
          rw [← Hva.out] at c2
          have Hvx := hide hvx
          clear hvx
          go_wp2_with fail
          go_quiet ((go_at_call 64; exact Calls.quiet_of_same (less_c _ _ _)))
          have HS2 := hide (HS.out.drewN nq)
          generalize wr.drewN nq = w5 at HS2 ⊢
          clear c1 c2
          generalize hL : decide (va < vx) = L
          cases L with
          | false =>
            have e0 : ltInt va vx = false := hL
            clear hL
            have HL2 : Hid (Go.Sort.scanUp (fun x => !ltInt d3[a]! x) d3 j0 (i + 1) = I2) := by
              have := HL.out
              rw [Go.Sort.scanUp, if_pos (by rw [← Hvx.out, ← Hva.out, e0]; simp; omega)] at this
              exact this
            go_wp2_with fail
            go_roundw
            case rel => exact ⟨i + 1, by go_num, by omega, by omega, HS2.out, HL2.out⟩
            case measure => simp [intOf]; omega
          | true =>
            have e0 : ltInt va vx = true := hL
            have e : i = I2 := by
              have := HL.out
              rw [Go.Sort.scanUp, if_neg (by rw [← Hvx.out, ← Hva.out, e0]; simp)] at this
              exact this
            subst e
            clear hL
            go_wp2_with fail
            go_meet
            case rel => exact ⟨rfl, HS2.out⟩
        · have hlei : ¬ (i : Int) ≤ (j0 : Int) := by omega
          have e : i = I2 := by
            have := HL.out
            rw [Go.Sort.scanUp, if_neg (by simp; omega)] at this
            exact this
          subst e
          go_wp2_with fail
          go_quiet (fail)
          have HS2 := hide (HS.out.drewN nq)
          generalize wr.drewN nq = w5 at HS2 ⊢
          go_wp2_with fail
          go_meet
          case rel => exact ⟨rfl, HS2.out⟩
    case rest =>
    have hcut2 := hcut
    clear hcut
    obtain ⟨rfl, hS0⟩ := hcut2
    have HS := hide hS0
    clear hS0
    have HT := HJ2
    obtain ⟨s1, s2, s3, s4, s5⟩ := Hs.out
    go_upto_block 4 with fail
    go_cut [10] from 46 to 61 (fun v wx => v = .int .i64 (J2 : Int) ∧ St w wx g n d3)
    case first =>
      go_wp2_with fail
      go_loopw [10] (fun v wr => ∃ i : Nat, v = .int .i64 (i : Int) ∧ I2 ≤ i + 1 ∧ i ≤ j0 ∧ Hid (St w wr g n d3) ∧ Hid (Go.Sort.scanDown (fun x => ltInt d3[a]! x) d3 I2 i = J2)) (fun v _ => (intOf v).toNat)
      case atStart => exact ⟨j0, rfl, s2, Nat.le_refl _, HS.out, HT.out⟩
      case round =>
        obtain ⟨i, rfl, hi1, hi2, HS, HL⟩ := hrel
        by_cases hle : I2 ≤ i
        · have hlei : (I2 : Int) ≤ (i : Int) := by omega
          have hin : i < n := by omega
          have hini : (i : Int) < (n : Int) := by omega
          have c1 := HS.out.dt.cell (j := i) (by have := HS.out.sz; omega)
          have c2 := HS.out.dt.cell (j := a) (by have := HS.out.sz; omega)
          obtain ⟨vx, hvx⟩ : ∃ v, v = d3[i]! := ⟨_, rfl⟩
          rw [← hvx] at c1
          rw [← Hva.out] at c2
          have Hvx := hide hvx
          clear hvx
          go_wp2_with fail
          go_quiet ((go_at_call 64; exact Calls.quiet_of_same (less_c _ _ _)))
          have HS2 := hide (HS.out.drewN nq)
          generalize wr.drewN nq = w5 at HS2 ⊢
          clear c1 c2
          generalize hL : decide (va < vx) = L
          cases L with
          | true =>
            have e0 : ltInt va vx = true := hL
            clear hL
            obtain ⟨k, hk⟩ : ∃ k, i = k + 1 := ⟨i - 1, by omega⟩
            have hki : (i : Int) - 1 = (k : Int) := by omega
            have HL2 : Hid (Go.Sort.scanDown (fun x => ltInt d3[a]! x) d3 I2 k = J2) := by
              have := HL.out
              rw [hk, Go.Sort.scanDown, ← hk, if_pos (by rw [← Hvx.out, ← Hva.out, e0]; simp; omega)] at this
              exact this
            have Hk := hide hk
            have hk1 : I2 ≤ k + 1 := by omega
            have hk2 : k ≤ j0 := by omega
            have hk3 : k < i := by omega
            clear hk
            go_wp2_with fail
            go_roundw
            case rel => exact ⟨k, by go_num, hk1, hk2, HS2.out, HL2.out⟩
            case measure => simp [intOf]; omega
          | false =>
            have e0 : ltInt va vx = false := hL
            obtain ⟨k, hk⟩ : ∃ k, i = k + 1 := ⟨i - 1, by omega⟩
            have e : i = J2 := by
              have := HL.out
              rw [hk, Go.Sort.scanDown, ← hk, if_neg (by rw [← Hvx.out, ← Hva.out, e0]; simp)] at this
              exact this
            clear hk
            subst e
            clear hL
            go_wp2_with fail
            go_meet
            case rel => exact ⟨rfl, HS2.out⟩
        · have hlei : ¬ (I2 : Int) ≤ (i : Int) := by omega
          have e : i = J2 := by
            have := HL.out
            rcases Nat.eq_zero_or_pos i with h0 | h0
            · rw [h0, Go.Sort.scanDown] at this
              rw [h0]; exact this
            obtain ⟨k, hk⟩ : ∃ k, i = k + 1 := ⟨i - 1, by omega⟩
            rw [hk, Go.Sort.scanDown, ← hk, if_neg (by simp; omega)] at this
            exact this
          subst e
          go_wp2_with fail
          go_quiet (fail)
          have HS2 := hide (HS.out.drewN nq)
          generalize wr.drewN nq = w5 at HS2 ⊢
          go_wp2_with fail
          go_meet
          case rel => exact ⟨rfl, HS2.out⟩
    case rest =>
    have hcut2 := hcut
    clear hcut
    obtain ⟨rfl, hS0⟩ := hcut2
    have HS := hide hS0
    clear hS0
    by_cases hgt2 : J2 < I2
    · have hgti2 : (J2 : Int) < (I2 : Int) := by omega
      have HT2 := HL5.out
      rw [if_pos hgt2] at HT2
      have HR4 := hide HT2.symm
      clear HT2 s1 s2 s3 s4 s5
      go_wp2_with fail
      rw [HR4.out]
      go_ret
      exact ⟨rfl, HS.out⟩
    · have hgti2 : ¬ (J2 : Int) < (I2 : Int) := by omega
      have hlt2 := s5 (by omega)
      have hI2n : I2 < n := by omega
      have hJ2n : J2 < n := by omega
      have hI2in : (I2 : Int) < (n : Int) := by omega
      have hJ2in : (J2 : Int) < (n : Int) := by omega
      have HT2 := HL5.out
      rw [if_neg hgt2] at HT2
      obtain ⟨I3, hI3⟩ : ∃ I3, I3 = I2 + 1 := ⟨_, rfl⟩
      obtain ⟨J3, hJ3⟩ : ∃ J3, J3 = J2 - 1 := ⟨_, rfl⟩
      have hI3i : (I2 : Int) + 1 = (I3 : Int) := by omega
      have hJ3i : (J2 : Int) - 1 = (J3 : Int) := by omega
      rw [← hI3, ← hJ3] at HT2
      have HT3 := hide HT2
      have hbb : a < I3 ∧ I3 ≤ J3 + 1 ∧ J3 ≤ bm ∧ J3 + 1 - I3 < j0 + 1 - i0 := by omega
      have hne2 : Hid (¬ I2 = J2) := by show ¬ I2 = J2; omega
      clear HT2 s1 s2 s3 s4 s5 hI3 hJ3 hlt2
      go_upto_region 8 with fail
      go_cut [] from 65 to 78 (fun wx => St w wx g n (swp d3 I2 J2))
      case first =>
        have hDs : d3.size = n := HS.out.sz
        have hxy : ¬ I2 = J2 := hne2.out
        have c1 := HS.out.dt.cell (j := I2) (by omega)
        have c2 := HS.out.dt.cell (j := J2) (by omega)
        have z1 := HS.out.dt.frozen I2
        have z2 := HS.out.dt.frozen J2
        have hyx : ¬ J2 = I2 := fun e => hxy e.symm
        have hS2 := HS.out.swap (i := I2) (j := J2) 1 (by omega) (by omega)
        obtain ⟨vx, hvx⟩ : ∃ v, v = d3[I2]! := ⟨_, rfl⟩
        obtain ⟨vy, hvy⟩ : ∃ v, v = d3[J2]! := ⟨_, rfl⟩
        rw [← hvx] at c1 hS2
        rw [← hvy] at c2 hS2
        have HS2 := hide hS2
        clear hvx hvy hS2 hDs
        go_region
        all_goals
          go_wp2_with fail
          go_meet
          case rel => exact HS2.out

      case rest =>
        have HS2 := hide hcut
        clear hcut
        go_wp2_with fail
        go_roundw
        case rel => exact ⟨I3, J3, _, rfl, rfl, hbb.1, hbb.2.1, hbb.2.2.1, HS2.out, HT3.out⟩
        case measure => simp [intOf]; omega
end Go.Proofs.Ythdilabmajaehaa
