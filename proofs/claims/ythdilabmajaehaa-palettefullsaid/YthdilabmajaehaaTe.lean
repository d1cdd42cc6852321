/-
  sort: partition.
-/
import Derived.Test.YthdilabmajaehaaTd
namespace Go.Proofs.Ythdilabmajaehaa
open Go.RowKit
open Go.Sort (swp PermIn SortedIn SWO swp_get swp_size swp_permIn permIn_refl permIn_trans permIn_mono permIn_all Ins ltInt swo_ltInt)

open Go.Sort (partition partLoop scanUp scanDown)

theorem two_scans (p q : Int → Bool) (hq : ∀ x, q x = !p x) (d : Array Int) (i j : Nat) (hij : i ≤ j + 1) (hi : 1 ≤ i) :
    i ≤ scanUp p d j i ∧ scanUp p d j i ≤ j + 1 ∧ scanDown q d (scanUp p d j i) j ≤ j ∧ scanUp p d j i ≤ scanDown q d (scanUp p d j i) j + 1 ∧
    (scanUp p d j i ≤ scanDown q d (scanUp p d j i) j → scanUp p d j i < scanDown q d (scanUp p d j i) j) := by
  obtain ⟨u1, u2, u3, u4⟩ := Go.Sort.scanUp_spec p d j _ i rfl
  obtain ⟨v1, v2, v3, v4⟩ := Go.Sort.scanDown_spec q d (scanUp p d j i) j
  have hu := u2 hij
  refine ⟨u1, hu, v1, v2 hu, fun h => ?_⟩
  have f1 := u4 (by omega)
  have f2 := v4 h (by omega)
  rcases Nat.lt_or_ge (scanUp p d j i) (scanDown q d (scanUp p d j i) j) with h2 | h2
  · exact h2
  · have e : scanUp p d j i = scanDown q d (scanUp p d j i) j := by omega
    rw [← e, hq, f1] at f2
    cases f2

set_option maxHeartbeats 2000000 in
set_option maxRecDepth 100000 in
theorem partition_c (g n a b p : Nat) (d : Array Int) (w : World) (h : St w w g n d) (hn : n ≤ 60000) (hab : a + 1 < b) (hap : a ≤ p) (hpb : p < b) (hb : b ≤ n) :
    Calls Try.prog 66 #[.slice (some ⟨g, 0, none⟩) n n, .int .i64 (a : Int), .int .i64 (b : Int), .int .i64 (p : Int)] w fun e w' => e = .returned (.tuple #[.int .i64 ((partition ltInt d a b p).1 : Int), .bool (partition ltInt d a b p).2.1]) ∧ St w w' g n (partition ltInt d a b p).2.2 := by
  have HS := hide h
  obtain ⟨bm, hbm⟩ : ∃ bm, bm = b - 1 := ⟨_, rfl⟩
  have hbmi : (b : Int) - 1 = (bm : Int) := by omega
  obtain ⟨d1, hd1⟩ : ∃ d1, d1 = swp d a p := ⟨_, rfl⟩
  obtain ⟨I, hI⟩ : ∃ I, I = scanUp (fun x => ltInt x d1[a]!) d1 bm (a + 1) := ⟨_, rfl⟩
  obtain ⟨J, hJ⟩ : ∃ J, J = scanDown (fun x => !ltInt x d1[a]!) d1 I bm := ⟨_, rfl⟩
  obtain ⟨R, hR⟩ : ∃ R, R = partition ltInt d a b p := ⟨_, rfl⟩
  rw [← hR]
  have hR2 : R = if I > J then (J, true, swp d1 J a) else ((partLoop ltInt a (I + 1) (J - 1) (swp d1 I J)).1, false, swp (partLoop ltInt a (I + 1) (J - 1) (swp d1 I J)).2 (partLoop ltInt a (I + 1) (J - 1) (swp d1 I J)).1 a) := by
    rw [hR, hJ, hI, hd1, hbm]
    rfl
  obtain ⟨rf1, rf2, rf3, rf4, rf7⟩ := two_scans (fun x => ltInt x d1[a]!) (fun x => !ltInt x d1[a]!) (fun _ => rfl) d1 (a + 1) bm (by omega) (by omega)
  rw [← hI] at rf1 rf2 rf3 rf4 rf7
  rw [← hJ] at rf3 rf4 rf7
  have HIJ : Hid (a + 1 ≤ I ∧ I ≤ bm + 1 ∧ J ≤ bm ∧ I ≤ J + 1 ∧ bm + 1 = b) := ⟨rf1, rf2, rf3, rf4, by omega⟩
  have HIJ2 : Hid (I ≤ J → I < J) := rf7
  have HI := hide hI.symm
  have HJ := hide hJ.symm
  have HR := hide hR2
  have han : a < n := by omega
  have hpn : p < n := by omega
  have hain : (a : Int) < (n : Int) := by omega
  have hpin : (p : Int) < (n : Int) := by omega
  have hbmn : bm < n := by omega
  have hamb : a + 1 ≤ bm + 1 := by omega
  have hb1 : ((a : Int) + 1) = ((a + 1 : Nat) : Int) := by omega
  obtain ⟨a1, ha1⟩ : ∃ a1, a1 = a + 1 := ⟨_, rfl⟩
  rw [← ha1] at hb1 HI hamb
  have ha1b : a1 ≤ 60000 := by omega
  have Ha1 := hide ha1
  have Hd1 := hide hd1
  clear h hbm hI hJ hR hR2 rf1 rf2 rf3 rf4 rf7 ha1 hd1
  go_enter Try.func66, Try.ntmps66
  go_upto_region 1 with fail
  go_cut [] from 12 to 25 (fun wx => St w wx g n (swp d a p))
  case first =>
    have hDs : d.size = n := HS.out.sz
    by_cases hxy : a = p
    · have c1 := HS.out.dt.cell (j := a) (by omega)
      have z1 := HS.out.dt.frozen a
      have hS2 := HS.out.swap (i := a) (j := p) 1 (by omega) (by omega)
      rw [← hxy] at hS2
      obtain ⟨vx, hvx⟩ : ∃ v, v = d[a]! := ⟨_, rfl⟩
      rw [← hvx] at c1 hS2
      have HS2 := hide hS2
      have Hxy := hide hxy
      clear hvx hS2 hDs
      subst hxy
      go_region
      all_goals
        go_wp2_with fail
        go_meet
        case rel => exact HS2.out
    · have c1 := HS.out.dt.cell (j := a) (by omega)
      have c2 := HS.out.dt.cell (j := p) (by omega)
      have z1 := HS.out.dt.frozen a
      have z2 := HS.out.dt.frozen p
      have hyx : ¬ p = a := fun e => hxy e.symm
      have hS2 := HS.out.swap (i := a) (j := p) 1 (by omega) (by omega)
      obtain ⟨vx, hvx⟩ : ∃ v, v = d[a]! := ⟨_, rfl⟩
      obtain ⟨vy, hvy⟩ : ∃ v, v = d[p]! := ⟨_, rfl⟩
      rw [← hvx] at c1 hS2
      rw [← hvy] at c2 hS2
      have HS2 := hide hS2
      clear hvx hvy hS2 hDs
      go_region
      all_goals
        go_wp2_with fail
        go_meet
        case rel => exact HS2.out
  case rest =>
  have HS := hide hcut
  clear hcut
  rw [← Hd1.out] at HS
  obtain ⟨va, hva⟩ : ∃ v, v = d1[a]! := ⟨_, rfl⟩
  have Hva := hide hva
  clear hva
  have HT := HI
  go_upto_block 0 with fail
  go_cut [10] from 30 to 45 (fun v wx => v = .int .i64 (I : Int) ∧ St w wx g n d1)
  case first =>
    go_wp2_with fail
    go_loopw [10] (fun v wr => ∃ i : Nat, v = .int .i64 (i : Int) ∧ a1 ≤ i ∧ i ≤ bm + 1 ∧ Hid (St w wr g n d1) ∧ Hid (Go.Sort.scanUp (fun x => ltInt x d1[a]!) d1 bm i = I)) (fun v _ => bm + 1 - (intOf v).toNat)
    case atStart => exact ⟨a1, rfl, Nat.le_refl _, hamb, HS.out, HT.out⟩
    case round =>
      obtain ⟨i, rfl, hi1, hi2, HS, HL⟩ := hrel
      by_cases hle : i ≤ bm
      · have hlei : (i : Int) ≤ (bm : Int) := by omega
        have hin : i < n := by omega
        have hini : (i : Int) < (n : Int) := by omega
        have c1 := HS.out.dt.cell (j := i) (by have := HS.out.sz; omega)
        have c2 := HS.out.dt.cell (j := a) (by have := HS.out.sz; omega)
        obtain ⟨vx, hvx⟩ : ∃ v, v = d1[i]! := ⟨_, rfl⟩
        rw [← hvx] at c1
        rw [← Hva.out] at c2
        have Hvx := hide hvx
        clear hvx
        go_wp2_with fail
        go_quiet ((go_at_call 64; exact Calls.quiet_of_same (less_c _ _ _)))
        have HS2 := hide (HS.out.drewN nq)
        generalize wr.drewN nq = w5 at HS2 ⊢
        clear c1 c2
        generalize hL : decide (vx < va) = L
        cases L with
        | true =>
          have e0 : ltInt vx va = true := hL
          clear hL
          have HL2 : Hid (Go.Sort.scanUp (fun x => ltInt x d1[a]!) d1 bm (i + 1) = I) := by
            have := HL.out
            rw [Go.Sort.scanUp, if_pos (by rw [← Hvx.out, ← Hva.out, e0]; simp; omega)] at this
            exact this
          go_wp2_with fail
          go_roundw
          case rel => exact ⟨i + 1, by go_num, by omega, by omega, HS2.out, HL2.out⟩
          case measure => simp [intOf]; omega
        | false =>
          have e0 : ltInt vx va = false := hL
          have e : i = I := by
            have := HL.out
            rw [Go.Sort.scanUp, if_neg (by rw [← Hvx.out, ← Hva.out, e0]; simp)] at this
            exact this
          subst e
          clear hL
          go_wp2_with fail
          go_meet
          case rel => exact ⟨rfl, HS2.out⟩
      · have hlei : ¬ (i : Int) ≤ (bm : Int) := by omega
        have e : i = I := by
          have := HL.out
          rw [Go.Sort.scanUp, if_neg (by simp; omega)] at this
          exact this
        subst e
        go_wp2_with fail
        go_quiet (fail)
        have HS2 := hide (HS.out.drewN nq)
        generalize wr.drewN nq = w5 at HS2 ⊢
        go_wp2_with fail
        go_meet
        case rel => exact ⟨rfl, HS2.out⟩
  case rest =>
  have hcut2 := hcut
  clear hcut
  obtain ⟨rfl, hS0⟩ := hcut2
  have HS := hide hS0
  clear hS0
  have HT := HJ
  have hIJ := HIJ.out
  obtain ⟨hij1, hij2, hij3, hij4, hij5⟩ := hIJ
  go_upto_block 2 with fail
  go_cut [11] from 46 to 62 (fun v wx => v = .int .i64 (J : Int) ∧ St w wx g n d1)
  case first =>
    go_wp2_with fail
    go_loopw [11] (fun v wr => ∃ i : Nat, v = .int .i64 (i : Int) ∧ I ≤ i + 1 ∧ i ≤ bm ∧ Hid (St w wr g n d1) ∧ Hid (Go.Sort.scanDown (fun x => !ltInt x d1[a]!) d1 I i = J)) (fun v _ => (intOf v).toNat)
    case atStart => exact ⟨bm, rfl, hij2, Nat.le_refl _, HS.out, HT.out⟩
    case round =>
      obtain ⟨i, rfl, hi1, hi2, HS, HL⟩ := hrel
      by_cases hle : I ≤ i
      · have hlei : (I : Int) ≤ (i : Int) := by omega
        have hin : i < n := by omega
        have hini : (i : Int) < (n : Int) := by omega
        have c1 := HS.out.dt.cell (j := i) (by have := HS.out.sz; omega)
        have c2 := HS.out.dt.cell (j := a) (by have := HS.out.sz; omega)
        obtain ⟨vx, hvx⟩ : ∃ v, v = d1[i]! := ⟨_, rfl⟩
        rw [← hvx] at c1
        rw [← Hva.out] at c2
        have Hvx := hide hvx
        clear hvx
        go_wp2_with fail
        go_quiet ((go_at_call 64; exact Calls.quiet_of_same (less_c _ _ _)))
        have HS2 := hide (HS.out.drewN nq)
        generalize wr.drewN nq = w5 at HS2 ⊢
        clear c1 c2
        generalize hL : decide (vx < va) = L
        cases L with
        | false =>
          have e0 : ltInt vx va = false := hL
          clear hL
          obtain ⟨k, hk⟩ : ∃ k, i = k + 1 := ⟨i - 1, by omega⟩
          have hki : (i : Int) - 1 = (k : Int) := by omega
          have HL2 : Hid (Go.Sort.scanDown (fun x => !ltInt x d1[a]!) d1 I k = J) := by
            have := HL.out
            rw [hk, Go.Sort.scanDown, ← hk, if_pos (by rw [← Hvx.out, ← Hva.out, e0]; simp; omega)] at this
            exact this
          have Hk := hide hk
          have hk1 : I ≤ k + 1 := by omega
          have hk2 : k ≤ bm := by omega
          have hk3 : k < i := by omega
          clear hk
          go_wp2_with fail
          go_roundw
          case rel => exact ⟨k, by go_num, hk1, hk2, HS2.out, HL2.out⟩
          case measure => simp [intOf]; omega
        | true =>
          have e0 : ltInt vx va = true := hL
          obtain ⟨k, hk⟩ : ∃ k, i = k + 1 := ⟨i - 1, by omega⟩
          have e : i = J := by
            have := HL.out
            rw [hk, Go.Sort.scanDown, ← hk, if_neg (by rw [← Hvx.out, ← Hva.out, e0]; simp)] at this
            exact this
          clear hk
          subst e
          clear hL
          go_wp2_with fail
          go_meet
          case rel => exact ⟨rfl, HS2.out⟩
      · have hlei : ¬ (I : Int) ≤ (i : Int) := by omega
        have e : i = J := by
          have := HL.out
          rcases Nat.eq_zero_or_pos i with h0 | h0
          · rw [h0, Go.Sort.scanDown] at this
            rw [h0]; exact this
          obtain ⟨k, hk⟩ : ∃ k, i = k + 1 := ⟨i - 1, by omega⟩
          rw [hk, Go.Sort.scanDown, ← hk, if_neg (by simp; omega)] at this
          exact this
        subst e
        go_wp2_with fail
        go_quiet (fail)
        have HS2 := hide (HS.out.drewN nq)
        generalize wr.drewN nq = w5 at HS2 ⊢
        go_wp2_with fail
        go_meet
        case rel => exact ⟨rfl, HS2.out⟩
  case rest =>
  have hcut2 := hcut
  clear hcut
  obtain ⟨rfl, hS0⟩ := hcut2
  have HS := hide hS0
  clear hS0
  by_cases hgt : J < I
  · have hgti : (J : Int) < (I : Int) := by omega
    have hJn : J < n := by omega
    have hJin : (J : Int) < (n : Int) := by omega
    have HR2 := hide (HR.out.trans (if_pos hgt))
    clear hij1 hij2 hij3 hij4 hij5
    go_upto_region 8 with fail
    go_cut [] from 66 to 79 (fun wx => St w wx g n (swp d1 J a))
    case first =>
      have hDs : d1.size = n := HS.out.sz
      by_cases hxy : J = a
      · have c1 := HS.out.dt.cell (j := J) (by omega)
        have z1 := HS.out.dt.frozen J
        have hS2 := HS.out.swap (i := J) (j := a) 1 (by omega) (by omega)
        rw [← hxy] at hS2
        obtain ⟨vx, hvx⟩ : ∃ v, v = d1[J]! := ⟨_, rfl⟩
        rw [← hvx] at c1 hS2
        have HS2 := hide hS2
        have Hxy := hide hxy
        clear hvx hS2 hDs
        subst hxy
        go_region
        all_goals
          go_wp2_with fail
          go_meet
          case rel => exact HS2.out
      · have c1 := HS.out.dt.cell (j := J) (by omega)
        have c2 := HS.out.dt.cell (j := a) (by omega)
        have z1 := HS.out.dt.frozen J
        have z2 := HS.out.dt.frozen a
        have hyx : ¬ a = J := fun e => hxy e.symm
        have hS2 := HS.out.swap (i := J) (j := a) 1 (by omega) (by omega)
        obtain ⟨vx, hvx⟩ : ∃ v, v = d1[J]! := ⟨_, rfl⟩
        obtain ⟨vy, hvy⟩ : ∃ v, v = d1[a]! := ⟨_, rfl⟩
        rw [← hvx] at c1 hS2
        rw [← hvy] at c2 hS2
        have HS2 := hide hS2
        clear hvx hvy hS2 hDs
        go_region
        all_goals
          go_wp2_with fail
          go_meet
          case rel => exact HS2.out

    case rest =>
      have HS2 := hide hcut
      clear hcut
      go_wp2_with fail
      rw [HR2.out]
      go_ret2
      exact ⟨rfl, HS2.out⟩
  · have hgti : ¬ (J : Int) < (I : Int) := by omega
    have hIn : I < n := by omega
    have hJn : J < n := by omega
    have hIin : (I : Int) < (n : Int) := by omega
    have hJin : (J : Int) < (n : Int) := by omega
    obtain ⟨T, hT⟩ : ∃ T, T = partLoop ltInt a (I + 1) (J - 1) (swp d1 I J) := ⟨_, rfl⟩
    have HR2 := HR.out.trans (if_neg hgt)
    rw [← hT] at HR2
    have HR3 := hide HR2
    obtain ⟨I1, hI1⟩ : ∃ I1, I1 = I + 1 := ⟨_, rfl⟩
    obtain ⟨J1, hJ1⟩ : ∃ J1, J1 = J - 1 := ⟨_, rfl⟩
    have hI1i : (I : Int) + 1 = (I1 : Int) := by omega
    have hJ1i : (J : Int) - 1 = (J1 : Int) := by omega
    have HTT : Hid (partLoop ltInt a I1 J1 (swp d1 I J) = T) := by rw [hT, hI1, hJ1]; exact rfl
    have hIJlt := HIJ2.out (by omega)
    have hI1b : a < I1 ∧ I1 ≤ J1 + 1 ∧ J1 ≤ bm := by omega
    clear hIJlt
    clear HR2 hT hI1 hJ1 hij1 hij2 hij3 hij4 hij5
    go_upto_region 10 with fail
    go_cut [] from 81 to 94 (fun wx => St w wx g n (swp d1 I J))
    case first =>
      have hDs : d1.size = n := HS.out.sz
      by_cases hxy : I = J
      · have c1 := HS.out.dt.cell (j := I) (by omega)
        have z1 := HS.out.dt.frozen I
        have hS2 := HS.out.swap (i := I) (j := J) 1 (by omega) (by omega)
        rw [← hxy] at hS2
        obtain ⟨vx, hvx⟩ : ∃ v, v = d1[I]! := ⟨_, rfl⟩
        rw [← hvx] at c1 hS2
        have HS2 := hide hS2
        have Hxy := hide hxy
        clear hvx hS2 hDs
        subst hxy
        go_region
        all_goals
          go_wp2_with fail
          go_meet
          case rel => exact HS2.out
      · have c1 := HS.out.dt.cell (j := I) (by omega)
        have c2 := HS.out.dt.cell (j := J) (by omega)
        have z1 := HS.out.dt.frozen I
        have z2 := HS.out.dt.frozen J
        have hyx : ¬ J = I := fun e => hxy e.symm
        have hS2 := HS.out.swap (i := I) (j := J) 1 (by omega) (by omega)
        obtain ⟨vx, hvx⟩ : ∃ v, v = d1[I]! := ⟨_, rfl⟩
        obtain ⟨vy, hvy⟩ : ∃ v, v = d1[J]! := ⟨_, rfl⟩
        rw [← hvx] at c1 hS2
        rw [← hvy] at c2 hS2
        have HS2 := hide hS2
        clear hvx hvy hS2 hDs
        go_region
        all_goals
          go_wp2_with fail
          go_meet
          case rel => exact HS2.out

    case rest =>
      have HS2 := hide hcut
      clear hcut
      go_wp2_with fail
      go_loopw [10, 11] (fun v10 v11 wr => ∃ (i0 j0 : Nat) (d3 : Array Int), v10 = .int .i64 (i0 : Int) ∧ v11 = .int .i64 (j0 : Int) ∧ a < i0 ∧ i0 ≤ j0 + 1 ∧ j0 ≤ bm ∧ Hid (St w wr g n d3) ∧ Hid (partLoop ltInt a i0 j0 d3 = T)) (fun v10 v11 _ => (intOf v11 + 1 - intOf v10).toNat)
      case atStart => exact ⟨I1, J1, _, by go_num, by go_num, hI1b.1, hI1b.2.1, hI1b.2.2, HS2.out, HTT.out⟩
      case round =>
        obtain ⟨i0, j0, d3, rfl, rfl, ha0, hij0, hj0, HS, HLP⟩ := hrel
        obtain ⟨I2, hI2⟩ : ∃ I2, I2 = scanUp (fun x => ltInt x d3[a]!) d3 j0 i0 := ⟨_, rfl⟩
        obtain ⟨J2, hJ2⟩ : ∃ J2, J2 = scanDown (fun x => !ltInt x d3[a]!) d3 I2 j0 := ⟨_, rfl⟩
        obtain ⟨s1, s2, s3, s4, s5⟩ := two_scans (fun x => ltInt x d3[a]!) (fun x => !ltInt x d3[a]!) (fun _ => rfl) d3 i0 j0 hij0 (by omega)
        rw [← hI2] at s1 s2 s3 s4 s5
        rw [← hJ2] at s3 s4 s5
        have HLP2 := HLP.out
        rw [Go.Sort.partLoop_eq, ← hI2, ← hJ2] at HLP2
        have HL5 := hide HLP2
        have HI2 := hide hI2.symm
        have HJ2 := hide hJ2.symm
        have Hs := hide (And.intro s1 (And.intro s2 (And.intro s3 (And.intro s4 s5))))
        have hj0n : j0 < n := by omega
        have hmeas0 : j0 ≤ 60000 := by omega
        clear HLP HLP2 hI2 hJ2 s1 s2 s3 s4 s5
        obtain ⟨va, hva⟩ : ∃ v, v = d3[a]! := ⟨_, rfl⟩
        have Hva := hide hva
        clear hva
        have HT := HI2
        go_upto_block 6 with fail
        go_cut [10] from 99 to 114 (fun v wx => v = .int .i64 (I2 : Int) ∧ St w wx g n d3)
        case first =>
          go_wp2_with fail
          go_loopw [10] (fun v wr => ∃ i : Nat, v = .int .i64 (i : Int) ∧ i0 ≤ i ∧ i ≤ j0 + 1 ∧ Hid (St w wr g n d3) ∧ Hid (Go.Sort.scanUp (fun x => ltInt x d3[a]!) d3 j0 i = I2)) (fun v _ => j0 + 1 - (intOf v).toNat)
          case atStart => exact ⟨i0, rfl, Nat.le_refl _, hij0, HS.out, HT.out⟩
          case round =>
            obtain ⟨i, rfl, hi1, hi2, HS, HL⟩ := hrel
            by_cases hle : i ≤ j0
            · have hlei : (i : Int) ≤ (j0 : Int) := by omega
              have hin : i < n := by omega
              have hini : (i : Int) < (n : Int) := by omega
              have c1 := HS.out.dt.cell (j := i) (by have := HS.out.sz; omega)
              have c2 := HS.out.dt.cell (j := a) (by have := HS.out.sz; omega)
              obtain ⟨vx, hvx⟩ : ∃ v, v = d3[i]! := ⟨_, rfl⟩
              rw [← hvx] at c1
              rw [← Hva.out] at c2
              have Hvx := hide hvx
              clear hvx
              go_wp2_with fail
              go_quiet ((go_at_call 64; exact Calls.quiet_of_same (less_c _ _ _)))
              have HS2 := hide (HS.out.drewN nq)
              generalize wr.drewN nq = w5 at HS2 ⊢
              clear c1 c2
              generalize hL : decide (vx < va) = L
              cases L with
              | true =>
                have e0 : ltInt vx va = true := hL
                clear hL
                have HL2 : Hid (Go.Sort.scanUp (fun x => ltInt x d3[a]!) d3 j0 (i + 1) = I2) := by
                  have := HL.out
                  rw [Go.Sort.scanUp, if_pos (by rw [← Hvx.out, ← Hva.out, e0]; simp; omega)] at this
                  exact this
                go_wp2_with fail
                go_roundw
                case rel => exact ⟨i + 1, by go_num, by omega, by omega, HS2.out, HL2.out⟩
                case measure => simp [intOf]; omega
              | false =>
                have e0 : ltInt vx va = false := hL
                have e : i = I2 := by
                  have := HL.out
                  rw [Go.Sort.scanUp, if_neg (by rw [← Hvx.out, ← Hva.out, e0]; simp)] at this
                  exact this
                subst e
                clear hL
                go_wp2_with fail
                go_meet
                case rel => exact ⟨rfl, HS2.out⟩
            · have hlei : ¬ (i : Int) ≤ (j0 : Int) := by omega
              have e : i = I2 := by
                have := HL.out
                rw [Go.Sort.scanUp, if_neg (by simp; omega)] at this
                exact this
              subst e
              go_wp2_with fail
              go_quiet (fail)
              have HS2 := hide (HS.out.drewN nq)
              generalize wr.drewN nq = w5 at HS2 ⊢
              go_wp2_with fail
              go_meet
              case rel => exact ⟨rfl, HS2.out⟩
        case rest =>
        have hcut2 := hcut
        clear hcut
        obtain ⟨rfl, hS0⟩ := hcut2
        have HS := hide hS0
        clear hS0
        have HT := HJ2
        obtain ⟨s1, s2, s3, s4, s5⟩ := Hs.out
        go_upto_block 8 with fail
        go_cut [11] from 115 to 131 (fun v wx => v = .int .i64 (J2 : Int) ∧ St w wx g n d3)
        case first =>
          go_wp2_with fail
          go_loopw [11] (fun v wr => ∃ i : Nat, v = .int .i64 (i : Int) ∧ I2 ≤ i + 1 ∧ i ≤ j0 ∧ Hid (St w wr g n d3) ∧ Hid (Go.Sort.scanDown (fun x => !ltInt x d3[a]!) d3 I2 i = J2)) (fun v _ => (intOf v).toNat)
          case atStart => exact ⟨j0, rfl, s2, Nat.le_refl _, HS.out, HT.out⟩
          case round =>
            obtain ⟨i, rfl, hi1, hi2, HS, HL⟩ := hrel
            by_cases hle : I2 ≤ i
            · have hlei : (I2 : Int) ≤ (i : Int) := by omega
              have hin : i < n := by omega
              have hini : (i : Int) < (n : Int) := by omega
              have c1 := HS.out.dt.cell (j := i) (by have := HS.out.sz; omega)
              have c2 := HS.out.dt.cell (j := a) (by have := HS.out.sz; omega)
              obtain ⟨vx, hvx⟩ : ∃ v, v = d3[i]! := ⟨_, rfl⟩
              rw [← hvx] at c1
              rw [← Hva.out] at c2
              have Hvx := hide hvx
              clear hvx
              go_wp2_with fail
              go_quiet ((go_at_call 64; exact Calls.quiet_of_same (less_c _ _ _)))
              have HS2 := hide (HS.out.drewN nq)
              generalize wr.drewN nq = w5 at HS2 ⊢
              clear c1 c2
              generalize hL : decide (vx < va) = L
              cases L with
              | false =>
                have e0 : ltInt vx va = false := hL
                clear hL
                obtain ⟨k, hk⟩ : ∃ k, i = k + 1 := ⟨i - 1, by omega⟩
                have hki : (i : Int) - 1 = (k : Int) := by omega
                have HL2 : Hid (Go.Sort.scanDown (fun x => !ltInt x d3[a]!) d3 I2 k = J2) := by
                  have := HL.out
                  rw [hk, Go.Sort.scanDown, ← hk, if_pos (by rw [← Hvx.out, ← Hva.out, e0]; simp; omega)] at this
                  exact this
                have Hk := hide hk
                have hk1 : I2 ≤ k + 1 := by omega
                have hk2 : k ≤ j0 := by omega
                have hk3 : k < i := by omega
                clear hk
                go_wp2_with fail
                go_roundw
                case rel => exact ⟨k, by go_num, hk1, hk2, HS2.out, HL2.out⟩
                case measure => simp [intOf]; omega
              | true =>
                have e0 : ltInt vx va = true := hL
                obtain ⟨k, hk⟩ : ∃ k, i = k + 1 := ⟨i - 1, by omega⟩
                have e : i = J2 := by
                  have := HL.out
                  rw [hk, Go.Sort.scanDown, ← hk, if_neg (by rw [← Hvx.out, ← Hva.out, e0]; simp)] at this
                  exact this
                clear hk
                subst e
                clear hL
                go_wp2_with fail
                go_meet
                case rel => exact ⟨rfl, HS2.out⟩
            · have hlei : ¬ (I2 : Int) ≤ (i : Int) := by omega
              have e : i = J2 := by
                have := HL.out
                rcases Nat.eq_zero_or_pos i with h0 | h0
                · rw [h0, Go.Sort.scanDown] at this
                  rw [h0]; exact this
                obtain ⟨k, hk⟩ : ∃ k, i = k + 1 := ⟨i - 1, by omega⟩
                rw [hk, Go.Sort.scanDown, ← hk, if_neg (by simp; omega)] at this
                exact this
              subst e
              go_wp2_with fail
              go_quiet (fail)
              have HS2 := hide (HS.out.drewN nq)
              generalize wr.drewN nq = w5 at HS2 ⊢
              go_wp2_with fail
              go_meet
              case rel => exact ⟨rfl, HS2.out⟩
        case rest =>
        have hcut2 := hcut
        clear hcut
        obtain ⟨rfl, hS0⟩ := hcut2
        have HS := hide hS0
        clear hS0
        by_cases hgt2 : J2 < I2
        · have hgti2 : (J2 : Int) < (I2 : Int) := by omega
          have hJ2n : J2 < n := by omega
          have hJ2in : (J2 : Int) < (n : Int) := by omega
          have HT2 := HL5.out
          rw [if_pos hgt2] at HT2
          have HR4 : Hid (R = (J2, false, swp d3 J2 a)) := by
            have := HR3.out
            rw [← HT2] at this
            exact this
          clear HT2 s1 s2 s3 s4 s5
          go_upto_region 21 with fail
          go_cut [] from 154 to 166 (fun wx => St w wx g n (swp d3 J2 a))
          case first =>
            have hDs : d3.size = n := HS.out.sz
            by_cases hxy : J2 = a
            · have c1 := HS.out.dt.cell (j := J2) (by omega)
              have z1 := HS.out.dt.frozen J2
              have hS2 := HS.out.swap (i := J2) (j := a) 1 (by omega) (by omega)
              rw [← hxy] at hS2
              obtain ⟨vx, hvx⟩ : ∃ v, v = d3[J2]! := ⟨_, rfl⟩
              rw [← hvx] at c1 hS2
              have HS2 := hide hS2
              have Hxy := hide hxy
              clear hvx hS2 hDs
              subst hxy
              go_region
              all_goals
                go_wp2_with fail
                go_meet
                case rel => exact HS2.out
            · have c1 := HS.out.dt.cell (j := J2) (by omega)
              have c2 := HS.out.dt.cell (j := a) (by omega)
              have z1 := HS.out.dt.frozen J2
              have z2 := HS.out.dt.frozen a
              have hyx : ¬ a = J2 := fun e => hxy e.symm
              have hS2 := HS.out.swap (i := J2) (j := a) 1 (by omega) (by omega)
              obtain ⟨vx, hvx⟩ : ∃ v, v = d3[J2]! := ⟨_, rfl⟩
              obtain ⟨vy, hvy⟩ : ∃ v, v = d3[a]! := ⟨_, rfl⟩
              rw [← hvx] at c1 hS2
              rw [← hvy] at c2 hS2
              have HS2 := hide hS2
              clear hvx hvy hS2 hDs
              go_region
              all_goals
                go_wp2_with fail
                go_meet
                case rel => exact HS2.out

          case rest =>
            have HS2 := hide hcut
            clear hcut
            go_wp2_with fail
            rw [HR4.out]
            go_ret2
            exact ⟨rfl, HS2.out⟩
        · have hgti2 : ¬ (J2 : Int) < (I2 : Int) := by omega
          have hlt2 := s5 (by omega)
          have hI2n : I2 < n := by omega
          have hJ2n : J2 < n := by omega
          have hI2in : (I2 : Int) < (n : Int) := by omega
          have hJ2in : (J2 : Int) < (n : Int) := by omega
          have HT2 := HL5.out
          rw [if_neg hgt2] at HT2
          obtain ⟨I3, hI3⟩ : ∃ I3, I3 = I2 + 1 := ⟨_, rfl⟩
          obtain ⟨J3, hJ3⟩ : ∃ J3, J3 = J2 - 1 := ⟨_, rfl⟩
          have hI3i : (I2 : Int) + 1 = (I3 : Int) := by omega
          have hJ3i : (J2 : Int) - 1 = (J3 : Int) := by omega
          rw [← hI3, ← hJ3] at HT2
          have HT3 := hide HT2
          have hbb : a < I3 ∧ I3 ≤ J3 + 1 ∧ J3 ≤ bm ∧ J3 + 1 - I3 < j0 + 1 - i0 := by omega
          have hne2 : Hid (¬ I2 = J2) := by show ¬ I2 = J2; omega
          clear HT2 s1 s2 s3 s4 s5 hI3 hJ3 hlt2
          go_upto_region 18 with fail
          go_cut [] from 136 to 148 (fun wx => St w wx g n (swp d3 I2 J2))
          case first =>
            have hDs : d3.size = n := HS.out.sz
            have hxy : ¬ I2 = J2 := hne2.out
            have c1 := HS.out.dt.cell (j := I2) (by omega)
            have c2 := HS.out.dt.cell (j := J2) (by omega)
            have z1 := HS.out.dt.frozen I2
            have z2 := HS.out.dt.frozen J2
            have hyx : ¬ J2 = I2 := fun e => hxy e.symm
            have hS2 := HS.out.swap (i := I2) (j := J2) 1 (by omega) (by omega)
            obtain ⟨vx, hvx⟩ : ∃ v, v = d3[I2]! := ⟨_, rfl⟩
            obtain ⟨vy, hvy⟩ : ∃ v, v = d3[J2]! := ⟨_, rfl⟩
            rw [← hvx] at c1 hS2
            rw [← hvy] at c2 hS2
            have HS2 := hide hS2
            clear hvx hvy hS2 hDs
            go_region
            all_goals
              go_wp2_with fail
              go_meet
              case rel => exact HS2.out

          case rest =>
            have HS2 := hide hcut
            clear hcut
            go_wp2_with fail
            go_roundw
            case rel => exact ⟨I3, J3, _, rfl, rfl, hbb.1, hbb.2.1, hbb.2.2.1, HS2.out, HT3.out⟩
            case measure => simp [intOf]; omega
end Go.Proofs.Ythdilabmajaehaa
