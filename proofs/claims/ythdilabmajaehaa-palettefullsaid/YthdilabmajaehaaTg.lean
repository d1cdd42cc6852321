/-
  sort: by insertion, in part.
-/
import Derived.Test.YthdilabmajaehaaTf
namespace Go.Proofs.Ythdilabmajaehaa
open Go.RowKit
open Go.Sort (swp PermIn SortedIn SWO swp_get swp_size swp_permIn permIn_refl permIn_trans permIn_mono permIn_all Ins ltInt swo_ltInt)

open Go.Sort (partialIns partialInsertionSort scanSorted shiftDown shiftUp fixDown fixUp)

theorem scanSorted_rng (d : Array Int) (b : Nat) : ∀ (m i : Nat), b - i = m → i ≤ b → i ≤ scanSorted ltInt d b i ∧ scanSorted ltInt d b i ≤ b := by
  intro m
  induction m with
  | zero =>
    intro i hm hi
    rw [scanSorted, if_neg (by simp; omega)]
    exact ⟨Nat.le_refl _, hi⟩
  | succ m ih =>
    intro i hm hi
    rw [scanSorted]
    split
    · have := ih (i + 1) (by omega) (by omega)
      omega
    · exact ⟨Nat.le_refl _, hi⟩

theorem shiftDown_size : ∀ (j : Nat) (d : Array Int), (shiftDown ltInt j d).size = d.size
  | 0, d => by unfold shiftDown; rfl
  | j + 1, d => by
    unfold shiftDown
    split
    · rfl
    · rw [shiftDown_size j, swp_size]

set_option maxHeartbeats 2000000 in
set_option maxRecDepth 100000 in
theorem partial_c (g n a b : Nat) (d : Array Int) (w : World) (h : St w w g n d) (hn : n ≤ 60000) (hab : a + 1 < b) (hb : b ≤ n) :
    Calls Try.prog 63 #[.slice (some ⟨g, 0, none⟩) n n, .int .i64 (a : Int), .int .i64 (b : Int)] w fun e w' => e = .returned (.bool (partialInsertionSort ltInt d a b).2) ∧ St w w' g n (partialInsertionSort ltInt d a b).1 := by
  have H := hide h
  obtain ⟨R, hR⟩ : ∃ R, R = partialInsertionSort ltInt d a b := ⟨_, rfl⟩
  rw [← hR]
  obtain ⟨a1, ha1⟩ : ∃ a1, a1 = a + 1 := ⟨_, rfl⟩
  have HR : Hid (partialIns ltInt a b (5 - 0) a1 d = R) := by rw [hR, ha1]; exact rfl
  have ha1i : (a : Int) + 1 = (a1 : Int) := by omega
  have ha1b : a + 1 ≤ a1 ∧ a1 ≤ b := by omega
  obtain ⟨l, hl⟩ : ∃ l, l = b - a := ⟨_, rfl⟩
  have hli : (b : Int) - (a : Int) = (l : Int) := by omega
  have Hl := hide hl
  clear h hR ha1 hl
  go_enter Try.func63, Try.ntmps63
  go_wp2_with fail
  go_loopw [7, 8, 9, 10] (fun v7 v8 _ _ wr => ∃ (i j : Nat) (d' : Array Int), v7 = .int .i64 (i : Int) ∧ v8 = .int .i64 (j : Int) ∧ j ≤ 5 ∧ a + 1 ≤ i ∧ i ≤ b ∧ Hid (St w wr g n d') ∧ Hid (partialIns ltInt a b (5 - j) i d' = R)) (fun _ v8 _ _ _ => 5 - (intOf v8).toNat)
  case atStart => exact ⟨a1, 0, d, by go_num, rfl, by omega, ha1b.1, ha1b.2, H.out, HR.out⟩
  case round =>
    obtain ⟨i, j, d', rfl, rfl, hj5, hi1, hi2, HS, HL⟩ := hrel
    by_cases hj : j < 5
    · have hji : (j : Int) < 5 := by omega
      obtain ⟨I, hI⟩ : ∃ I, I = scanSorted ltInt d' b i := ⟨_, rfl⟩
      obtain ⟨r1, r2⟩ := scanSorted_rng d' b _ i rfl hi2
      rw [← hI] at r1 r2
      have HL2 := HL.out
      rw [show 5 - j = (5 - (j + 1)) + 1 from by omega, Go.Sort.partialIns_succ] at HL2
      simp only [← hI] at HL2
      have HL3 := hide HL2
      have HT := hide hI.symm
      clear HL HL2 hI
      go_upto_block 2 with fail
      go_cut [7] from 17 to 34 (fun v wx => v = .int .i64 (I : Int) ∧ St w wx g n d')
      case first =>
        go_wp2_with fail
        go_loopw [7] (fun v wr => ∃ k : Nat, v = .int .i64 (k : Int) ∧ a + 1 ≤ k ∧ k ≤ b ∧ Hid (St w wr g n d') ∧ Hid (scanSorted ltInt d' b k = I)) (fun v _ => b - (intOf v).toNat)
        case atStart => exact ⟨i, rfl, hi1, hi2, HS.out, HT.out⟩
        case round =>
          obtain ⟨k, rfl, hk1, hk2, HS, HLL⟩ := hrel
          by_cases hle : k < b
          · have hlei : (k : Int) < (b : Int) := by omega
            obtain ⟨km, hkm⟩ : ∃ km, km = k - 1 := ⟨_, rfl⟩
            have hkmi : (k : Int) - 1 = (km : Int) := by omega
            have hkn : k < n := by omega
            have hkmn : km < n := by omega
            have hkni : (k : Int) < (n : Int) := by omega
            have hkmni : (km : Int) < (n : Int) := by omega
            have c1 := HS.out.dt.cell (j := k) (by have := HS.out.sz; omega)
            have c2 := HS.out.dt.cell (j := km) (by have := HS.out.sz; omega)
            obtain ⟨vx, hvx⟩ : ∃ v, v = d'[k]! := ⟨_, rfl⟩
            obtain ⟨vy, hvy⟩ : ∃ v, v = d'[km]! := ⟨_, rfl⟩
            rw [← hvx] at c1
            rw [← hvy] at c2
            have Hvx := hide hvx
            have Hvy := hide hvy
            have Hkm := hide hkm
            clear hvx hvy hkm
            go_wp2_with fail
            go_quiet ((go_at_call 64; exact Calls.quiet_of_same (less_c _ _ _)))
            have HS2 := hide (HS.out.drewN nq)
            generalize wr.drewN nq = w5 at HS2 ⊢
            clear c1 c2
            generalize hL : decide (vx < vy) = L
            cases L with
            | false =>
              have e0 : ltInt vx vy = false := hL
              clear hL
              have HLn : Hid (scanSorted ltInt d' b (k + 1) = I) := by
                have := HLL.out
                rw [scanSorted, if_pos (by rw [← Hkm.out, ← Hvx.out, ← Hvy.out, e0]; simp; omega)] at this
                exact this
              go_wp2_with fail
              go_roundw
              case rel => exact ⟨k + 1, by go_num, by omega, by omega, HS2.out, HLn.out⟩
              case measure => simp [intOf]; omega
            | true =>
              have e0 : ltInt vx vy = true := hL
              clear hL
              have e : k = I := by
                have := HLL.out
                rw [scanSorted, if_neg (by rw [← Hkm.out, ← Hvx.out, ← Hvy.out, e0]; simp)] at this
                exact this
              subst e
              go_wp2_with fail
              go_meet
              case rel => exact ⟨rfl, HS2.out⟩
          · have hlei : ¬ (k : Int) < (b : Int) := by omega
            have e : k = I := by
              have := HLL.out
              rw [scanSorted, if_neg (by simp; omega)] at this
              exact this
            subst e
            go_wp2_with fail
            go_quiet (fail)
            have HS2 := hide (HS.out.drewN nq)
            generalize wr.drewN nq = w5 at HS2 ⊢
            go_wp2_with fail
            go_meet
            case rel => exact ⟨rfl, HS2.out⟩
      case rest =>
      have hcut2 := hcut
      clear hcut
      obtain ⟨rfl, hS0⟩ := hcut2
      have HS := hide hS0
      clear hS0
      by_cases hIb : I = b
      · have e1 : ((I : Int) == (b : Int)) = true := by rw [hIb]; exact beq_self_eq_true _
        have e2 := HL3.out
        rw [if_pos hIb] at e2
        have E2 := hide e2
        clear e2 hIb
        go_wp2_with fail
        rw [← E2.out]
        go_ret
        exact ⟨rfl, HS.out⟩
      have hIlt : I < b := by omega
      have e1 : ((I : Int) == (b : Int)) = false := beq_false_of_ne (by omega)
      by_cases h50 : l < 50
      · have h50i : (l : Int) < 50 := by omega
        have e2 := HL3.out
        rw [if_neg hIb, if_pos (by rw [← Hl.out]; exact h50)] at e2
        have E2 := hide e2
        clear e2 hIb
        go_wp2_with fail
        rw [← E2.out]
        go_ret
        exact ⟨rfl, HS.out⟩
      have h50i : ¬ (l : Int) < 50 := by omega
      obtain ⟨Im, hIm⟩ : ∃ Im, Im = I - 1 := ⟨_, rfl⟩
      have hImi : (I : Int) - 1 = (Im : Int) := by omega
      have hIn : I < n := by omega
      have hImn : Im < n := by omega
      have hIni : (I : Int) < (n : Int) := by omega
      have hImni : (Im : Int) < (n : Int) := by omega
      have HNE : Hid (¬ I = Im) := by show ¬ I = Im; omega
      obtain ⟨d2, hd2⟩ : ∃ d2, d2 = swp d' I Im := ⟨_, rfl⟩
      obtain ⟨d3, hd3⟩ : ∃ d3, d3 = fixDown ltInt a I d2 := ⟨_, rfl⟩
      obtain ⟨d4, hd4⟩ : ∃ d4, d4 = fixUp ltInt b I d3 := ⟨_, rfl⟩
      have HL5 : Hid (partialIns ltInt a b (5 - (j + 1)) I d4 = R) := by
        have e2 := HL3.out
        rw [if_neg hIb, if_neg (by rw [← Hl.out]; exact h50), ← hIm, ← hd2, ← hd3, ← hd4] at e2
        exact e2
      have Hd2 := hide hd2
      have Hd3 := hide hd3
      have Hd4 := hide hd4
      have HIm := hide hIm
      obtain ⟨la, hla⟩ : ∃ la, la = I - a := ⟨_, rfl⟩
      obtain ⟨lb, hlb⟩ : ∃ lb, lb = b - I := ⟨_, rfl⟩
      have hlai : (I : Int) - (a : Int) = (la : Int) := by omega
      have hlbi : (b : Int) - (I : Int) = (lb : Int) := by omega
      have Hla := hide (And.intro hla hlb)
      clear HL3 hIb hd2 hd3 hd4 hIm hla hlb
      go_upto_region 11 with fail
      go_cut [] from 42 to 57 (fun wx => St w wx g n (swp d' I Im))
      case first =>
        have hDs : d'.size = n := HS.out.sz
        have hxy : ¬ I = Im := HNE.out
        have c1 := HS.out.dt.cell (j := I) (by omega)
        have c2 := HS.out.dt.cell (j := Im) (by omega)
        have z1 := HS.out.dt.frozen I
        have z2 := HS.out.dt.frozen Im
        have hyx : ¬ Im = I := fun e => hxy e.symm
        have hS2 := HS.out.swap (i := I) (j := Im) 1 (by omega) (by omega)
        obtain ⟨vx, hvx⟩ : ∃ v, v = d'[I]! := ⟨_, rfl⟩
        obtain ⟨vy, hvy⟩ : ∃ v, v = d'[Im]! := ⟨_, rfl⟩
        rw [← hvx] at c1 hS2
        rw [← hvy] at c2 hS2
        have HS2 := hide hS2
        clear hvx hvy hS2 hDs
        go_region
        all_goals
          go_wp2_with fail
          go_meet
          case rel => exact HS2.out

      case rest =>
      have HS := hide hcut
      clear hcut
      rw [← Hd2.out] at HS
      go_upto_if 61 with fail
      go_cut [9] from 58 to 94 (fun v9 wx => (∃ q : Value, q = v9) ∧ St w wx g n d3)
      case first =>
        by_cases h2 : 2 ≤ la
        · have h2i : (2 : Int) ≤ (la : Int) := by omega
          have HD : Hid (shiftDown ltInt Im d2 = d3) := by rw [Hd3.out, HIm.out]; unfold fixDown; rw [if_pos (by rw [← Hla.out.1]; exact h2)]; exact rfl
          go_wp2_with fail
          go_loopw [9] (fun v wr => ∃ (k : Nat) (d5 : Array Int), v = .int .i64 (k : Int) ∧ k ≤ Im ∧ Hid (St w wr g n d5) ∧ Hid (shiftDown ltInt k d5 = d3)) (fun v _ => (intOf v).toNat)
          case atStart => exact ⟨Im, d2, by go_num, Nat.le_refl _, HS.out, HD.out⟩
          case round =>
            obtain ⟨k, d5, rfl, hk, HS, HLL⟩ := hrel
            by_cases hk1 : 1 ≤ k
            · have hk1i : (1 : Int) ≤ (k : Int) := by omega
              obtain ⟨km, hkm⟩ : ∃ km, k = km + 1 := ⟨k - 1, by omega⟩
              have hkmi : (k : Int) - 1 = (km : Int) := by omega
              have hkn : k < n := by omega
              have hkmn : km < n := by omega
              have hkni : (k : Int) < (n : Int) := by omega
              have hkmni : (km : Int) < (n : Int) := by omega
              have hxy1 : ¬ k = km := by omega
              have hxy2 : ¬ km = k := by omega
              have hklt : km < k := by omega
              have c1 := HS.out.dt.cell (j := k) (by have := HS.out.sz; omega)
              have c2 := HS.out.dt.cell (j := km) (by have := HS.out.sz; omega)
              obtain ⟨vx, hvx⟩ : ∃ v, v = d5[k]! := ⟨_, rfl⟩
              obtain ⟨vy, hvy⟩ : ∃ v, v = d5[km]! := ⟨_, rfl⟩
              rw [← hvx] at c1
              rw [← hvy] at c2
              have HLL2 := HLL.out
              rw [hkm, shiftDown, ← hkm, ← hvx, ← hvy] at HLL2
              have HLL3 := hide HLL2
              clear hvx hvy hkm HLL HLL2
              go_wp2_with fail
              go_quiet ((go_at_call 64; exact Calls.quiet_of_same (less_c _ _ _)))
              have HS2 := hide (HS.out.drewN nq)
              generalize wr.drewN nq = w5 at HS2 ⊢
              clear c1 c2
              generalize hL : decide (vx < vy) = L
              cases L with
              | false =>
                have e0 : ltInt vx vy = false := hL
                have e := HLL3.out
                rw [e0, if_pos (by rfl)] at e
                subst e
                clear hL e0
                go_wp2_with fail
                go_meet
                case rel => exact ⟨⟨_, rfl⟩, HS2.out⟩
              | true =>
                have e0 : ltInt vx vy = true := hL
                have e := HLL3.out
                rw [e0, if_neg (by decide)] at e
                have HLn := hide e
                have HS := HS2
                clear hL e0 e
                have c1 := HS.out.dt.cell (j := k) (by have := HS.out.sz; omega)
                have c2 := HS.out.dt.cell (j := km) (by have := HS.out.sz; omega)
                have z1 := HS.out.dt.frozen k
                have z2 := HS.out.dt.frozen km
                have hS2 := HS.out.swap (i := k) (j := km) 1 (by have := HS.out.sz; omega) (by have := HS.out.sz; omega)
                obtain ⟨vx', hvx'⟩ : ∃ v, v = d5[k]! := ⟨_, rfl⟩
                obtain ⟨vy', hvy'⟩ : ∃ v, v = d5[km]! := ⟨_, rfl⟩
                rw [← hvx'] at c1 hS2
                rw [← hvy'] at c2 hS2
                have HS2 := hide hS2
                clear hvx' hvy' hS2
                go_wp2_with fail
                go_region
                all_goals
                  go_wp2_with fail
                  go_roundw
                  case rel => exact ⟨km, _, by go_num, by omega, HS2.out, HLn.out⟩
                  case measure => simp [intOf]; omega
            · obtain rfl : k = 0 := by omega
              have e : d5 = d3 := by have := HLL.out; rw [shiftDown] at this; exact this
              subst e
              have hk0 : ¬ (1 : Int) ≤ ((0 : Nat) : Int) := by omega
              go_wp2_with fail
              go_meet
              case rel => exact ⟨⟨_, rfl⟩, HS.out⟩
        · have h2i : ¬ (2 : Int) ≤ (la : Int) := by omega
          have e : d3 = d2 := by rw [Hd3.out]; unfold fixDown; rw [if_neg (by rw [← Hla.out.1]; exact h2)]
          go_wp2_with fail
          go_meet
          case rel => exact ⟨⟨_, rfl⟩, by rw [e]; exact HS.out⟩
      case rest =>
      have HS := hide hcut.2
      clear hcut
      by_cases h2 : 2 ≤ lb
      · have h2i : (2 : Int) ≤ (lb : Int) := by omega
        obtain ⟨I1, hI1⟩ : ∃ I1, I1 = I + 1 := ⟨_, rfl⟩
        have hI1i : (I : Int) + 1 = (I1 : Int) := by omega
        have HD : Hid (shiftUp ltInt b I1 d3 = d4) := by rw [Hd4.out, hI1]; unfold fixUp; rw [if_pos (by rw [← Hla.out.2]; exact h2)]; exact rfl
        have hI1b : 1 ≤ I1 ∧ I1 ≤ b := by omega
        clear hI1
        go_wp2_with fail
        go_loopw [10] (fun v wr => ∃ (k : Nat) (d5 : Array Int), v = .int .i64 (k : Int) ∧ 1 ≤ k ∧ k ≤ b ∧ Hid (St w wr g n d5) ∧ Hid (shiftUp ltInt b k d5 = d4)) (fun v _ => b - (intOf v).toNat)
        case atStart => exact ⟨I1, d3, by go_num, hI1b.1, hI1b.2, HS.out, HD.out⟩
        case round =>
          obtain ⟨k, d5, rfl, hk, hkb, HS, HLL⟩ := hrel
          by_cases hk1 : k < b
          · have hk1i : (k : Int) < (b : Int) := by omega
            obtain ⟨km, hkm⟩ : ∃ km, km = k - 1 := ⟨_, rfl⟩
            have hkmi : (k : Int) - 1 = (km : Int) := by omega
            have hkn : k < n := by omega
            have hkmn : km < n := by omega
            have hkni : (k : Int) < (n : Int) := by omega
            have hkmni : (km : Int) < (n : Int) := by omega
            have hxy1 : ¬ k = km := by omega
            have hxy2 : ¬ km = k := by omega
            have c1 := HS.out.dt.cell (j := k) (by have := HS.out.sz; omega)
            have c2 := HS.out.dt.cell (j := km) (by have := HS.out.sz; omega)
            obtain ⟨vx, hvx⟩ : ∃ v, v = d5[k]! := ⟨_, rfl⟩
            obtain ⟨vy, hvy⟩ : ∃ v, v = d5[km]! := ⟨_, rfl⟩
            rw [← hvx] at c1
            rw [← hvy] at c2
            have HLL2 := HLL.out
            rw [shiftUp, if_pos hk1, ← hkm, ← hvx, ← hvy] at HLL2
            have HLL3 := hide HLL2
            clear hvx hvy hkm HLL HLL2
            go_wp2_with fail
            go_quiet ((go_at_call 64; exact Calls.quiet_of_same (less_c _ _ _)))
            have HS2 := hide (HS.out.drewN nq)
            generalize wr.drewN nq = w5 at HS2 ⊢
            clear c1 c2
            generalize hL : decide (vx < vy) = L
            cases L with
            | false =>
              have e0 : ltInt vx vy = false := hL
              have e := HLL3.out
              rw [e0, if_pos (by rfl)] at e
              subst e
              clear hL e0
              go_wp2_with fail
              go_roundw
              case rel => exact ⟨I, j + 1, _, rfl, by go_num, by omega, by omega, by omega, HS2.out, HL5.out⟩
              case measure => simp [intOf]; omega
            | true =>
              have e0 : ltInt vx vy = true := hL
              have e := HLL3.out
              rw [e0, if_neg (by decide)] at e
              have HLn := hide e
              have HS := HS2
              clear hL e0 e
              have c1 := HS.out.dt.cell (j := k) (by have := HS.out.sz; omega)
              have c2 := HS.out.dt.cell (j := km) (by have := HS.out.sz; omega)
              have z1 := HS.out.dt.frozen k
              have z2 := HS.out.dt.frozen km
              have hS2 := HS.out.swap (i := k) (j := km) 1 (by have := HS.out.sz; omega) (by have := HS.out.sz; omega)
              obtain ⟨vx', hvx'⟩ : ∃ v, v = d5[k]! := ⟨_, rfl⟩
              obtain ⟨vy', hvy'⟩ : ∃ v, v = d5[km]! := ⟨_, rfl⟩
              rw [← hvx'] at c1 hS2
              rw [← hvy'] at c2 hS2
              have HS2 := hide hS2
              clear hvx' hvy' hS2
              go_wp2_with fail
              go_region
              all_goals
                go_wp2_with fail
                go_roundw
                case rel => exact ⟨k + 1, _, by go_num, by omega, by omega, HS2.out, HLn.out⟩
                case measure => simp [intOf]; omega
          · have hk1i : ¬ (k : Int) < (b : Int) := by omega
            have e : d5 = d4 := by have := HLL.out; rw [shiftUp, if_neg hk1] at this; exact this
            subst e
            go_wp2_with fail
            go_roundw
            case rel => exact ⟨I, j + 1, _, rfl, by go_num, by omega, by omega, by omega, HS.out, HL5.out⟩
            case measure => simp [intOf]; omega
      · have h2i : ¬ (2 : Int) ≤ (lb : Int) := by omega
        have e : d4 = d3 := by rw [Hd4.out]; unfold fixUp; rw [if_neg (by rw [← Hla.out.2]; exact h2)]
        go_wp2_with fail
        go_roundw
        case rel => exact ⟨I, j + 1, d4, rfl, by go_num, by omega, by omega, by omega, by rw [e]; exact HS.out, HL5.out⟩
        case measure => simp [intOf]; omega
    · obtain rfl : j = 5 := by omega
      have e := HL.out
      have e2 : (d', false) = R := e
      have E2 := hide e2
      have hji : ¬ ((5 : Nat) : Int) < 5 := by omega
      clear e e2
      go_wp2_with fail
      rw [← E2.out]
      go_ret
      exact ⟨rfl, HS.out⟩
end Go.Proofs.Ythdilabmajaehaa
