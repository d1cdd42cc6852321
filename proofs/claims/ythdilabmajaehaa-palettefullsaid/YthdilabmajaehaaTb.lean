/-
  sort: by insertion, by a heap.
-/
import Derived.Test.YthdilabmajaehaaTa
namespace Go.Proofs.Ythdilabmajaehaa
open Go.RowKit
open Go.Sort (swp PermIn SortedIn SWO swp_get swp_size swp_permIn permIn_refl permIn_trans permIn_mono permIn_all Ins ltInt swo_ltInt)


set_option maxHeartbeats 1600000 in
set_option maxRecDepth 100000 in
theorem insertion_c (g n a b : Nat) (d : Array Int) (w : World) (h : St w w g n d) (hn : n ≤ 100000) (hab : a ≤ b) (hb : b ≤ n) :
    Calls Try.prog 58 #[.slice (some ⟨g, 0, none⟩) n n, .int .i64 (a : Int), .int .i64 (b : Int)] w fun e w' => e = .returned (.tuple #[]) ∧ ∃ d', St w w' g n d' ∧ PermIn a b d d' ∧ SortedIn ltInt a b d' := by
  have H := hide h
  have hds := hide h.sz
  clear h
  go_enter Try.func58, Try.ntmps58
  go_wp2_with fail
  go_loopw [6, 7] (fun iv _ wr => ∃ (i : Nat) (d' : Array Int), a + 1 ≤ i ∧ (i ≤ b ∨ i = a + 1) ∧ iv = .int .i64 (i : Int) ∧ Hid (St w wr g n d') ∧ Hid (PermIn a b d d') ∧ Hid (SortedIn ltInt a i d')) (fun iv _ _ => b + 1 - (intOf iv).toNat)
  case atStart => exact ⟨a + 1, d, Nat.le_refl _, Or.inr rfl, by go_num, H.out, permIn_refl _ _ _, fun p q h1 h2 h3 => by omega⟩
  case round =>
    obtain ⟨i, d', hi1, hi2, rfl, HS, HP, HO⟩ := hrel
    by_cases hlt : i < b
    · have hlti : (i : Int) < (b : Int) := by omega
      go_wp2_with fail
      go_loopw [7] (fun jv wr => ∃ (j : Nat) (d2 : Array Int), a ≤ j ∧ j ≤ i ∧ jv = .int .i64 (j : Int) ∧ Hid (St w wr g n d2) ∧ Hid (PermIn a b d d2) ∧ Hid (Ins ltInt a j i d2)) (fun jv _ => (intOf jv).toNat)
      case atStart => exact ⟨i, d', by omega, Nat.le_refl _, rfl, HS.out, HP, Ins.begin HO.out⟩
      case round =>
        obtain ⟨j, d2, hj1, hj2, rfl, HS2, HP2, HI⟩ := hrel
        have hsz : d2.size = n := HS2.out.sz
        by_cases hja : a < j
        · obtain ⟨t, ht⟩ : ∃ t, j = t + 1 := ⟨j - 1, by omega⟩
          have c1 := HS2.out.dt.cell (j := j) (by omega)
          have c2 := HS2.out.dt.cell (j := t) (by omega)
          obtain ⟨vx, hvx⟩ : ∃ v, v = d2[j]! := ⟨_, rfl⟩
          obtain ⟨vy, hvy⟩ : ∃ v, v = d2[t]! := ⟨_, rfl⟩
          rw [← hvx] at c1
          rw [← hvy] at c2
          have hji : (a : Int) < (j : Int) := by omega
          have ht1 : (j : Int) - 1 = (t : Int) := by omega
          have hjs : (j : Int) < (n : Int) := by omega
          have hts : (t : Int) < (n : Int) := by omega
          have hjn : j < n := by omega
          have htn : t < n := by omega
          have Hvx := hide hvx
          have Hvy := hide hvy
          have Ht := hide ht
          have Hsz := hide hsz
          clear hvx hvy ht hsz
          go_wp2_with fail
          go_quiet ((go_at_call 64; exact Calls.quiet_of_same (less_c _ _ _)))
          have HS := hide (HS2.out.drewN nq)
          generalize wr.drewN nq = w5 at HS ⊢
          clear c1 c2
          by_cases hneg : vx < vy
          · have hl : ltInt d2[j]! d2[t]! = true := by rw [← Hvx.out, ← Hvy.out, ← ltI]; exact decide_eq_true hneg
            have hI2 := HI.out
            rw [Ht.out] at hI2
            have hI3 := hI2.step (by rw [← Ht.out]; exact hl) (by have := Ht.out; omega) (by have := Ht.out; have := Hsz.out; omega)
            rw [← Ht.out] at hI3
            have HI3 := hide hI3
            have HP6 := hide (permIn_trans _ _ _ _ _ HP2.out (swp_permIn d2 a b j t (by omega) (by omega) (by have := Ht.out; omega) (by have := Ht.out; omega) (by have := Hsz.out; omega)))
            have hti : t ≤ i := by have := Ht.out; omega
            have hta : a ≤ t := by have := Ht.out; omega
            clear hl hI2 hI3
            have htj : ¬ t = j := by have := Ht.out; omega
            have hjt : ¬ j = t := by have := Ht.out; omega
            have c1 := HS.out.dt.cell (j := j) (by have := HS.out.sz; omega)
            have c2 := HS.out.dt.cell (j := t) (by have := HS.out.sz; omega)
            have z1 := HS.out.dt.frozen j
            have z2 := HS.out.dt.frozen t
            have hS2 := HS.out.swap (i := j) (j := t) 1 (by have := HS.out.sz; omega) (by have := HS.out.sz; omega)
            obtain ⟨vx', hvx'⟩ : ∃ v, v = d2[j]! := ⟨_, rfl⟩
            obtain ⟨vy', hvy'⟩ : ∃ v, v = d2[t]! := ⟨_, rfl⟩
            rw [← hvx'] at c1 hS2
            rw [← hvy'] at c2 hS2
            have HS2 := hide hS2
            clear hvx' hvy' hS2
            go_wp2_with fail
            go_region
            all_goals
              go_wp2_with fail
              go_roundw
              case rel => exact ⟨t, swp d2 j t, hta, hti, rfl, HS2.out, HP6, HI3⟩
              case measure => simp [intOf]; have := Ht.out; omega

          · have hl : ltInt d2[j]! d2[t]! = false := by rw [← Hvx.out, ← Hvy.out, ← ltI]; exact decide_eq_false hneg
            have HO2 := hide (HI.out.stop swo_ltInt (Or.inr (by rw [show j - 1 = t by have := Ht.out; omega]; exact hl)))
            clear hl
            go_wp2_with fail
            go_roundw
            case rel => exact ⟨i + 1, d2, by omega, by omega, by go_num, HS.out, HP2, HO2⟩
            case measure => simp [intOf]; omega
        · have HO2 := hide (HI.out.stop swo_ltInt (Or.inl (by omega)))
          have hja' : ¬ (a : Int) < (j : Int) := by omega
          go_wp2_with fail
          go_quiet (fail)
          have HS := hide (HS2.out.drewN nq)
          generalize wr.drewN nq = w5 at HS ⊢
          go_wp2_with fail
          go_roundw
          case rel => exact ⟨i + 1, d2, by omega, by omega, by go_num, HS.out, HP2, HO2⟩
          case measure => simp [intOf]; omega
    · have hlti : ¬ (i : Int) < (b : Int) := by omega
      go_wp2_with fail
      go_end0
      refine ⟨rfl, d', HS.out, HP.out, ?_⟩
      have := HO.out
      intro p q h1 h2 h3
      exact this p q h1 h2 (by omega)

open Go.Sort (siftDown heapBuild heapPop heapSort)

theorem sift_stop {hi first root : Nat} {d : Array Int} (h : 2 * root + 1 ≥ hi) : siftDown ltInt hi first root d = d := by rw [siftDown, dif_pos h]

set_option maxHeartbeats 1600000 in
set_option maxRecDepth 100000 in
theorem sift_c (g n lo hi first : Nat) (d : Array Int) (w : World) (h : St w w g n d) (hn : n ≤ 100000) (hf : first + hi ≤ n) (hlo : lo ≤ n) :
    Calls Try.prog 71 #[.slice (some ⟨g, 0, none⟩) n n, .int .i64 (lo : Int), .int .i64 (hi : Int), .int .i64 (first : Int)] w fun e w' => e = .returned (.tuple #[]) ∧ St w w' g n (siftDown ltInt hi first lo d) := by
  have H := hide h
  obtain ⟨R, hR⟩ : ∃ R, R = siftDown ltInt hi first lo d := ⟨_, rfl⟩
  rw [← hR]
  have HR := hide hR.symm
  clear h hR
  go_enter Try.func71, Try.ntmps71
  go_wp2_with fail
  go_loopw [8, 9] (fun rv _ wr => ∃ (r : Nat) (d' : Array Int), rv = .int .i64 (r : Int) ∧ r ≤ n + n ∧ Hid (St w wr g n d') ∧ Hid (siftDown ltInt hi first r d' = R)) (fun rv _ _ => 2 * n + 2 - (intOf rv).toNat)
  case atStart => exact ⟨lo, d, rfl, by omega, H.out, HR.out⟩
  case round =>
    obtain ⟨r, d', rfl, hr, HS, HL⟩ := hrel
    obtain ⟨ch, hch⟩ : ∃ ch, ch = 2 * r + 1 := ⟨_, rfl⟩
    have hci : 2 * (r : Int) + 1 = (ch : Int) := by omega
    have hcb : ch ≤ 500000 := by omega
    by_cases hge : ch < hi
    · have hgei : (ch : Int) < (hi : Int) := by omega
      have hds : d'.size = n := HS.out.sz
      obtain ⟨c1, hc1⟩ : ∃ c1, c1 = ch + 1 := ⟨_, rfl⟩
      have hc1i : (ch : Int) + 1 = (c1 : Int) := by omega
      obtain ⟨x, hx⟩ : ∃ x, x = first + r := ⟨_, rfl⟩
      obtain ⟨y, hy⟩ : ∃ y, y = first + ch := ⟨_, rfl⟩
      obtain ⟨z, hz⟩ : ∃ z, z = first + c1 := ⟨_, rfl⟩
      have HNEy : Hid (¬ x = y) := by show ¬ x = y; omega
      have HNEz : Hid (¬ x = z) := by show ¬ x = z; omega
      have hxi : (first : Int) + (r : Int) = (x : Int) := by omega
      have hyi : (first : Int) + (ch : Int) = (y : Int) := by omega
      have hyz : (y : Int) + 1 = (z : Int) := by omega
      have hzi : (first : Int) + (c1 : Int) = (z : Int) := by omega
      have hxn : x < n := by omega
      have hyn : y < n := by omega
      have hxni : (x : Int) < (n : Int) := by omega
      have hyni : (y : Int) < (n : Int) := by omega
      have hzb : z ≤ 200000 := by omega
      have kx := HS.out.dt.cell (j := x) (by omega)
      have ky := HS.out.dt.cell (j := y) (by omega)
      obtain ⟨vx, hvx⟩ : ∃ v, v = d'[x]! := ⟨_, rfl⟩
      obtain ⟨vy, hvy⟩ : ∃ v, v = d'[y]! := ⟨_, rfl⟩
      rw [← hvx] at kx
      rw [← hvy] at ky
      have HL0 := HL.out
      rw [siftDown, dif_neg (by omega)] at HL0
      rw [← hch, ← hx, ← hy, ← hvx, ← hvy, ← hc1] at HL0
      rw [show 2 * r + 2 = c1 from by omega, show y + 1 = z from by omega, ← hz] at HL0
      by_cases h2 : c1 < hi
      · have h2i : (c1 : Int) < (hi : Int) := by omega
        have hzn : z < n := by omega
        have hzni : (z : Int) < (n : Int) := by omega
        have kz := HS.out.dt.cell (j := z) (by omega)
        obtain ⟨vz, hvz⟩ : ∃ v, v = d'[z]! := ⟨_, rfl⟩
        rw [← hvz] at kz HL0
        rw [dif_pos h2] at HL0
        have HLL := hide HL0
        have Hch := hide (And.intro hch hc1)
        have Hvx := hide hvx
        have Hvy := hide hvy
        have Hvz := hide hvz
        clear hvx hvy hvz hx hy hz hch hc1 HL0 hds HL
        go_wp2_with fail
        go_quiet ((go_at_call 64; exact Calls.quiet_of_same (less_c _ _ _)))
        have HS3 := hide (HS.out.drewN nq)
        generalize wr.drewN nq = w5 at HS3 ⊢
        clear kx ky kz
        by_cases hyz2 : vy < vz
        · have HL2 := HLL.out
          rw [show ltInt vy vz = true from decide_eq_true hyz2, decide_eq_true h2, Bool.true_and, if_pos rfl] at HL2
          have HL3 := hide HL2
          clear HL2 HLL
          have kx := HS3.out.dt.cell (j := x) (by have := HS3.out.sz; omega)
          have kp := HS3.out.dt.cell (j := z) (by have := HS3.out.sz; omega)
          obtain ⟨ux, hux⟩ : ∃ v, v = d'[x]! := ⟨_, rfl⟩
          obtain ⟨up, hup⟩ : ∃ v, v = d'[z]! := ⟨_, rfl⟩
          rw [← hux] at kx
          rw [← hup] at kp
          have e1 : ux = vx := by rw [hux]; exact Hvx.out.symm
          have e2 : up = vz := by rw [hup]; exact Hvz.out.symm
          subst e1
          subst e2
          clear hux hup
          go_wp2_with fail
          go_quiet ((go_at_call 64; exact Calls.quiet_of_same (less_c _ _ _)))
          have HS := hide (HS3.out.drewN nq)
          generalize w5.drewN nq = w6 at HS ⊢
          clear kx kp
          generalize hL : decide (ux < up) = L
          cases L with
          | true =>
            have hlt : ux < up := of_decide_eq_true hL
            clear hL
            have HL4 := HL3.out
            rw [show ltInt ux up = true from decide_eq_true hlt] at HL4
            have HL5 : Hid (siftDown ltInt hi first c1 (swp d' x z) = R) := HL4
            clear HL4 HL3 hlt
            go_upto_region 6 with fail
            go_cut [] from 11 to 75 (fun wx => St w wx g n (swp d' x z))
            case first =>
              have hDs : d'.size = n := HS.out.sz
              have hxy : ¬ x = z := HNEz.out
              have c1 := HS.out.dt.cell (j := x) (by omega)
              have c2 := HS.out.dt.cell (j := z) (by omega)
              have z1 := HS.out.dt.frozen x
              have z2 := HS.out.dt.frozen z
              have hyx : ¬ z = x := fun e => hxy e.symm
              have hS2 := HS.out.swap (i := x) (j := z) 1 (by omega) (by omega)
              obtain ⟨vx, hvx⟩ : ∃ v, v = d'[x]! := ⟨_, rfl⟩
              obtain ⟨vy, hvy⟩ : ∃ v, v = d'[z]! := ⟨_, rfl⟩
              rw [← hvx] at c1 hS2
              rw [← hvy] at c2 hS2
              have HS2 := hide hS2
              clear hvx hvy hS2 hDs
              go_region
              all_goals
                go_wp2_with fail
                go_meet
                case rel => exact HS2.out
            case rest =>
              have HS2 := hide hcut
              clear hcut
              go_wp2_with fail
              go_roundw
              case rel => exact ⟨c1, swp d' x z, rfl, by have := Hch.out; omega, HS2.out, HL5.out⟩
              case measure => simp [intOf]; have := Hch.out; omega
          | false =>
            have hlt : ¬ ux < up := of_decide_eq_false hL
            clear hL
            have HL4 := HL3.out
            rw [show ltInt ux up = false from decide_eq_false hlt] at HL4
            have e : d' = R := HL4
            subst e
            clear HL4 HL3 hlt
            go_wp2_with fail
            exact bodyPost_ret (results_none rfl _ _ _) rfl ⟨rfl, HS.out⟩
        · have HL2 := HLL.out
          rw [show ltInt vy vz = false from decide_eq_false hyz2, Bool.and_false, if_neg (by decide)] at HL2
          have HL3 := hide HL2
          clear HL2 HLL
          have kx := HS3.out.dt.cell (j := x) (by have := HS3.out.sz; omega)
          have kp := HS3.out.dt.cell (j := y) (by have := HS3.out.sz; omega)
          obtain ⟨ux, hux⟩ : ∃ v, v = d'[x]! := ⟨_, rfl⟩
          obtain ⟨up, hup⟩ : ∃ v, v = d'[y]! := ⟨_, rfl⟩
          rw [← hux] at kx
          rw [← hup] at kp
          have e1 : ux = vx := by rw [hux]; exact Hvx.out.symm
          have e2 : up = vy := by rw [hup]; exact Hvy.out.symm
          subst e1
          subst e2
          clear hux hup
          go_wp2_with fail
          go_quiet ((go_at_call 64; exact Calls.quiet_of_same (less_c _ _ _)))
          have HS := hide (HS3.out.drewN nq)
          generalize w5.drewN nq = w6 at HS ⊢
          clear kx kp
          generalize hL : decide (ux < up) = L
          cases L with
          | true =>
            have hlt : ux < up := of_decide_eq_true hL
            clear hL
            have HL4 := HL3.out
            rw [show ltInt ux up = true from decide_eq_true hlt] at HL4
            have HL5 : Hid (siftDown ltInt hi first ch (swp d' x y) = R) := HL4
            clear HL4 HL3 hlt
            go_upto_region 6 with fail
            go_cut [] from 11 to 75 (fun wx => St w wx g n (swp d' x y))
            case first =>
              have hDs : d'.size = n := HS.out.sz
              have hxy : ¬ x = y := HNEy.out
              have c1 := HS.out.dt.cell (j := x) (by omega)
              have c2 := HS.out.dt.cell (j := y) (by omega)
              have z1 := HS.out.dt.frozen x
              have z2 := HS.out.dt.frozen y
              have hyx : ¬ y = x := fun e => hxy e.symm
              have hS2 := HS.out.swap (i := x) (j := y) 1 (by omega) (by omega)
              obtain ⟨vx, hvx⟩ : ∃ v, v = d'[x]! := ⟨_, rfl⟩
              obtain ⟨vy, hvy⟩ : ∃ v, v = d'[y]! := ⟨_, rfl⟩
              rw [← hvx] at c1 hS2
              rw [← hvy] at c2 hS2
              have HS2 := hide hS2
              clear hvx hvy hS2 hDs
              go_region
              all_goals
                go_wp2_with fail
                go_meet
                case rel => exact HS2.out
            case rest =>
              have HS2 := hide hcut
              clear hcut
              go_wp2_with fail
              go_roundw
              case rel => exact ⟨ch, swp d' x y, rfl, by have := Hch.out; omega, HS2.out, HL5.out⟩
              case measure => simp [intOf]; have := Hch.out; omega
          | false =>
            have hlt : ¬ ux < up := of_decide_eq_false hL
            clear hL
            have HL4 := HL3.out
            rw [show ltInt ux up = false from decide_eq_false hlt] at HL4
            have e : d' = R := HL4
            subst e
            clear HL4 HL3 hlt
            go_wp2_with fail
            exact bodyPost_ret (results_none rfl _ _ _) rfl ⟨rfl, HS.out⟩
      · have h2i : ¬ (c1 : Int) < (hi : Int) := by omega
        rw [decide_eq_false h2, Bool.false_and, if_neg (by decide)] at HL0
        have HLL := hide HL0
        have Hch := hide (And.intro hch hc1)
        have Hvx := hide hvx
        have Hvy := hide hvy
        clear hvx hvy hx hy hz hch hc1 HL0 hds HL
        go_wp2_with fail
        go_quiet (fail)
        have HS3 := hide (HS.out.drewN nq)
        generalize wr.drewN nq = w5 at HS3 ⊢
        clear kx ky
        have HL2 := HLL.out
        have HL3 := hide HL2
        clear HL2 HLL
        have kx := HS3.out.dt.cell (j := x) (by have := HS3.out.sz; omega)
        have kp := HS3.out.dt.cell (j := y) (by have := HS3.out.sz; omega)
        obtain ⟨ux, hux⟩ : ∃ v, v = d'[x]! := ⟨_, rfl⟩
        obtain ⟨up, hup⟩ : ∃ v, v = d'[y]! := ⟨_, rfl⟩
        rw [← hux] at kx
        rw [← hup] at kp
        have e1 : ux = vx := by rw [hux]; exact Hvx.out.symm
        have e2 : up = vy := by rw [hup]; exact Hvy.out.symm
        subst e1
        subst e2
        clear hux hup
        go_wp2_with fail
        go_quiet ((go_at_call 64; exact Calls.quiet_of_same (less_c _ _ _)))
        have HS := hide (HS3.out.drewN nq)
        generalize w5.drewN nq = w6 at HS ⊢
        clear kx kp
        generalize hL : decide (ux < up) = L
        cases L with
        | true =>
          have hlt : ux < up := of_decide_eq_true hL
          clear hL
          have HL4 := HL3.out
          rw [show ltInt ux up = true from decide_eq_true hlt] at HL4
          have HL5 : Hid (siftDown ltInt hi first ch (swp d' x y) = R) := HL4
          clear HL4 HL3 hlt
          go_upto_region 6 with fail
          go_cut [] from 11 to 75 (fun wx => St w wx g n (swp d' x y))
          case first =>
            have hDs : d'.size = n := HS.out.sz
            have hxy : ¬ x = y := HNEy.out
            have c1 := HS.out.dt.cell (j := x) (by omega)
            have c2 := HS.out.dt.cell (j := y) (by omega)
            have z1 := HS.out.dt.frozen x
            have z2 := HS.out.dt.frozen y
            have hyx : ¬ y = x := fun e => hxy e.symm
            have hS2 := HS.out.swap (i := x) (j := y) 1 (by omega) (by omega)
            obtain ⟨vx, hvx⟩ : ∃ v, v = d'[x]! := ⟨_, rfl⟩
            obtain ⟨vy, hvy⟩ : ∃ v, v = d'[y]! := ⟨_, rfl⟩
            rw [← hvx] at c1 hS2
            rw [← hvy] at c2 hS2
            have HS2 := hide hS2
            clear hvx hvy hS2 hDs
            go_region
            all_goals
              go_wp2_with fail
              go_meet
              case rel => exact HS2.out
          case rest =>
            have HS2 := hide hcut
            clear hcut
            go_wp2_with fail
            go_roundw
            case rel => exact ⟨ch, swp d' x y, rfl, by have := Hch.out; omega, HS2.out, HL5.out⟩
            case measure => simp [intOf]; have := Hch.out; omega
        | false =>
          have hlt : ¬ ux < up := of_decide_eq_false hL
          clear hL
          have HL4 := HL3.out
          rw [show ltInt ux up = false from decide_eq_false hlt] at HL4
          have e : d' = R := HL4
          subst e
          clear HL4 HL3 hlt
          go_wp2_with fail
          exact bodyPost_ret (results_none rfl _ _ _) rfl ⟨rfl, HS.out⟩
    · have hgei : ¬ (ch : Int) < (hi : Int) := by omega
      have e : d' = R := by have := HL.out; rw [sift_stop (by omega)] at this; exact this
      subst e
      clear hch
      go_wp2_with fail
      go_end0
      exact ⟨rfl, HS.out⟩

set_option maxHeartbeats 1600000 in
set_option maxRecDepth 100000 in
theorem heap_c (g n a b : Nat) (d : Array Int) (w : World) (h : St w w g n d) (hn : n ≤ 100000) (hab : a < b) (hb : b ≤ n) :
    Calls Try.prog 59 #[.slice (some ⟨g, 0, none⟩) n n, .int .i64 (a : Int), .int .i64 (b : Int)] w fun e w' => e = .returned (.tuple #[]) ∧ St w w' g n (heapSort ltInt d a b) := by
  have H := hide h
  obtain ⟨R, hR⟩ : ∃ R, R = heapSort ltInt d a b := ⟨_, rfl⟩
  rw [← hR]
  obtain ⟨hi, hhi⟩ : ∃ hi, hi = b - a := ⟨_, rfl⟩
  have hhi2 : (b : Int) - (a : Int) = (hi : Int) := by omega
  have hh1 : (hi : Int) - 1 = ((hi - 1 : Nat) : Int) := by omega
  obtain ⟨h1, hh1e⟩ : ∃ h1, h1 = hi - 1 := ⟨_, rfl⟩
  rw [← hh1e] at hh1
  obtain ⟨k0, hk0⟩ : ∃ k0, k0 = h1 / 2 := ⟨_, rfl⟩
  have hk1 : (h1 : Int).tdiv 2 = (k0 : Int) := by rw [Int.tdiv_eq_ediv_of_nonneg (by omega), hk0]; omega
  have hk2 : (h1 : Int) / 2 = (k0 : Int) := by rw [hk0]; omega
  have HR : Hid (heapPop ltInt a hi (heapBuild ltInt hi a (k0 + 1) d) = R) := by rw [hR, hk0, hh1e, hhi]; rfl
  have hhin : a + hi ≤ n := by omega
  have hhp : 1 ≤ hi := by omega
  have hk0n : k0 < n := by omega
  have Hh1 := hide hh1e
  clear h hR hk0 hhi hh1e
  go_enter Try.func59, Try.ntmps59
  go_wp2_with fail
  go_loopw [9] (fun v9 wr => ∃ (k : Nat) (d' : Array Int), v9 = .int .i64 ((k : Int) - 1) ∧ k ≤ n ∧ Hid (St w wr g n d') ∧ Hid (heapPop ltInt a hi (heapBuild ltInt hi a k d') = R)) (fun v9 _ => (intOf v9 + 1).toNat)
  case atStart => exact ⟨k0 + 1, d, by go_num, by omega, H.out, HR.out⟩
  case round =>
    obtain ⟨k, d', rfl, hk, HS, HL⟩ := hrel
    by_cases hk0 : 0 < k
    · obtain ⟨i, hi⟩ : ∃ i, k = i + 1 := ⟨k - 1, by omega⟩
      subst hi
      have e1 : ((i + 1 : Nat) : Int) - 1 = (i : Int) := by omega
      rw [e1]
      have HL2 : Hid (heapPop ltInt a hi (heapBuild ltInt hi a i (siftDown ltInt hi a i d')) = R) := HL.out
      have Hs := hide (sift_c g n i hi a d' wr HS.out.start hn hhin (by omega))
      clear e1 hk0
      go_wp2_with fail
      refine Hs.out.mono ?_
      rintro e w2 ⟨rfl, hS2⟩
      have HS2 := hide (HS.out.trans hS2)
      clear hS2
      go_wp2_with fail
      go_roundw
      case rel => exact ⟨i, _, rfl, by omega, HS2.out, HL2.out⟩
      case measure => simp [intOf]
    · obtain rfl : k = 0 := by omega
      have hneg : ¬ (0 : Int) ≤ ((0 : Nat) : Int) - 1 := by omega
      have HL2 : Hid (heapPop ltInt a hi d' = R) := HL.out
      clear hk0
      go_wp2_with fail
      go_loopw [10] (fun v10 wr => ∃ (k : Nat) (d' : Array Int), v10 = .int .i64 ((k : Int) - 1) ∧ k ≤ hi ∧ Hid (St w wr g n d') ∧ Hid (heapPop ltInt a k d' = R)) (fun v10 _ => (intOf v10 + 1).toNat)
      case atStart => exact ⟨hi, d', by rw [← hh1], Nat.le_refl _, HS.out, HL2.out⟩
      case round =>
        obtain ⟨k, d3, rfl, hk, HS, HL3⟩ := hrel
        by_cases hk0 : 0 < k
        · obtain ⟨i, hi⟩ : ∃ i, k = i + 1 := ⟨k - 1, by omega⟩
          subst hi
          have e1 : ((i + 1 : Nat) : Int) - 1 = (i : Int) := by omega
          rw [e1]
          obtain ⟨y, hy⟩ : ∃ y, y = a + i := ⟨_, rfl⟩
          have hyi : (a : Int) + (i : Int) = (y : Int) := by omega
          have hxs : a < n := by omega
          have hys : y < n := by omega
          have hxi : (a : Int) < (n : Int) := by omega
          have hyn : (y : Int) < (n : Int) := by omega
          have HL4 : Hid (heapPop ltInt a i (siftDown ltInt i a 0 (swp d3 a y)) = R) := by rw [hy]; exact HL3.out
          clear e1 hk0 hy
          go_upto_region 10 with fail
          go_cut [] from 29 to 55 (fun wx => St w wx g n (swp d3 a y))
          case first =>
            have hDs : d3.size = n := HS.out.sz
            by_cases hxy : a = y
            · have c1 := HS.out.dt.cell (j := a) (by omega)
              have z1 := HS.out.dt.frozen a
              have hS2 := HS.out.swap (i := a) (j := y) 1 (by omega) (by omega)
              rw [← hxy] at hS2
              obtain ⟨vx, hvx⟩ : ∃ v, v = d3[a]! := ⟨_, rfl⟩
              rw [← hvx] at c1 hS2
              have HS2 := hide hS2
              have Hxy := hide hxy
              clear hvx hS2 hDs
              subst hxy
              go_region
              all_goals
                go_wp2_with fail
                go_meet
                case rel => exact HS2.out
            · have c1 := HS.out.dt.cell (j := a) (by omega)
              have c2 := HS.out.dt.cell (j := y) (by omega)
              have z1 := HS.out.dt.frozen a
              have z2 := HS.out.dt.frozen y
              have hyx : ¬ y = a := fun e => hxy e.symm
              have hS2 := HS.out.swap (i := a) (j := y) 1 (by omega) (by omega)
              obtain ⟨vx, hvx⟩ : ∃ v, v = d3[a]! := ⟨_, rfl⟩
              obtain ⟨vy, hvy⟩ : ∃ v, v = d3[y]! := ⟨_, rfl⟩
              rw [← hvx] at c1 hS2
              rw [← hvy] at c2 hS2
              have HS2 := hide hS2
              clear hvx hvy hS2 hDs
              go_region
              all_goals
                go_wp2_with fail
                go_meet
                case rel => exact HS2.out

          case rest =>
            have HS2 := hide hcut
            clear hcut
            have Hs := hide (sift_c g n 0 i a (swp d3 a y) wc HS2.out.start hn (by omega) (by omega))
            go_wp2_with fail
            refine Hs.out.mono ?_
            rintro e w2 ⟨rfl, hS2⟩
            have HS3 := hide (HS2.out.trans hS2)
            clear hS2
            go_wp2_with fail
            go_roundw
            case rel => exact ⟨i, _, rfl, by omega, HS3.out, HL4.out⟩
            case measure => simp [intOf]
        · obtain rfl : k = 0 := by omega
          have hneg : ¬ (0 : Int) ≤ ((0 : Nat) : Int) - 1 := by omega
          have e : d3 = R := HL3.out
          subst e
          go_wp2_with fail
          go_end0
          exact ⟨rfl, HS.out⟩
end Go.Proofs.Ythdilabmajaehaa
