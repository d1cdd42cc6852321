/-
  Contracts of sorting: rotation; merging in place, its two short ways.
-/
import Derived.Test.YtlkidddbndkfiaaSb
namespace Go.Proofs.Ytlkidddbndkfiaa
open Go.RowKit
open Go.Sort (swp PermIn SortedIn SWO swp_get swp_size swp_permIn permIn_refl permIn_trans permIn_mono permIn_all Ins)

set_option maxHeartbeats 1600000 in
set_option maxRecDepth 100000 in
theorem rotate_c (g P N c a m b : Nat) (fq : List Int) (d : Array Nat) (fv : Value) (w : World) (h : St w w g P fq d) (hN : N = d.size) (ham : a < m) (hmb : m < b) (hb : b ≤ d.size) :
    Calls Try.prog 59 #[.slice (some ⟨g, 0, none⟩) N c, .int .i64 (a : Int), .int .i64 (m : Int), .int .i64 (b : Int), fv] w fun e w' => e = .returned (.tuple #[]) ∧ ∃ d', St w w' g P fq d' ∧ Rot a m b d d' ∧ PermIn a b d d' := by
  have hsm := h.dt.small
  have H := hide h
  subst hN
  obtain ⟨i0, hi0⟩ : ∃ i0 : Nat, i0 = m - a := ⟨_, rfl⟩
  obtain ⟨j0, hj0⟩ : ∃ j0 : Nat, j0 = b - m := ⟨_, rfl⟩
  have hi1 : (m : Int) - (a : Int) = (i0 : Int) := by omega
  have hj1 : (b : Int) - (m : Int) = (j0 : Int) := by omega
  have Hi0 := hide hi0
  have Hj0 := hide hj0
  clear h hi0 hj0
  go_enter Try.func59, Try.ntmps59
  go_wp2
  go_loopw [10, 11] (fun iv jv wr => ∃ (i j : Nat) (d' : Array Nat), 0 < i ∧ 0 < j ∧ i + a ≤ m ∧ m + j ≤ b ∧ iv = .int .i64 (i : Int) ∧ jv = .int .i64 (j : Int) ∧ St w wr g P fq d' ∧ Hid (∀ D, Rot (m - i) m (m + j) d' D → Rot a m b d D) ∧ Hid (PermIn a b d d')) (fun iv jv _ => (intOf iv).toNat + (intOf jv).toNat)
  case atStart =>
    have h1 := Hi0.out
    have h2 := Hj0.out
    refine ⟨i0, j0, d, by omega, by omega, by omega, by omega, rfl, rfl, H.out, fun D hD => ?_, permIn_refl _ _ _⟩
    rw [show m - i0 = a by omega, show m + j0 = b by omega] at hD
    exact hD
  case round =>
    obtain ⟨i, j, d', hi, hj, hia, hjb, rfl, rfl, hS, HR, HP⟩ := hrel
    have hsz : d'.size = d.size := HP.out.1
    have HS := hide hS
    have Hsz := hide hsz
    clear hS hsz hi1 hj1
    obtain ⟨x, hx⟩ : ∃ x : Nat, x = m - i := ⟨_, rfl⟩
    have hx1 : (m : Int) - (i : Int) = (x : Int) := by omega
    have Hx := hide hx
    have hxm : x + i = m := by omega
    clear hx
    by_cases hlt : i < j
    · have hq : ((i : Int) != (j : Int)) = true := by simp; omega
      have hng : ¬ (j : Int) < (i : Int) := by omega
      obtain ⟨y, hy⟩ : ∃ y : Nat, y = m + j - i := ⟨_, rfl⟩
      have hy1 : (m : Int) + (j : Int) - (i : Int) = (y : Int) := by omega
      obtain ⟨j2, hj2⟩ : ∃ j2 : Nat, j2 = j - i := ⟨_, rfl⟩
      have hj3 : (j : Int) - (i : Int) = (j2 : Int) := by omega
      have CS := hide (swapRange_c g P d.size c x y i fq d' fv wr HS.out.start Hsz.out.symm (by omega) (by have := Hsz.out; omega))
      have Hy := hide hy
      have Hj2 := hide hj2
      have Hxm := hide hxm
      clear hy hj2 hxm
      go_wp2_with fail
      refine CS.out.mono ?_
      rintro e w2 ⟨rfl, d2, s1, s2, s3⟩
      have HS2 := hide (HS.out.trans s1)
      have HR2 : Hid (∀ D, Rot (m - i) m (m + j2) d2 D → Rot a m b d D) := by
        intro D hD
        refine HR.out D ?_
        have e1 := Hy.out
        have e2 := Hj2.out
        have e3 := Hxm.out
        have e4 := Hx.out
        refine Rot.lt' (d1 := d2) ?_ ?_ (by omega) (by omega)
        · rw [show m + j - (m - (m - i)) = y by omega, show m - (m - i) = i by omega, ← e4]; exact s2
        · rw [show m + j - (m - (m - i)) = m + j2 by omega]; exact hD
      have HP2 := hide (permIn_trans _ _ _ _ _ HP.out (permIn_mono _ _ x (y + i) a b (by have := Hxm.out; omega) (by have := Hy.out; omega) (by rw [Hsz.out]; exact hb) s3))
      clear s1 s2 s3
      go_wp2
      go_roundw
      case rel => exact ⟨i, j2, d2, hi, by have := Hj2.out; omega, hia, by have := Hj2.out; omega, rfl, rfl, HS2.out, HR2, HP2⟩
      case measure => simp [intOf]; have := Hj2.out; omega
    · by_cases hgt : j < i
      · have hq : ((i : Int) != (j : Int)) = true := by simp; omega
        have hng : (j : Int) < (i : Int) := by omega
        obtain ⟨i2, hi2⟩ : ∃ i2 : Nat, i2 = i - j := ⟨_, rfl⟩
        have hi3 : (i : Int) - (j : Int) = (i2 : Int) := by omega
        have CS := hide (swapRange_c g P d.size c x m j fq d' fv wr HS.out.start Hsz.out.symm (by omega) (by have := Hsz.out; omega))
        have Hi2 := hide hi2
        have Hxm := hide hxm
        clear hi2 hxm
        go_wp2_with fail
        refine CS.out.mono ?_
        rintro e w2 ⟨rfl, d2, s1, s2, s3⟩
        have HS2 := hide (HS.out.trans s1)
        have HR2 : Hid (∀ D, Rot (m - i2) m (m + j) d2 D → Rot a m b d D) := by
          intro D hD
          refine HR.out D ?_
          have e2 := Hi2.out
          have e3 := Hxm.out
          have e4 := Hx.out
          refine Rot.gt (d1 := d2) ?_ ?_ (by omega) (by omega)
          · rw [show m + j - m = j by omega, ← e4]; exact s2
          · rw [show m - i + (m + j - m) = m - i2 by omega]; exact hD
        have HP2 := hide (permIn_trans _ _ _ _ _ HP.out (permIn_mono _ _ x (m + j) a b (by have := Hxm.out; omega) (by omega) (by rw [Hsz.out]; exact hb) s3))
        clear s1 s2 s3
        go_wp2
        go_roundw
        case rel => exact ⟨i2, j, d2, by have := Hi2.out; omega, hj, by have := Hi2.out; omega, hjb, rfl, rfl, HS2.out, HR2, HP2⟩
        case measure => simp [intOf]; have := Hi2.out; omega
      · have e : i = j := by omega
        subst e
        have hq : ((i : Int) != (i : Int)) = false := by simp
        have CS := hide (swapRange_c g P d.size c x m i fq d' fv wr HS.out.start Hsz.out.symm (by omega) (by have := Hsz.out; omega))
        have Hxm := hide hxm
        clear hxm
        go_wp2_with fail
        refine CS.out.mono ?_
        rintro e w2 ⟨rfl, d2, s1, s2, s3⟩
        have HS2 := hide (HS.out.trans s1)
        have HR2 := hide (HR.out d2 (Rot.eq' (by have := Hxm.out; rw [show m - (m - i) = i by omega, show m - i = x by omega]; exact s2) (by have := Hxm.out; omega) (by omega) (by omega)))
        have HP2 := hide (permIn_trans _ _ _ _ _ HP.out (permIn_mono _ _ x (m + i) a b (by have := Hxm.out; omega) (by omega) (by rw [Hsz.out]; exact hb) s3))
        clear s1 s2 s3
        go_wp2
        go_end0
        exact ⟨rfl, d2, HS2.out, HR2.out, HP2.out⟩

/-- The middle of two places, as the program reckons it. -/
theorem half_facts (i j : Nat) (h : i ≤ 1000) (h2 : j ≤ 1000) : ∃ s q : Nat, ((i : Int) + (j : Int) = (s : Int) ∧ IntKind.u64.wrap (s : Int) = (s : Int)) ∧ (s : Int) / 2 = (q : Int) ∧ (s = i + j ∧ q = (i + j) / 2) ∧ s ≤ 2000 := by
  refine ⟨i + j, (i + j) / 2, ⟨by omega, ?_⟩, by omega, ⟨rfl, rfl⟩, by omega⟩
  rw [IntKind.wrap_u64]; omega

set_option maxHeartbeats 1600000 in
set_option maxRecDepth 100000 in
theorem sm_first (g P N c a b : Nat) (fq : List Int) (d : Array Nat) (w : World) (h : St w w g P fq d) (hN : N = d.size) (hmb : a + 1 < b) (hb : b ≤ d.size) (hs : SortedIn (ltF fq) (a + 1) b d) :
    Calls Try.prog 58 #[.slice (some ⟨g, 0, none⟩) N c, .int .i64 (a : Int), .int .i64 ((a + 1 : Nat) : Int), .int .i64 (b : Int), .func (.func 50) #[] #[.pointer (some ⟨P, 0, none⟩)]] w fun e w' => e = .returned (.tuple #[]) ∧ ∃ d', St w w' g P fq d' ∧ PermIn a b d d' ∧ SortedIn (ltF fq) a b d' := by
  have hsm := h.dt.small
  have H := hide h
  have Hs := hide hs
  have hcf := cf50
  obtain ⟨m, hm⟩ : ∃ m, m = a + 1 := ⟨_, rfl⟩
  rw [← hm]
  have hm1 : (m : Int) - (a : Int) = 1 := by omega
  have Hm := hide hm
  subst hN
  clear h hs hm
  go_enter Try.func58, Try.ntmps58
  go_wp2
  go_loopw [10, 11, 12] (fun iv jv _ wr => ∃ i j : Nat, m ≤ i ∧ i ≤ j ∧ j ≤ b ∧ iv = .int .i64 (i : Int) ∧ jv = .int .i64 (j : Int) ∧ St w wr g P fq d ∧ Hid (∀ x, m ≤ x → x < i → ltF fq d[x]! d[a]! = true) ∧ Hid (∀ x, j ≤ x → x < b → ltF fq d[x]! d[a]! = false)) (fun iv jv _ _ => (intOf jv).toNat - (intOf iv).toNat)
  case atStart => exact ⟨m, b, Nat.le_refl _, by have := Hm.out; omega, Nat.le_refl _, rfl, rfl, H.out, fun x h1 h2 => by omega, fun x h1 h2 => by omega⟩
  case round =>
    obtain ⟨i, j, hi, hij, hjb, rfl, rfl, hS, HL, HR⟩ := hrel
    have HS := hide hS
    by_cases hlt : i < j
    · obtain ⟨s, q, ⟨e1, e2⟩, e3, ⟨e4, e5⟩, e6⟩ := half_facts i j (by omega) (by omega)
      have hq1 : i ≤ q := by omega
      have hq2 : q < j := by omega
      have c1 := hS.dt.cell (j := q) (by omega)
      have c2 := hS.dt.cell (j := a) (by omega)
      have l1 := hS.lt q (by omega)
      have l2 := hS.lt a (by omega)
      obtain ⟨vx, hvx⟩ : ∃ v, v = d[q]! := ⟨_, rfl⟩
      obtain ⟨vy, hvy⟩ : ∃ v, v = d[a]! := ⟨_, rfl⟩
      rw [← hvx] at c1 l1
      rw [← hvy] at c2 l2
      have hqs : (q : Int) < (d.size : Nat) := by omega
      have has : (a : Int) < (d.size : Nat) := by omega
      have Hcmp : Hid (∀ k, Calls Try.prog 50 #[.int .i64 (vx : Int), .int .i64 (vy : Int), .pointer (some ⟨P, 0, none⟩)] (wr.drewN k) fun e w' => e = .returned (.int .i64 (cmpI (at0 fq vx) (at0 fq vy))) ∧ ∃ k', w' = (wr.drewN k).drewN k') := fun k => cmp_c P vx vy fq _ _ (hS.drewN k).ce l1 l2
      have Hc := hide (ltF_eq fq vx vy)
      obtain ⟨cv, hcv⟩ : ∃ cv, cv = cmpI (at0 fq vx) (at0 fq vy) := ⟨_, rfl⟩
      rw [← hcv] at Hcmp Hc
      have Hvx := hide hvx
      have Hvy := hide hvy
      have hqb : q ≤ 1000 := by omega
      clear hS hvx hvy hcv e4 e5
      go_wp2
      go_quiet ((go_at_call 50; exact Calls.quiet_of (Hcmp.out _)))
      have HS5 := hide (HS.out.drewN nq)
      generalize wr.drewN nq = w5 at HS5 ⊢
      by_cases hneg : cv < 0
      · have hl : ltF fq d[q]! d[a]! = true := by rw [← Hvx.out, ← Hvy.out, ← Hc.out]; simpa using hneg
        have HL2 : Hid (∀ x, m ≤ x → x < q + 1 → ltF fq d[x]! d[a]! = true) := by
          intro x h1 h2
          by_cases e : x = q
          · rw [e]; exact hl
          · have hx := Hs.out x q (by have := Hm.out; omega) (by omega) (by omega)
            cases hc : ltF fq d[x]! d[a]! with
            | true => rfl
            | false =>
              have := (swoF fq).ntrans _ _ _ hx hc
              rw [this] at hl
              cases hl
        clear hl
        go_wp2
        go_roundw
        case rel => exact ⟨q + 1, j, by omega, by omega, hjb, by go_num, rfl, HS5.out, HL2, HR⟩
        case measure => simp [intOf]; omega
      · have hl : ltF fq d[q]! d[a]! = false := by rw [← Hvx.out, ← Hvy.out, ← Hc.out]; simpa using hneg
        have HR2 : Hid (∀ x, q ≤ x → x < b → ltF fq d[x]! d[a]! = false) := by
          intro x h1 h2
          by_cases e : x = q
          · rw [e]; exact hl
          · have hx := Hs.out q x (by have := Hm.out; omega) (by omega) h2
            exact (swoF fq).ntrans _ _ _ hx hl
        clear hl
        go_wp2
        go_roundw
        case rel => exact ⟨i, q, hi, hq1, by omega, rfl, rfl, HS5.out, HL, HR2⟩
        case measure => simp [intOf]; omega
    · have e : i = j := by omega
      subst e
      obtain ⟨r, hr⟩ : ∃ r : Nat, i = r + 1 := ⟨i - 1, by have := Hm.out; omega⟩
      have hr1 : (i : Int) - 1 = (r : Int) := by omega
      have Hr := hide hr
      clear hS hr
      go_wp2
      go_loopw [13] (fun kv wr => ∃ (k : Nat) (d' : Array Nat), a ≤ k ∧ k ≤ r ∧ kv = .int .i64 (k : Int) ∧ St w wr g P fq d' ∧ Hid (Rot a (a + 1) (k + 1) d d') ∧ Hid (PermIn a b d d')) (fun kv _ => r - (intOf kv).toNat)
      case atStart => exact ⟨a, d, Nat.le_refl _, by have := Hr.out; have := Hm.out; omega, rfl, HS.out, Rot.none (Or.inr rfl) (by omega) (by omega), permIn_refl _ _ _⟩
      case round =>
        obtain ⟨k, d', hk1, hk2, rfl, hS2, HRo, HP⟩ := hrel
        have hsz : d'.size = d.size := HP.out.1
        have HS2 := hide hS2
        by_cases hkr : k < r
        · have hrb : r < b := by have := Hr.out; omega
          have c1 := hS2.dt.cell (j := k) (by omega)
          have c2 := hS2.dt.cell (j := k + 1) (by omega)
          have z1 := hS2.dt.frozen k
          have z2 := hS2.dt.frozen (k + 1)
          obtain ⟨t, ht⟩ : ∃ t, t = k + 1 := ⟨_, rfl⟩
          have ht1 : (k : Int) + 1 = (t : Int) := by omega
          rw [← ht] at c2 z2
          obtain ⟨vx, hvx⟩ : ∃ v, v = d'[k]! := ⟨_, rfl⟩
          obtain ⟨vy, hvy⟩ : ∃ v, v = d'[t]! := ⟨_, rfl⟩
          rw [← hvx] at c1
          rw [← hvy] at c2
          have hks : (k : Int) < (d.size : Nat) := by omega
          have hts : (t : Int) < (d.size : Nat) := by omega
          have hkt : ¬ k = t := by omega
          have htk : ¬ t = k := by omega
          have hS6 := HS2.out.swap (i := k) (j := t) 1 (by omega) (by omega)
          rw [← hvx, ← hvy] at hS6
          have HS6 := hide hS6
          have hR6 := HRo.out.up hk1 (by omega)
          rw [← ht] at hR6
          have HR6 : Hid (Rot a (a + 1) (t + 1) d (swp d' k t)) := by show Rot _ _ _ _ _; rw [show t + 1 = k + 2 by omega]; exact hR6
          have HP6 := hide (permIn_trans _ _ _ _ _ HP.out (swp_permIn d' a b k t (by omega) (by omega) (by omega) (by omega) (by omega)))
          have htr : t ≤ r := by omega
          have hat : a ≤ t := by omega
          have Ht := hide ht
          clear hS2 hS6 hR6 hvx hvy hsz ht
          go_wp2
          go_region
          all_goals
            go_wp2
            go_roundw
            case rel => exact ⟨t, swp d' k t, hat, htr, rfl, HS6.out, HR6, HP6⟩
            case measure => simp [intOf]; have := Ht.out; omega
        · have e : k = r := by omega
          subst e
          clear hS2
          go_wp2
          refine bodyPost_ret (results_none rfl _ _ _) rfl ?_
          refine ⟨rfl, d', HS2.out, HP.out, ?_⟩
          have e1 := Hm.out
          have e2 := Hr.out
          exact ins_first (swoF fq) (i := i) Hs.out (by omega) hjb (fun x h1 h2 => HL.out x (by omega) h2) (fun x h1 h2 => HR.out x h1 h2) (by rw [e2]; exact HRo.out)

set_option maxHeartbeats 1600000 in
set_option maxRecDepth 100000 in
theorem sm_last (g P N c a m : Nat) (fq : List Int) (d : Array Nat) (w : World) (h : St w w g P fq d) (hN : N = d.size) (ham : a + 1 < m) (hb : m + 1 ≤ d.size) (hs : SortedIn (ltF fq) a m d) :
    Calls Try.prog 58 #[.slice (some ⟨g, 0, none⟩) N c, .int .i64 (a : Int), .int .i64 (m : Int), .int .i64 ((m + 1 : Nat) : Int), .func (.func 50) #[] #[.pointer (some ⟨P, 0, none⟩)]] w fun e w' => e = .returned (.tuple #[]) ∧ ∃ d', St w w' g P fq d' ∧ PermIn a (m + 1) d d' ∧ SortedIn (ltF fq) a (m + 1) d' := by
  have hsm := h.dt.small
  have H := hide h
  have Hs := hide hs
  have hcf := cf50
  obtain ⟨b, hbm⟩ : ∃ b, b = m + 1 := ⟨_, rfl⟩
  rw [← hbm]
  have hm1 : ((m : Int) - (a : Int) == 1) = false := beq_false_of_ne (by omega)
  have hm2 : (b : Int) - (m : Int) = 1 := by omega
  have Hbm := hide hbm
  subst hN
  clear h hs hbm
  go_enter Try.func58, Try.ntmps58
  go_wp2
  go_loopw [14, 15, 16] (fun iv jv _ wr => ∃ i j : Nat, a ≤ i ∧ i ≤ j ∧ j ≤ m ∧ iv = .int .i64 (i : Int) ∧ jv = .int .i64 (j : Int) ∧ St w wr g P fq d ∧ Hid (∀ x, a ≤ x → x < i → ltF fq d[m]! d[x]! = false) ∧ Hid (∀ x, j ≤ x → x < m → ltF fq d[m]! d[x]! = true)) (fun iv jv _ _ => (intOf jv).toNat - (intOf iv).toNat)
  case atStart => exact ⟨a, m, Nat.le_refl _, by omega, Nat.le_refl _, rfl, rfl, H.out, fun x h1 h2 => by omega, fun x h1 h2 => by omega⟩
  case round =>
    obtain ⟨i, j, hi, hij, hjb, rfl, rfl, hS, HL, HR⟩ := hrel
    have HS := hide hS
    by_cases hlt : i < j
    · obtain ⟨s, q, ⟨e1, e2⟩, e3, ⟨e4, e5⟩, e6⟩ := half_facts i j (by omega) (by omega)
      have hq1 : i ≤ q := by omega
      have hq2 : q < j := by omega
      have c1 := hS.dt.cell (j := m) (by omega)
      have c2 := hS.dt.cell (j := q) (by omega)
      have l1 := hS.lt m (by omega)
      have l2 := hS.lt q (by omega)
      obtain ⟨vx, hvx⟩ : ∃ v, v = d[m]! := ⟨_, rfl⟩
      obtain ⟨vy, hvy⟩ : ∃ v, v = d[q]! := ⟨_, rfl⟩
      rw [← hvx] at c1 l1
      rw [← hvy] at c2 l2
      have hqs : (q : Int) < (d.size : Nat) := by omega
      have has : (m : Int) < (d.size : Nat) := by omega
      have Hcmp : Hid (∀ k, Calls Try.prog 50 #[.int .i64 (vx : Int), .int .i64 (vy : Int), .pointer (some ⟨P, 0, none⟩)] (wr.drewN k) fun e w' => e = .returned (.int .i64 (cmpI (at0 fq vx) (at0 fq vy))) ∧ ∃ k', w' = (wr.drewN k).drewN k') := fun k => cmp_c P vx vy fq _ _ (hS.drewN k).ce l1 l2
      have Hc := hide (ltF_eq fq vx vy)
      obtain ⟨cv, hcv⟩ : ∃ cv, cv = cmpI (at0 fq vx) (at0 fq vy) := ⟨_, rfl⟩
      rw [← hcv] at Hcmp Hc
      have Hvx := hide hvx
      have Hvy := hide hvy
      have hqb : q ≤ 1000 := by omega
      clear hS hvx hvy hcv e4 e5
      go_wp2
      go_quiet ((go_at_call 50; exact Calls.quiet_of (Hcmp.out _)))
      have HS5 := hide (HS.out.drewN nq)
      generalize wr.drewN nq = w5 at HS5 ⊢
      by_cases hneg : cv < 0
      · have hdc : decide (cv < 0) = true := decide_eq_true hneg
        rw [hdc]
        clear hdc
        have hl : ltF fq d[m]! d[q]! = true := by rw [← Hvx.out, ← Hvy.out, ← Hc.out]; simpa using hneg
        have HR2 : Hid (∀ x, q ≤ x → x < m → ltF fq d[m]! d[x]! = true) := by
          intro x h1 h2
          by_cases e : x = q
          · rw [e]; exact hl
          · have hx := Hs.out q x (by omega) (by omega) h2
            cases hc : ltF fq d[m]! d[x]! with
            | true => rfl
            | false =>
              have := (swoF fq).ntrans _ _ _ hc hx
              rw [this] at hl
              cases hl
        clear hl
        go_wp2
        go_roundw
        case rel => exact ⟨i, q, hi, hq1, by omega, rfl, rfl, HS5.out, HL, HR2⟩
        case measure => simp [intOf]; omega
      · have hdc : decide (cv < 0) = false := decide_eq_false hneg
        rw [hdc]
        clear hdc
        have hl : ltF fq d[m]! d[q]! = false := by rw [← Hvx.out, ← Hvy.out, ← Hc.out]; simpa using hneg
        have HL2 : Hid (∀ x, a ≤ x → x < q + 1 → ltF fq d[m]! d[x]! = false) := by
          intro x h1 h2
          by_cases e : x = q
          · rw [e]; exact hl
          · have hx := Hs.out x q h1 (by omega) (by omega)
            exact (swoF fq).ntrans _ _ _ hl hx
        clear hl
        go_wp2
        go_roundw
        case rel => exact ⟨q + 1, j, by omega, by omega, hjb, by go_num, rfl, HS5.out, HL2, HR⟩
        case measure => simp [intOf]; omega
    · have e : i = j := by omega
      subst e
      clear hS
      go_wp2
      go_loopw [17] (fun kv wr => ∃ (k : Nat) (d' : Array Nat), i ≤ k ∧ k ≤ m ∧ kv = .int .i64 (k : Int) ∧ St w wr g P fq d' ∧ Hid (Rot k m (m + 1) d d') ∧ Hid (PermIn a b d d')) (fun kv _ => (intOf kv).toNat)
      case atStart => exact ⟨m, d, hjb, Nat.le_refl _, rfl, HS.out, Rot.none (Or.inl rfl) (by omega) (by omega), permIn_refl _ _ _⟩
      case round =>
        obtain ⟨k, d', hk1, hk2, rfl, hS2, HRo, HP⟩ := hrel
        have hsz : d'.size = d.size := HP.out.1
        have HS2 := hide hS2
        by_cases hkr : i < k
        · obtain ⟨t, ht⟩ : ∃ t, k = t + 1 := ⟨k - 1, by omega⟩
          have hbd : b ≤ d.size := by have := Hbm.out; omega
          have c1 := hS2.dt.cell (j := k) (by omega)
          have c2 := hS2.dt.cell (j := t) (by omega)
          have z1 := hS2.dt.frozen k
          have z2 := hS2.dt.frozen t
          have ht1 : (k : Int) - 1 = (t : Int) := by omega
          obtain ⟨vx, hvx⟩ : ∃ v, v = d'[k]! := ⟨_, rfl⟩
          obtain ⟨vy, hvy⟩ : ∃ v, v = d'[t]! := ⟨_, rfl⟩
          rw [← hvx] at c1
          rw [← hvy] at c2
          have hks : (k : Int) < (d.size : Nat) := by omega
          have hts : (t : Int) < (d.size : Nat) := by omega
          have hkt : ¬ k = t := by omega
          have htk : ¬ t = k := by omega
          have hki : (i : Int) < (k : Int) := by omega
          have hS6 := HS2.out.swap (i := k) (j := t) 1 (by omega) (by omega)
          rw [← hvx, ← hvy] at hS6
          have HS6 := hide hS6
          have hR5 := HRo.out
          rw [ht] at hR5
          have hR6 := hR5.down (by omega) (by omega)
          rw [← ht] at hR6
          have HR6 := hide hR6
          have HP6 := hide (permIn_trans _ _ _ _ _ HP.out (swp_permIn d' a b k t (by omega) (by have := Hbm.out; omega) (by omega) (by have := Hbm.out; omega) (by omega)))
          have hit : i ≤ t := by omega
          have htm : t ≤ m := by omega
          have Ht := hide ht
          clear hS2 hS6 hR6 hR5 hvx hvy hsz ht
          go_wp2
          go_region
          all_goals
            go_wp2
            go_roundw
            case rel => exact ⟨t, swp d' k t, hit, htm, rfl, HS6.out, HR6, HP6⟩
            case measure => simp [intOf]; have := Ht.out; omega
        · have e : k = i := by omega
          subst e
          clear hS2
          go_wp2
          refine bodyPost_ret (results_none rfl _ _ _) rfl ?_
          refine ⟨rfl, d', HS2.out, HP.out, ?_⟩
          have e1 := Hbm.out
          rw [e1]
          exact ins_last (swoF fq) (i := k) Hs.out hi hjb (fun x h1 h2 => HL.out x h1 h2) (fun x h1 h2 => HR.out x h1 h2) HRo.out
end Go.Proofs.Ytlkidddbndkfiaa
