/-
  sort: patterns broken.
-/
import Derived.Test.YthdilabmajaehaaTc
namespace Go.Proofs.Ythdilabmajaehaa
open Go.RowKit
open Go.Sort (swp PermIn SortedIn SWO swp_get swp_size swp_permIn permIn_refl permIn_trans permIn_mono permIn_all Ins ltInt swo_ltInt)

theorem and_u64 (x : Int) (y : Nat) (hy : y < 18446744073709551616) : ∃ z : Nat, bits .and .u64 x (y : Int) = (z : Int) ∧ z ≤ y := by
  refine ⟨(BitVec.ofInt 64 x &&& BitVec.ofInt 64 (y : Int)).toNat, ?_, ?_⟩
  · obtain ⟨B, hB⟩ : ∃ B, B = BitVec.ofInt 64 x &&& BitVec.ofInt 64 (y : Int) := ⟨_, rfl⟩
    have e4 : bits .and .u64 x (y : Int) = IntKind.u64.wrap ((B.toNat : Nat) : Int) := by rw [hB]; rfl
    have hlt := B.isLt
    rw [e4, ← hB]
    simp [IntKind.wrap, IntKind.bits, IntKind.signed]
    omega
  · have e2 : (BitVec.ofInt 64 (y : Int)).toNat = y := by rw [BitVec.toNat_ofInt]; omega
    rw [BitVec.toNat_and, e2]
    exact Nat.and_le_right

/-- A random number's place. -/
structure Rn (w wr : World) (P : Nat) : Prop where
  ex : ∃ x : Int, wr.heap[P]? = some (.cells #[.int .u64 x] 102 (0, 0))
  fr : Fr (fun k => k = P) w wr

set_option maxHeartbeats 400000 in
theorem next_c (P : Nat) (w : World) (h : Rn w w P) : Calls Try.prog 73 #[.pointer (some ⟨P, 0, none⟩)] w fun e w' => ∃ r : Int, e = .returned (.int .u64 r) ∧ Rn w w' P := by
  have H := hide h
  clear h
  go_enter Try.func73, Try.ntmps73
  go_wp2_with fail
  obtain ⟨x0, hx0⟩ := H.out.ex
  have Hx0 := hide hx0
  clear hx0
  go_upto_region 1 with fail
  go_cut [] from 3 to 11 (fun wx => Rn w wx P)
  case first =>
    have k0 := cell_of (o := 0) Hx0.out rfl
    have z0 := frozen_of (o := 0) Hx0.out
    go_region
    all_goals
      go_wp2_with fail
      go_meet
      case rel =>
        exact ⟨⟨_, heap_setCell_one _ Hx0.out⟩, (H.out.fr.join (Fr.of_setCell w ⟨P, 0, none⟩ _)).join ((Fr.of_drewN _ 1).mono fun _ _ h => h.elim)⟩
  case rest =>
  have H0 := hide hcut
  clear hcut
  obtain ⟨x1, hx1⟩ := H0.out.ex
  have Hx1 := hide hx1
  clear hx1
  go_upto_region 2 with fail
  go_cut [] from 12 to 20 (fun wx => Rn w wx P)
  case first =>
    have k0 := cell_of (o := 0) Hx1.out rfl
    have z0 := frozen_of (o := 0) Hx1.out
    go_region
    all_goals
      go_wp2_with fail
      go_meet
      case rel =>
        exact ⟨⟨_, heap_setCell_one _ Hx1.out⟩, (H0.out.fr.join (Fr.of_setCell wc ⟨P, 0, none⟩ _)).join ((Fr.of_drewN _ 1).mono fun _ _ h => h.elim)⟩
  case rest =>
  have H1 := hide hcut
  clear hcut
  obtain ⟨x2, hx2⟩ := H1.out.ex
  have Hx2 := hide hx2
  clear hx2
  go_upto_region 3 with fail
  go_cut [] from 21 to 29 (fun wx => Rn w wx P)
  case first =>
    have k0 := cell_of (o := 0) Hx2.out rfl
    have z0 := frozen_of (o := 0) Hx2.out
    go_region
    all_goals
      go_wp2_with fail
      go_meet
      case rel =>
        exact ⟨⟨_, heap_setCell_one _ Hx2.out⟩, (H1.out.fr.join (Fr.of_setCell wc ⟨P, 0, none⟩ _)).join ((Fr.of_drewN _ 1).mono fun _ _ h => h.elim)⟩
  case rest =>
  have H2 := hide hcut
  clear hcut
  obtain ⟨x3, hx3⟩ := H2.out.ex
  have k0 := cell_of (o := 0) hx3 rfl
  clear hx3
  go_wp2_with fail
  go_ret
  exact ⟨x3, rfl, H2.out⟩

/-- How many bits a byte has, as math/bits keeps it. -/
def len8 : ByteArray := ⟨#[0, 1, 2, 2, 3, 3, 3, 3, 4, 4, 4, 4, 4, 4, 4, 4, 5, 5, 5, 5, 5, 5, 5, 5, 5, 5, 5, 5, 5, 5, 5, 5, 6, 6, 6, 6, 6, 6, 6, 6, 6, 6, 6, 6, 6, 6, 6, 6, 6, 6, 6, 6, 6, 6, 6, 6, 6, 6, 6, 6, 6, 6, 6, 6, 7, 7, 7, 7, 7, 7, 7, 7, 7, 7, 7, 7, 7, 7, 7, 7, 7, 7, 7, 7, 7, 7, 7, 7, 7, 7, 7, 7, 7, 7, 7, 7, 7, 7, 7, 7, 7, 7, 7, 7, 7, 7, 7, 7, 7, 7, 7, 7, 7, 7, 7, 7, 7, 7, 7, 7, 7, 7, 7, 7, 7, 7, 7, 7, 8, 8, 8, 8, 8, 8, 8, 8, 8, 8, 8, 8, 8, 8, 8, 8, 8, 8, 8, 8, 8, 8, 8, 8, 8, 8, 8, 8, 8, 8, 8, 8, 8, 8, 8, 8, 8, 8, 8, 8, 8, 8, 8, 8, 8, 8, 8, 8, 8, 8, 8, 8, 8, 8, 8, 8, 8, 8, 8, 8, 8, 8, 8, 8, 8, 8, 8, 8, 8, 8, 8, 8, 8, 8, 8, 8, 8, 8, 8, 8, 8, 8, 8, 8, 8, 8, 8, 8, 8, 8, 8, 8, 8, 8, 8, 8, 8, 8, 8, 8, 8, 8, 8, 8, 8, 8, 8, 8, 8, 8, 8, 8, 8, 8, 8, 8, 8, 8, 8, 8, 8, 8, 8, 8, 8, 8, 8, 8]⟩

theorem len8_size : len8.size = 256 := by decide +kernel

set_option maxRecDepth 100000 in
theorem len8_ok : ∀ i : Fin 256, 1 ≤ i.1 → i.1 < 2 ^ (len8[i.1]'(by rw [len8_size]; exact i.2)).toNat ∧ 2 ^ (len8[i.1]'(by rw [len8_size]; exact i.2)).toNat ≤ 2 * i.1 ∧ (len8[i.1]'(by rw [len8_size]; exact i.2)).toNat ≤ 8 := by decide +kernel

theorem fin8 (t : Nat) (h : t ≤ 8) : wrap64 (8 + wrap64 (t : Int)) = ((8 + t : Nat) : Int) := by
  rw [wrap64_id (t : Int) (by omega) (by omega), wrap64_id _ (by omega) (by omega)]
  omega

set_option maxHeartbeats 400000 in
set_option maxRecDepth 100000 in
theorem len64_any (n : Nat) (w : World) (h1 : 1 ≤ n) (hn : n < 65536) : Calls Try.prog 68 #[.int .u64 (n : Int)] w fun e w' => ∃ k : Nat, e = .returned (.int .i64 (k : Int)) ∧ n < 2 ^ k ∧ 2 ^ k ≤ 2 * n ∧ k ≤ 16 ∧ w' = w := by
  by_cases h2 : n < 256
  · have h2i : ¬ (256 : Int) ≤ (n : Int) := by omega
    have h2j : ¬ 256 ≤ n := by omega
    have h3i : ¬ (65536 : Int) ≤ (n : Int) := by omega
    have h4i : ¬ (4294967296 : Int) ≤ (n : Int) := by omega
    have Hk := hide (len8_ok ⟨n, h2⟩ (by show 1 ≤ n; omega))
    go_enter Try.func68, Try.ntmps68
    go_wp2_with fail
    go_ret
    obtain ⟨k1, k2, k3⟩ := Hk.out
    have hsz : n < len8.size := by rw [len8_size]; exact h2
    refine ⟨(len8[n]'hsz).toNat, ?_, k1, k2, Nat.le_trans k3 (by decide), rfl⟩
    show Ending.returned (.int .i64 (wrap64 (wrap64 (((len8[n]'hsz).toNat : Nat) : Int)))) = _
    have k4 : (len8[n]'hsz).toNat ≤ 8 := k3
    rw [wrap64_id (((len8[n]'hsz).toNat : Nat) : Int) (by omega) (by omega), wrap64_id _ (by omega) (by omega)]
  · obtain ⟨q, hq⟩ : ∃ q, q = n / 256 := ⟨_, rfl⟩
    have h2i : (256 : Int) ≤ (n : Int) := by omega
    have h3i : ¬ (65536 : Int) ≤ (n : Int) := by omega
    have h4i : ¬ (4294967296 : Int) ≤ (n : Int) := by omega
    have hqi : (n : Int) / 256 = (q : Int) := by omega
    have hqb : q < 256 := by omega
    have hq1 : 1 ≤ q := by omega
    have Hk := hide (len8_ok ⟨q, hqb⟩ hq1)
    have Hq := hide hq
    have Hn := hide (And.intro hn (And.intro h1 h2))
    clear hq
    go_enter Try.func68, Try.ntmps68
    go_upto_region 10 with fail
    clear hqi h2i h3i h4i hn h1 h2
    go_wp2_with fail
    go_ret
    obtain ⟨k1, k2, k3⟩ := Hk.out
    have hq := Hq.out
    have hsz : q < len8.size := by rw [len8_size]; exact hqb
    have k4 : (len8[q]'hsz).toNat ≤ 8 := k3
    obtain ⟨hn, h1, h2⟩ := Hn.out
    have e8 : 2 ^ (8 + (len8[q]'hsz).toNat) = 256 * 2 ^ (len8[q]'hsz).toNat := by rw [Nat.pow_add]
    have k1' : q < 2 ^ (len8[q]'hsz).toNat := k1
    have k2' : 2 ^ (len8[q]'hsz).toNat ≤ 2 * q := k2
    have k6 : n < 2 ^ (8 + (len8[q]'hsz).toNat) := by rw [e8]; omega
    have k7 : 2 ^ (8 + (len8[q]'hsz).toNat) ≤ 2 * n := by rw [e8]; omega
    have k8 : 8 + (len8[q]'hsz).toNat ≤ 16 := Nat.add_le_add_left k4 8
    refine ⟨8 + (len8[q]'hsz).toNat, ?_, k6, k7, k8, rfl⟩
    have k5 := fin8 (len8[q]'hsz).toNat k4
    show Ending.returned (.int .i64 (wrap64 (8 + wrap64 (((len8[q]'hsz).toNat : Nat) : Int)))) = _
    rw [k5]

theorem len_any (n : Nat) (w : World) (h1 : 1 ≤ n) (hn : n < 65536) : Calls Try.prog 53 #[.int .u64 (n : Int)] w fun e w' => ∃ k : Nat, e = .returned (.int .i64 (k : Int)) ∧ n < 2 ^ k ∧ 2 ^ k ≤ 2 * n ∧ k ≤ 16 ∧ w' = w := by
  have H := hide (len64_any n w h1 hn)
  go_enter Try.func53, Try.ntmps53
  go_wp2_with fail
  refine H.out.mono ?_
  rintro e w2 ⟨k, rfl, k1, k2, k3, rfl⟩
  have Hk := hide (And.intro k1 k2)
  clear k1 k2
  go_wp2_with fail
  go_ret
  exact ⟨k, rfl, Hk.out.1, Hk.out.2, k3, rfl⟩

theorem power_c (n : Nat) (w : World) (h1 : 13 ≤ n) (hn : n < 65536) : Calls Try.prog 72 #[.int .i64 (n : Int)] w fun e w' => ∃ m : Nat, e = .returned (.int .u64 (m : Int)) ∧ n < m ∧ m ≤ 2 * n ∧ w' = w := by
  have H := hide (len_any n w (by omega) hn)
  have hnw : IntKind.u64.wrap (n : Int) = (n : Int) := by simp [IntKind.wrap, IntKind.bits, IntKind.signed]; omega
  go_enter Try.func72, Try.ntmps72
  go_wp2_with fail
  refine H.out.mono ?_
  rintro e w2 ⟨k, rfl, k1, k2, k3, rfl⟩
  obtain ⟨m, hm⟩ : ∃ m, m = 2 ^ k := ⟨_, rfl⟩
  rw [← hm] at k1 k2
  have hm2 : (2 : Int) ^ k = (m : Int) := by rw [hm]; simp
  have hmb : m ≤ 200000 := by omega
  have hmw : IntKind.u64.wrap (m : Int) = (m : Int) := by simp [IntKind.wrap, IntKind.bits, IntKind.signed]; omega
  have Hk := hide (And.intro k1 k2)
  clear k1 k2 hm
  go_wp2_with fail
  go_ret
  exact ⟨m, by simp, Hk.out.1, Hk.out.2, rfl⟩

set_option maxHeartbeats 1000000 in
set_option maxRecDepth 100000 in
theorem break_c (g n a b : Nat) (d : Array Int) (w : World) (h : St w w g n d) (hn : n ≤ 60000) (hab : a + 12 < b) (hb : b ≤ n) :
    Calls Try.prog 60 #[.slice (some ⟨g, 0, none⟩) n n, .int .i64 (a : Int), .int .i64 (b : Int)] w fun e w' => e = .returned (.tuple #[]) ∧ ∃ d', St w w' g n d' ∧ PermIn a b d d' := by
  obtain ⟨l, hl⟩ : ∃ l, l = b - a := ⟨_, rfl⟩
  obtain ⟨q, hq⟩ : ∃ q, q = l / 4 := ⟨_, rfl⟩
  obtain ⟨q2, hq2⟩ : ∃ q2, q2 = q * 2 := ⟨_, rfl⟩
  obtain ⟨s, hs⟩ : ∃ s, s = a + q2 := ⟨_, rfl⟩
  have hli : (b : Int) - (a : Int) = (l : Int) := by omega
  have hqi : (l : Int).tdiv 4 = (q : Int) := by rw [Int.tdiv_eq_ediv_of_nonneg (by omega), hq]; omega
  have hqj : (l : Int) / 4 = (q : Int) := by rw [hq]; omega
  have hq2i : (q : Int) * 2 = (q2 : Int) := by omega
  have hsi : (a : Int) + (q2 : Int) = (s : Int) := by omega
  obtain ⟨s0, hs0⟩ : ∃ s0, s0 = s - 1 := ⟨_, rfl⟩
  have hs0i : (s : Int) - 1 = (s0 : Int) := by omega
  obtain ⟨s2, hs2⟩ : ∃ s2, s2 = s + 1 := ⟨_, rfl⟩
  have hs2i : (s : Int) + 1 = (s2 : Int) := by omega
  have hl8 : ¬ (l : Int) < 8 := by omega
  have hlw : IntKind.u64.wrap (l : Int) = (l : Int) := by simp [IntKind.wrap, IntKind.bits, IntKind.signed]; omega
  have hbnd : l ≤ 60000 ∧ q ≤ 60000 ∧ q2 ≤ 60000 ∧ s ≤ 60000 ∧ s2 ≤ 60001 ∧ 13 ≤ l := by omega
  obtain ⟨bd1, bd2, bd3, bd4, bd5, bd6⟩ := hbnd
  have Hgeo : Hid (a < s0 ∧ s2 < b ∧ s0 + 2 = s2 ∧ l = b - a) := ⟨by omega, by omega, by omega, hl⟩
  obtain ⟨w1, hw1⟩ : ∃ w1, w1 = w.alloc (.cells #[.int .u64 (l : Int)] 102) := ⟨_, rfl⟩
  have hF1 : Fr (fun _ => False) w w1 := by rw [hw1]; exact Fr.of_alloc _ _
  have hgl : g < w.heap.size := lt_of h.dt.obj
  obtain ⟨P, hP⟩ : ∃ P, P = w.heap.size := ⟨_, rfl⟩
  have hRn : Rn w1 w1 P := ⟨⟨_, by rw [hw1, hP]; exact heap_alloc_at rfl⟩, Fr.refl _ _⟩
  have HPw := hide (power_c l w1 bd6 (by omega))
  have HS1 := hide (h.keep hF1)
  have HR1 := hide hRn
  have Hw1 := hide hw1
  have HP := hide hP
  have Hne : Hid (¬ g = P ∧ w.heap.size ≤ P) := ⟨by omega, by omega⟩
  clear h hF1 hw1 hgl hl hq hq2 hs hs0 hs2 hRn hP
  go_enter Try.func60, Try.ntmps60
  go_wp2_with fail
  rw [← Hw1.out, ← HP.out]
  refine HPw.out.mono ?_
  rintro e w2 ⟨m, rfl, hm1, hm2, rfl⟩
  have hm0 : (m : Int) - 1 = ((m - 1 : Nat) : Int) := by omega
  obtain ⟨m1, hm1e⟩ : ∃ m1, m1 = m - 1 := ⟨_, rfl⟩
  rw [← hm1e] at hm0
  have hmb : m1 < 2 * l := by omega
  have hmb2 : m ≤ 120000 := by omega
  have hmw : IntKind.u64.wrap (m1 : Int) = (m1 : Int) := by simp [IntKind.wrap, IntKind.bits, IntKind.signed]; omega
  clear hm1e hm1 hm2
  go_wp2_with fail
  go_loopw [9, 10] (fun v9 _ wr => ∃ (i : Nat) (d' : Array Int), v9 = .int .i64 (i : Int) ∧ s0 ≤ i ∧ i ≤ s2 + 1 ∧ Hid (Fr (fun k => k = g ∨ k = P) w2 wr) ∧ Hid (Dt wr g d') ∧ Hid (PermIn a b d d') ∧ Hid (∃ x : Int, wr.heap[P]? = some (.cells #[.int .u64 x] 102 (0, 0)))) (fun v9 _ _ => s2 + 2 - (intOf v9).toNat)
  case atStart => exact ⟨s0, d, by go_num, Nat.le_refl _, by have := Hgeo.out; omega, Fr.refl _ _, HS1.out.dt, permIn_refl _ _ _, HR1.out.ex⟩
  case round =>
    obtain ⟨i, d', rfl, hi1, hi2, HFr, HDt, HPm, HX⟩ := hrel
    by_cases hlt : i ≤ s2
    · have hlti : (i : Int) ≤ (s2 : Int) := by omega
      have Hnx := hide (next_c P wr ⟨HX.out, Fr.refl _ _⟩)
      go_wp2_with fail
      refine Hnx.out.mono ?_
      rintro e w3 ⟨r, rfl, hR3⟩
      obtain ⟨z, hz, hzm⟩ := and_u64 r m1 (by omega)
      have HF3 := hide (HFr.out.join (hR3.fr.mono fun i _ e => Or.inr e))
      have HD3 := hide (HDt.out.keep hR3.fr Hne.out.1)
      have HX3 := hide hR3.ex
      have hzb : z ≤ 120000 := by omega
      have hzw : IntKind.i64.wrap (z : Int) = (z : Int) := wrap_i64_id _ (by omega) (by omega)
      clear hR3
      obtain ⟨o, ho⟩ : ∃ o, o = if l ≤ z then z - l else z := ⟨_, rfl⟩
      have hol : o < l := by rw [ho]; split <;> omega
      obtain ⟨y, hy⟩ : ∃ y, y = a + o := ⟨_, rfl⟩
      have hyi : (a : Int) + (o : Int) = (y : Int) := by omega
      have hys : y < n := by have := Hgeo.out; omega
      have hxs : i < n := by have := Hgeo.out; omega
      have hyin : (y : Int) < (n : Int) := by omega
      have hxin : (i : Int) < (n : Int) := by omega
      have HS : Hid (St w3 w3 g n d') := ⟨HD3.out, Fr.refl _ _, by have := HPm.out.1; have := HS1.out.sz; omega⟩
      have HP6 := hide (permIn_trans _ _ _ _ _ HPm.out (swp_permIn d' a b i y (by have := Hgeo.out; omega) (by have := Hgeo.out; omega) (by omega) (by have := Hgeo.out; omega) (by have := HS.out.sz; omega)))
      by_cases hzl : l ≤ z
      · have hzli : (l : Int) ≤ (z : Int) := by omega
        have hoz : (z : Int) - (l : Int) = (o : Int) := by rw [ho, if_pos hzl]; omega
        clear ho hy
        by_cases hiy : i = y
        · have c1 := HS.out.dt.cell (j := i) (by have := HS.out.sz; omega)
          have z1 := HS.out.dt.frozen i
          have hS2 := HS.out.swap (i := i) (j := y) 1 (by have := HS.out.sz; omega) (by have := HS.out.sz; omega)
          rw [← hiy] at hS2 HP6
          obtain ⟨vx', hvx'⟩ : ∃ v, v = d'[i]! := ⟨_, rfl⟩
          rw [← hvx'] at c1 hS2
          have HS2 := hide hS2
          clear hvx' hS2
          subst hiy
          go_wp2_with fail
          go_region
          all_goals
            go_wp2_with fail
            go_roundw
            case rel => exact ⟨i + 1, _, by go_num, by omega, by omega, HF3.out.join (HS2.out.fr.mono fun j _ e => Or.inl e), HS2.out.dt, HP6.out, by obtain ⟨x, hx⟩ := HX3.out; exact ⟨x, cells_at hx HS2.out.fr (fun e => Hne.out.1 e.symm)⟩⟩
            case measure => simp [intOf]; omega
        · have hyi2 : ¬ y = i := fun e => hiy e.symm
          have c1 := HS.out.dt.cell (j := i) (by have := HS.out.sz; omega)
          have c2 := HS.out.dt.cell (j := y) (by have := HS.out.sz; omega)
          have z1 := HS.out.dt.frozen i
          have z2 := HS.out.dt.frozen y
          have hS2 := HS.out.swap (i := i) (j := y) 1 (by have := HS.out.sz; omega) (by have := HS.out.sz; omega)
          obtain ⟨vx', hvx'⟩ : ∃ v, v = d'[i]! := ⟨_, rfl⟩
          obtain ⟨vy', hvy'⟩ : ∃ v, v = d'[y]! := ⟨_, rfl⟩
          rw [← hvx'] at c1 hS2
          rw [← hvy'] at c2 hS2
          have HS2 := hide hS2
          clear hvx' hvy' hS2
          go_wp2_with fail
          go_region
          all_goals
            go_wp2_with fail
            go_roundw
            case rel => exact ⟨i + 1, _, by go_num, by omega, by omega, HF3.out.join (HS2.out.fr.mono fun j _ e => Or.inl e), HS2.out.dt, HP6.out, by obtain ⟨x, hx⟩ := HX3.out; exact ⟨x, cells_at hx HS2.out.fr (fun e => Hne.out.1 e.symm)⟩⟩
            case measure => simp [intOf]; omega
      · have hzli : ¬ (l : Int) ≤ (z : Int) := by omega
        have hoz : o = z := by rw [ho, if_neg hzl]
        subst hoz
        clear ho hy
        by_cases hiy : i = y
        · have c1 := HS.out.dt.cell (j := i) (by have := HS.out.sz; omega)
          have z1 := HS.out.dt.frozen i
          have hS2 := HS.out.swap (i := i) (j := y) 1 (by have := HS.out.sz; omega) (by have := HS.out.sz; omega)
          rw [← hiy] at hS2 HP6
          obtain ⟨vx', hvx'⟩ : ∃ v, v = d'[i]! := ⟨_, rfl⟩
          rw [← hvx'] at c1 hS2
          have HS2 := hide hS2
          clear hvx' hS2
          subst hiy
          go_wp2_with fail
          go_region
          all_goals
            go_wp2_with fail
            go_roundw
            case rel => exact ⟨i + 1, _, by go_num, by omega, by omega, HF3.out.join (HS2.out.fr.mono fun j _ e => Or.inl e), HS2.out.dt, HP6.out, by obtain ⟨x, hx⟩ := HX3.out; exact ⟨x, cells_at hx HS2.out.fr (fun e => Hne.out.1 e.symm)⟩⟩
            case measure => simp [intOf]; omega
        · have hyi2 : ¬ y = i := fun e => hiy e.symm
          have c1 := HS.out.dt.cell (j := i) (by have := HS.out.sz; omega)
          have c2 := HS.out.dt.cell (j := y) (by have := HS.out.sz; omega)
          have z1 := HS.out.dt.frozen i
          have z2 := HS.out.dt.frozen y
          have hS2 := HS.out.swap (i := i) (j := y) 1 (by have := HS.out.sz; omega) (by have := HS.out.sz; omega)
          obtain ⟨vx', hvx'⟩ : ∃ v, v = d'[i]! := ⟨_, rfl⟩
          obtain ⟨vy', hvy'⟩ : ∃ v, v = d'[y]! := ⟨_, rfl⟩
          rw [← hvx'] at c1 hS2
          rw [← hvy'] at c2 hS2
          have HS2 := hide hS2
          clear hvx' hvy' hS2
          go_wp2_with fail
          go_region
          all_goals
            go_wp2_with fail
            go_roundw
            case rel => exact ⟨i + 1, _, by go_num, by omega, by omega, HF3.out.join (HS2.out.fr.mono fun j _ e => Or.inl e), HS2.out.dt, HP6.out, by obtain ⟨x, hx⟩ := HX3.out; exact ⟨x, cells_at hx HS2.out.fr (fun e => Hne.out.1 e.symm)⟩⟩
            case measure => simp [intOf]; omega
    · have hlti : ¬ (i : Int) ≤ (s2 : Int) := by omega
      go_wp2_with fail
      go_end0
      exact ⟨rfl, d', ⟨HDt.out, (HS1.out.fr.trans HFr.out).mono (fun j hj e => by rcases e with e | e | e; · exact e
                                                                                  · exact e
                                                                                  · have := Hne.out; omega), by have := HPm.out.1; have := HS1.out.sz; omega⟩, HPm.out⟩
end Go.Proofs.Ythdilabmajaehaa
