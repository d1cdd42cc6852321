/-
  sort: the pivot.
-/
import Derived.Test.YthdilabmajaehaaTb
namespace Go.Proofs.Ythdilabmajaehaa
open Go.RowKit
open Go.Sort (swp PermIn SortedIn SWO swp_get swp_size swp_permIn permIn_refl permIn_trans permIn_mono permIn_all Ins ltInt swo_ltInt)

/-- A row of numbers, and a counter beside it. -/
structure Ds (w wr : World) (g n P : Nat) (d : Array Int) (s : Nat) : Prop where
  dt : Dt wr g d
  sz : d.size = n
  cnt : wr.heap[P]? = some (.cells #[.int .i64 (s : Int)] 3 (0, 0))
  ne : ¬ g = P
  fr : Fr (fun k => k = P) w wr

theorem Ds.keep0 {w wr w2 : World} {g n P : Nat} {d : Array Int} {s : Nat} (h : Ds w wr g n P d s) (f : Fr (fun _ => False) wr w2) : Ds w w2 g n P d s :=
  ⟨h.dt.keep f (fun h => h), h.sz, cells_at h.cnt f (fun h => h), h.ne, h.fr.join (f.mono fun _ _ h => h.elim)⟩
theorem Ds.put {w wr : World} {g n P : Nat} {d : Array Int} {s : Nat} (h : Ds w wr g n P d s) (s' : Nat) : Ds w (wr.setCell ⟨P, 0, none⟩ (.int .i64 (s' : Int))) g n P d s' := by
  have f := Fr.of_setCell wr ⟨P, 0, none⟩ (.int .i64 (s' : Int))
  exact ⟨h.dt.keep f h.ne, h.sz, heap_setCell_one _ h.cnt, h.ne, h.fr.join f⟩
theorem Ds.trans {w wr w2 : World} {g n P : Nat} {d : Array Int} {s s' : Nat} (h : Ds w wr g n P d s) (h2 : Ds wr w2 g n P d s') : Ds w w2 g n P d s' := ⟨h2.dt, h2.sz, h2.cnt, h2.ne, h.fr.join h2.fr⟩
theorem Ds.start {w wr : World} {g n P : Nat} {d : Array Int} {s : Nat} (h : Ds w wr g n P d s) : Ds wr wr g n P d s := ⟨h.dt, h.sz, h.cnt, h.ne, Fr.refl _ _⟩

set_option maxHeartbeats 400000 in
theorem order2_c (g n P a b s : Nat) (d : Array Int) (w : World) (h : Ds w w g n P d s) (_hn : n ≤ 100000) (ha : a < n) (hb : b < n) (hs : s ≤ 1000) :
    Calls Try.prog 78 #[.slice (some ⟨g, 0, none⟩) n n, .int .i64 (a : Int), .int .i64 (b : Int), .pointer (some ⟨P, 0, none⟩)] w fun e w' => ∃ a' b' s' : Nat, e = .returned (.tuple #[.int .i64 (a' : Int), .int .i64 (b' : Int)]) ∧ ((a' = a ∧ b' = b) ∨ (a' = b ∧ b' = a)) ∧ s' ≤ s + 1 ∧ Ds w w' g n P d s' := by
  have H := hide h
  have c1 := h.dt.cell (j := a) (by have := h.sz; omega)
  have c2 := h.dt.cell (j := b) (by have := h.sz; omega)
  obtain ⟨va, hva⟩ : ∃ v, v = d[a]! := ⟨_, rfl⟩
  obtain ⟨vb, hvb⟩ : ∃ v, v = d[b]! := ⟨_, rfl⟩
  rw [← hva] at c1
  rw [← hvb] at c2
  have hai : (a : Int) < (n : Int) := by omega
  have hbi : (b : Int) < (n : Int) := by omega
  clear h hva hvb
  go_enter Try.func78, Try.ntmps78
  go_wp2_with fail
  go_quiet ((go_at_call 64; exact Calls.quiet_of_same (less_c _ _ _)))
  have HS := hide (H.out.keep0 (Fr.of_drewN w nq))
  generalize w.drewN nq = w5 at HS ⊢
  clear c1 c2
  have k0 := cell_of (o := 0) HS.out.cnt rfl
  have z0 := frozen_of (o := 0) HS.out.cnt
  generalize hL : decide (vb < va) = L
  cases L with
  | true =>
    have hs1 : (s : Int) + 1 = ((s + 1 : Nat) : Int) := by omega
    have HP := hide (HS.out.put (s + 1))
    obtain ⟨s1, hs1e⟩ : ∃ s1, s1 = s + 1 := ⟨_, rfl⟩
    rw [← hs1e] at hs1 HP
    have hsb : s1 ≤ 1001 := by omega
    have Hs := hide hs1e
    clear hL hs1e
    go_wp2_with fail
    go_ret2
    exact ⟨b, a, s1, rfl, Or.inr ⟨rfl, rfl⟩, by have := Hs.out; omega, HP.out⟩
  | false =>
    clear hL
    go_wp2_with fail
    go_ret2
    exact ⟨a, b, s, rfl, Or.inl ⟨rfl, rfl⟩, by omega, HS.out⟩

set_option maxHeartbeats 400000 in
theorem median_c (g n P a b c s : Nat) (d : Array Int) (w : World) (h : Ds w w g n P d s) (hn : n ≤ 100000) (ha : a < n) (hb : b < n) (hc : c < n) (hs : s ≤ 990) :
    Calls Try.prog 75 #[.slice (some ⟨g, 0, none⟩) n n, .int .i64 (a : Int), .int .i64 (b : Int), .int .i64 (c : Int), .pointer (some ⟨P, 0, none⟩)] w fun e w' => ∃ m s' : Nat, e = .returned (.int .i64 (m : Int)) ∧ (m = a ∨ m = b ∨ m = c) ∧ s' ≤ s + 3 ∧ Ds w w' g n P d s' := by
  have HO := hide fun (a b s : Nat) (w : World) (h : Ds w w g n P d s) (ha : a < n) (hb : b < n) (hs : s ≤ 1000) => order2_c g n P a b s d w h hn ha hb hs
  have H := hide h
  clear h
  go_enter Try.func75, Try.ntmps75
  go_wp2_with fail
  refine (HO.out a b s w H.out ha hb (by omega)).mono ?_
  rintro e w1 ⟨a1, b1, s1, rfl, h1, hs1, hD1⟩
  have HD1 := hide hD1
  have H1 := hide h1
  have ha1 : a1 < n := by omega
  have hb1 : b1 < n := by omega
  clear hD1 h1
  go_wp2_with fail
  refine (HO.out b1 c s1 w1 HD1.out.start hb1 hc (by omega)).mono ?_
  rintro e w2 ⟨b2, c2, s2, rfl, h2, hs2, hD2⟩
  have HD2 := hide (HD1.out.trans hD2)
  have H2 := hide h2
  have hb2 : b2 < n := by omega
  clear hD2 h2
  go_wp2_with fail
  refine (HO.out a1 b2 s2 w2 HD2.out.start ha1 hb2 (by omega)).mono ?_
  rintro e w3 ⟨a3, b3, s3, rfl, h3, hs3, hD3⟩
  have HD3 := hide (HD2.out.trans hD3)
  have H3 := hide h3
  clear hD3 h3
  go_wp2_with fail
  go_ret
  exact ⟨b3, s3, rfl, by have := H1.out; have := H2.out; have := H3.out; omega, by omega, HD3.out⟩

set_option maxHeartbeats 400000 in
theorem adjacent_c (g n P a s : Nat) (d : Array Int) (w : World) (h : Ds w w g n P d s) (hn : n ≤ 100000) (h1 : 1 ≤ a) (ha : a + 1 < n) (hs : s ≤ 990) :
    Calls Try.prog 74 #[.slice (some ⟨g, 0, none⟩) n n, .int .i64 (a : Int), .pointer (some ⟨P, 0, none⟩)] w fun e w' => ∃ m s' : Nat, e = .returned (.int .i64 (m : Int)) ∧ (m = a - 1 ∨ m = a ∨ m = a + 1) ∧ s' ≤ s + 3 ∧ Ds w w' g n P d s' := by
  have HO := hide (median_c g n P (a - 1) a (a + 1) s d w h hn (by omega) (by omega) (by omega) hs)
  obtain ⟨x, hx⟩ : ∃ x, x = a - 1 := ⟨_, rfl⟩
  obtain ⟨y, hy⟩ : ∃ y, y = a + 1 := ⟨_, rfl⟩
  have hxi : (a : Int) - 1 = (x : Int) := by omega
  have hyi : (a : Int) + 1 = (y : Int) := by omega
  rw [← hx, ← hy] at HO
  rw [← hx, ← hy]
  have hxb : x ≤ 100000 := by omega
  have hyb : y ≤ 100000 := by omega
  clear h hx hy
  go_enter Try.func74, Try.ntmps74
  go_wp2_with fail
  refine HO.out.mono ?_
  rintro e w1 ⟨m, s1, rfl, h1, hs1, hD1⟩
  have HD1 := hide hD1
  clear hD1
  go_wp2_with fail
  go_ret
  exact ⟨m, s1, rfl, h1, hs1, HD1.out⟩

set_option maxHeartbeats 1000000 in
set_option maxRecDepth 100000 in
theorem choose_c (g n a b : Nat) (d : Array Int) (w : World) (h : St w w g n d) (hn : n ≤ 100000) (hab : a + 12 < b) (hb : b ≤ n) :
    Calls Try.prog 61 #[.slice (some ⟨g, 0, none⟩) n n, .int .i64 (a : Int), .int .i64 (b : Int)] w fun e w' => ∃ p t : Nat, e = .returned (.tuple #[.int .i64 (p : Int), .int .i64 (t : Int)]) ∧ a ≤ p ∧ p < b ∧ t ≤ 2 ∧ Fr (fun _ => False) w w' := by
  obtain ⟨l, hl⟩ : ∃ l, l = b - a := ⟨_, rfl⟩
  obtain ⟨q, hq⟩ : ∃ q, q = l / 4 := ⟨_, rfl⟩
  obtain ⟨i, hi⟩ : ∃ i, i = a + q := ⟨_, rfl⟩
  obtain ⟨j, hj⟩ : ∃ j, j = a + q * 2 := ⟨_, rfl⟩
  obtain ⟨k, hk⟩ : ∃ k, k = a + q * 3 := ⟨_, rfl⟩
  have hli : (b : Int) - (a : Int) = (l : Int) := by omega
  have hq1 : (l : Int).tdiv 4 = (q : Int) := by rw [Int.tdiv_eq_ediv_of_nonneg (by omega), hq]; omega
  have hq2 : (l : Int) / 4 = (q : Int) := by rw [hq]; omega
  have hii : (a : Int) + (q : Int) = (i : Int) := by omega
  obtain ⟨q3, hq3⟩ : ∃ q3 : Nat, (q : Int) * 2 = (q3 : Int) := ⟨q * 2, by omega⟩
  obtain ⟨q4, hq4⟩ : ∃ q4 : Nat, (q : Int) * 3 = (q4 : Int) := ⟨q * 3, by omega⟩
  have hji : (a : Int) + (q3 : Int) = (j : Int) := by omega
  have hki : (a : Int) + (q4 : Int) = (k : Int) := by omega
  have hl12 : 12 < l := by omega
  have hl8 : ¬ (l : Int) < 8 := by omega
  have hb1 : i ≤ 100000 := by omega
  have hb2 : j ≤ 100000 := by omega
  have hb3 : k ≤ 100000 := by omega
  have hb4 : q3 ≤ 100000 := by omega
  have hb5 : q4 ≤ 100000 := by omega
  have hb6 : l ≤ 100000 := by omega
  have hb7 : q ≤ 100000 := by omega
  obtain ⟨w1, hw1⟩ : ∃ w1, w1 = w.alloc (.cells #[.int .i64 0] 3) := ⟨_, rfl⟩
  have hF1 : Fr (fun _ => False) w w1 := by rw [hw1]; exact Fr.of_alloc _ _
  have hgl : g < w.heap.size := lt_of h.dt.obj
  have HD0 : Hid (Ds w1 w1 g n w.heap.size d 0) := ⟨h.dt.keep hF1 (fun e => e), h.sz, by rw [hw1]; exact heap_alloc_at rfl, by omega, Fr.refl _ _⟩
  have HM := hide fun (a b c s : Nat) (w : World) (P : Nat) (h : Ds w w g n P d s) (ha : a < n) (hb : b < n) (hc : c < n) (hs : s ≤ 990) => median_c g n P a b c s d w h hn ha hb hc hs
  have HA := hide fun (a s : Nat) (w : World) (P : Nat) (h : Ds w w g n P d s) (h1 : 1 ≤ a) (ha : a + 1 < n) (hs : s ≤ 990) => adjacent_c g n P a s d w h hn h1 ha hs
  have HF1 := hide hF1
  have Hw1 := hide hw1
  have Hgeo : Hid (a + q ≤ i ∧ i ≤ a + q ∧ j = a + q * 2 ∧ k = a + q * 3 ∧ q = l / 4 ∧ l = b - a ∧ 3 ≤ q) := ⟨by omega, by omega, hj, hk, hq, hl, by omega⟩
  clear h hF1 hw1 hgl hl hq hi hj hk
  by_cases h50 : l < 50
  · have h50i : (l : Int) < 50 := by omega
    go_enter Try.func61, Try.ntmps61
    go_wp2_with fail
    rw [← Hw1.out]
    have hg := Hgeo.out
    refine (HM.out i j k 0 w1 _ HD0.out (by omega) (by omega) (by omega) (by omega)).mono ?_
    rintro e w2 ⟨m, s, rfl, hm, hs, hD⟩
    have HD := hide hD
    have Hm := hide hm
    clear hD hm hg
    have k0 := cell_of (o := 0) HD.out.cnt rfl
    have HFf : Hid (Fr (fun _ => False) w _) := frJ HF1.out HD.out.fr (fun i e => by have e2 : i = w.heap.size := e; omega)
    have hmab : a ≤ m ∧ m < b := by have := Hgeo.out; have := Hm.out; omega
    obtain ⟨hma, hmb⟩ := hmab
    by_cases h0 : s = 0
    · have e0 : (s : Int) = 0 := by omega
      have e1 : ((s : Int) == 0) = true := by rw [e0]; rfl
      go_wp2_with fail
      go_ret2
      exact ⟨m, 1, rfl, hma, hmb, by omega, HFf.out⟩
    · have e1 : ((s : Int) == 0) = false := beq_false_of_ne (by omega)
      by_cases h12 : s = 12
      · have e2 : ((s : Int) == 12) = true := by rw [show (s : Int) = 12 from by omega]; rfl
        have e3 : (s : Int) = 12 := by omega
        go_wp2_with fail
        go_ret2
        exact ⟨m, 2, rfl, hma, hmb, by omega, HFf.out⟩
      · have e2 : ((s : Int) == 12) = false := beq_false_of_ne (by omega)
        go_wp2_with fail
        go_ret2
        exact ⟨m, 0, rfl, hma, hmb, by omega, HFf.out⟩
  · have h50i : ¬ (l : Int) < 50 := by omega
    go_enter Try.func61, Try.ntmps61
    go_wp2_with fail
    rw [← Hw1.out]
    have hg := Hgeo.out
    refine (HA.out i 0 w1 _ HD0.out (by omega) (by omega) (by omega)).mono ?_
    rintro e w2 ⟨m1, s1, rfl, hm1, hs1, hD⟩
    have HD1 := hide hD
    have Hm1 := hide hm1
    have hmb1 : m1 < n := by omega
    clear hD hm1 hg
    go_wp2_with fail
    have hg := Hgeo.out
    refine (HA.out j s1 w2 _ HD1.out.start (by omega) (by omega) (by omega)).mono ?_
    rintro e w3 ⟨m2, s2, rfl, hm2, hs2, hD⟩
    have HD2 := hide (HD1.out.trans hD)
    have Hm2 := hide hm2
    have hmb2 : m2 < n := by omega
    clear hD hm2 hg
    go_wp2_with fail
    have hg := Hgeo.out
    refine (HA.out k s2 w3 _ HD2.out.start (by omega) (by omega) (by omega)).mono ?_
    rintro e w4 ⟨m3, s3, rfl, hm3, hs3, hD⟩
    have HD3 := hide (HD2.out.trans hD)
    have Hm3 := hide hm3
    have hmb3 : m3 < n := by omega
    clear hD hm3 hg
    go_wp2_with fail
    have hm1 := Hm1.out
    have hm2 := Hm2.out
    have hm3 := Hm3.out
    refine (HM.out m1 m2 m3 s3 w4 _ HD3.out.start hmb1 hmb2 hmb3 (by omega)).mono ?_
    rintro e w5 ⟨m, s, rfl, hm, hs, hD⟩
    have HD := hide (HD3.out.trans hD)
    have Hm : Hid (m = i - 1 ∨ m = i ∨ m = i + 1 ∨ m = j - 1 ∨ m = j ∨ m = j + 1 ∨ m = k - 1 ∨ m = k ∨ m = k + 1) := by show _ ∨ _; omega
    clear hD hm hm1 hm2 hm3
    have k0 := cell_of (o := 0) HD.out.cnt rfl
    have HFf : Hid (Fr (fun _ => False) w _) := frJ HF1.out HD.out.fr (fun i e => by have e2 : i = w.heap.size := e; omega)
    have hmab : a ≤ m ∧ m < b := by have := Hgeo.out; have := Hm.out; omega
    obtain ⟨hma, hmb⟩ := hmab
    by_cases h0 : s = 0
    · have e0 : (s : Int) = 0 := by omega
      have e1 : ((s : Int) == 0) = true := by rw [e0]; rfl
      go_wp2_with fail
      go_ret2
      exact ⟨m, 1, rfl, hma, hmb, by omega, HFf.out⟩
    · have e1 : ((s : Int) == 0) = false := beq_false_of_ne (by omega)
      by_cases h12 : s = 12
      · have e2 : ((s : Int) == 12) = true := by rw [show (s : Int) = 12 from by omega]; rfl
        have e3 : (s : Int) = 12 := by omega
        go_wp2_with fail
        go_ret2
        exact ⟨m, 2, rfl, hma, hmb, by omega, HFf.out⟩
      · have e2 : ((s : Int) == 12) = false := beq_false_of_ne (by omega)
        go_wp2_with fail
        go_ret2
        exact ⟨m, 0, rfl, hma, hmb, by omega, HFf.out⟩
end Go.Proofs.Ythdilabmajaehaa
