/-
  lzw: LzwRuns.
-/
import Derived.Test.YtdbgolklgiadeaaYr
import Derived.Test.YtdbgolklgiadeaaYu
namespace Go.Proofs.Ytdbgolklgiadeaa
open Go.RowKit

/-- The codes of a row of one value: j of them behind the value, at values in all. -/
structure Wu (wr : World) (lo K k y m j at_ : Nat) : Prop where
  it : ∃ v p s, Pw wr lo K v p ∧ Led k m v p s ∧ s.rows.length = j ∧ s.last = List.replicate (j + 1) y ∧ s.out = List.replicate at_ y ∧ p ≤ 12 * (2 + j)
  full : nextN k j ≤ 4096
  many : at_ ≤ m
  few : j ≤ at_

theorem Wu.put {wr : World} {lo K k y m j at_ : Nat} (hk : 2 ≤ k ∧ k ≤ 8) (h : Wu wr lo K k y m j at_) (hn : nextN k j < 4096) (hm : at_ + (j + 2) ≤ m) (hm2 : m ≤ 20000) (hlo : lo ≤ wr.heap.size) :
    Calls Try.prog 26 #[.pointer (some ⟨K, 0, none⟩), .int .i64 ((nextN k j : Nat) : Int), .int .i64 ((wid k j : Nat) : Int)] wr fun e w' => e = .returned (.tuple #[]) ∧ Wu w' lo K k y m (j + 1) (at_ + (j + 2)) ∧ Fr (fun i => lo ≤ i) wr w' := by
  obtain ⟨v, p, s, h1, h2, h3, h4, h5, h6⟩ := h.it
  have hw := wid_le k hk j
  have hlt : nextN k j < 2 ^ wid k j := by
    rcases next_lt k hk j h.full with h | h
    · exact h
    · omega
  have hfew := h.few
  refine (h1.put (nextN k j) (wid k j) (by omega) hlt (by omega) hlo).mono ?_
  rintro e w' ⟨rfl, a1, a2⟩
  have hl : s.last ≠ [] := by rw [h4]; simp
  have hP := pow_le k hk.2
  have hx : rowOf k (nextN k j) s = some (List.replicate (j + 2) y) := by
    unfold rowOf
    rw [h3, if_neg (by unfold nextN; omega), if_neg hl, if_neg (by omega), if_pos rfl, h4]
    congr 1
    rw [show j + 2 = (j + 1) + 1 from rfl, List.replicate_succ' (n := j + 1)]
    rfl
  have ho : (onward k s (List.replicate (j + 2) y)).rows.length = j + 1 := by
    show (made k s _).length = _
    unfold made
    rw [if_pos ⟨hl, by rw [h3]; exact hn⟩, List.length_append, h3]
    rfl
  refine ⟨rfl, ⟨⟨_, _, onward k s (List.replicate (j + 2) y), a1, ?_, ho, rfl, ?_, by omega⟩, by unfold nextN at *; omega, hm, by omega⟩, a2⟩
  · have := h2.row (c := nextN k j) (by rw [h3]; exact hlt) (by unfold nextN; omega) (by unfold nextN; omega) hx (by rw [h5]; simp; omega)
    rw [h3] at this
    exact this
  · show s.out ++ _ = _
    rw [h5, List.replicate_append_replicate]

theorem Wu.end_ {wr : World} {lo K k y m j at_ : Nat} (hk : 2 ≤ k ∧ k ≤ 8) (h : Wu wr lo K k y m j at_) (hm2 : m ≤ 20000) (hlo : lo ≤ wr.heap.size) :
    Calls Try.prog 26 #[.pointer (some ⟨K, 0, none⟩), .int .i64 ((2 ^ k + 1 : Nat) : Int), .int .i64 ((wid k j : Nat) : Int)] wr fun e w' => e = .returned (.tuple #[]) ∧ Fr (fun i => lo ≤ i) wr w' ∧ ∃ v p, Pw w' lo K v p ∧ p ≤ 400000 ∧ ∀ Z : List Nat, Z.length = (p + 7) / 8 → leNum Z = v → ReadOk Z (k : Int) (m : Int) (.ok (List.replicate at_ y)) := by
  obtain ⟨v, p, s, h1, h2, h3, h4, h5, h6⟩ := h.it
  have hw := wid_le k hk j
  have hfew := h.few
  have hmany := h.many
  have hlt : 2 ^ k + 1 < 2 ^ wid k j := by
    have h1 : 2 ^ (k + 1) ≤ 2 ^ wid k j := Nat.pow_le_pow_right (by omega) hw.1
    have h2 : 2 ^ 2 ≤ 2 ^ k := Nat.pow_le_pow_right (by omega) hk.1
    rw [Nat.pow_succ] at h1
    omega
  refine (h1.put (2 ^ k + 1) (wid k j) (by omega) hlt (by omega) hlo).mono ?_
  rintro e w' ⟨rfl, a1, a2⟩
  refine ⟨rfl, a2, _, _, a1, by omega, fun Z hZ hv => ?_⟩
  have := h2.read hk (Z := Z) (by rw [h3]; exact hZ) hv
  rw [h5] at this
  exact this

/-- The first value, behind a Clear. -/
theorem Wu.start {w1 : World} {lo K k y m : Nat} (hk : 2 ≤ k ∧ k ≤ 8) (h : Pw w1 lo K (2 ^ k) (k + 1)) (hy : y < 2 ^ k) (hm : 1 ≤ m) (hlo : lo ≤ w1.heap.size) :
    Calls Try.prog 26 #[.pointer (some ⟨K, 0, none⟩), .int .i64 (y : Int), .int .i64 ((k + 1 : Nat) : Int)] w1 fun e w' => e = .returned (.tuple #[]) ∧ Wu w' lo K k y m 0 1 ∧ Fr (fun i => lo ≤ i) w1 w' := by
  have hP := pow_le k hk.2
  have hyk : y < 2 ^ (k + 1) := by rw [Nat.pow_succ]; omega
  refine (h.put y (k + 1) (by omega) hyk (by omega) hlo).mono ?_
  rintro e w' ⟨rfl, a1, a2⟩
  refine ⟨rfl, ⟨⟨_, _, onward k ⟨k + 1, [], [], []⟩ [y], a1, ?_, rfl, rfl, rfl, by omega⟩, by unfold nextN; omega, hm, by omega⟩, a2⟩
  have h1 := (Led.init k m).clear (by show 2 ^ k < 2 ^ (k + 1); exact Nat.pow_lt_pow_right (by omega) (by omega))
  have e1 : wid k zinit.rows.length = k + 1 := rfl
  rw [e1] at h1
  have e2 : (⟨0 + (k + 1), [], [], zinit.out⟩ : Zs) = ⟨k + 1, [], [], []⟩ := by simp [zinit]
  rw [e2, Nat.zero_add, Nat.pow_zero, Nat.mul_one, Nat.zero_add] at h1
  exact h1.row (c := y) (x := [y]) hyk (by omega) (by omega) (by unfold rowOf; rw [if_pos hy]) (by simp; omega)

theorem and_u8 (v k : Nat) (hv : v < 256) (hk : 2 ≤ k ∧ k ≤ 8) : bits .and .u8 (v : Int) ((2 ^ k - 1 : Nat) : Int) = ((v % 2 ^ k : Nat) : Int) := by
  have h1 : ∀ i : Fin 7, ∀ j : Fin 256, bits .and .u8 ((j.1 : Nat) : Int) ((2 ^ (i.1 + 2) - 1 : Nat) : Int) = ((j.1 % 2 ^ (i.1 + 2) : Nat) : Int) := by decide +kernel
  have := h1 ⟨k - 2, by omega⟩ ⟨v, hv⟩
  simp only [show k - 2 + 2 = k by omega] at this
  exact this

set_option maxHeartbeats 6400000 in
set_option maxRecDepth 100000 in
theorem runs_law (v n sz : Nat) (w : World) (hv : v < 256) (hn : n < 65536) (hs : sz < 256) : Calls Try.prog 8 #[.int .u8 (v : Int), .int .u16 (n : Int), .int .u8 (sz : Int)] w fun e w' => e = .returned (.bool true) ∧ Fr (fun _ => False) w w' := by
  have q1 : IntKind.i64.wrap (n : Int) = (n : Int) := wrap_i64_id _ (by omega) (by omega)
  have q2 : IntKind.i64.wrap (sz : Int) = (sz : Int) := wrap_i64_id _ (by omega) (by omega)
  obtain ⟨N, hN⟩ : ∃ N, N = n % 20000 := ⟨_, rfl⟩
  have hN2 : N < 20000 := by omega
  have hNi : (n : Int).tmod 20000 = (N : Int) := by rw [Int.tmod_eq_emod_of_nonneg (by omega), hN]; simp
  obtain ⟨z, hz⟩ : ∃ z, z = sz % 7 := ⟨_, rfl⟩
  have hzi : (sz : Int).tmod 7 = (z : Int) := by rw [Int.tmod_eq_emod_of_nonneg (by omega), hz]; simp
  obtain ⟨k, hk⟩ : ∃ k, k = 2 + z := ⟨_, rfl⟩
  have hki : (2 : Int) + (z : Int) = (k : Int) := by omega
  have hk2 : 2 ≤ k ∧ k ≤ 8 := by omega
  obtain ⟨m, hm⟩ : ∃ m, m = 1 + N := ⟨_, rfl⟩
  have hmi : (1 : Int) + (N : Int) = (m : Int) := by omega
  have hm1 : 1 ≤ m ∧ m ≤ 20000 := by omega
  have Hk := hide hk2
  have hmk := makeB m (by omega)
  have hk8 : k ≤ 8 := hk2.2
  clear hN hz hk hm
  go_enter Try.func8, Try.ntmps8
  go_wp2_with fail
  refine (awake_c w).mono ?_
  rintro e w0 ⟨rfl, hF0⟩
  have HF0 := hide hF0
  clear hF0
  go_upto_region 5 with fail
  obtain ⟨D, hD⟩ : ∃ D, D = w0.heap.size := ⟨_, rfl⟩
  obtain ⟨w1, hw1⟩ : ∃ w1, w1 = w0.alloc (.cells (cellsOf (List.replicate m 0)).toArray 5) := ⟨_, rfl⟩
  have HB1 : Hid (Bk w1 D (List.replicate m 0)) := by
    rw [hw1]
    exact ⟨_, heap_alloc_at hD, by simp [cellsOf], by simp [cellsOf]⟩
  have HF01 : Hid (Fr (fun _ => False) w0 w1) := by rw [hw1]; exact Fr.of_alloc _ _
  rw [← hw1, ← hD]
  have HD := hide hD
  obtain ⟨y, hy⟩ : ∃ y, y = v % 2 ^ k := ⟨_, rfl⟩
  have hyk : Hid (y < 2 ^ k) := by show _ < _; rw [hy]; exact Nat.mod_lt _ (Nat.two_pow_pos _)
  have hy8 : y < 256 := by rw [hy]; exact Nat.lt_of_le_of_lt (Nat.mod_le _ _) hv
  have hand := and_u8 v k hv hk2
  rw [← hy] at hand
  have hand2 : bits .and .u8 (v : Int) (((2 : Int) ^ k - 1) % 256) = (y : Int) := by
    have h1 : ((2 : Int) ^ k - 1) % 256 = ((2 ^ k - 1 : Nat) : Int) := by
      have h2 := pow_le k hk2.2
      have h3 : 1 ≤ 2 ^ k := Nat.two_pow_pos k
      have h4 : (2 : Int) ^ k = ((2 ^ k : Nat) : Int) := by simp
      rw [h4]
      omega
    rw [h1]
    exact hand
  have hwk : IntKind.u64.wrap (k : Int) = (k : Int) := by show (k : Int) % 18446744073709551616 = k; omega
  clear hw1 hD hmk hy hand
  go_wp2_with fail
  go_loopw [9] (fun iv wr => ∃ i : Nat, i ≤ m ∧ iv = .int .i64 (i : Int) ∧ Hid (Bk wr D (List.replicate i y ++ List.replicate (m - i) 0)) ∧ Hid (Fr (fun j => j = D) w1 wr)) (fun iv _ => m - (intOf iv).toNat)
  case atStart => exact ⟨0, Nat.zero_le _, rfl, by show Bk _ _ _; simpa using HB1.out, Fr.refl _ _⟩
  case round =>
    obtain ⟨i, hi, rfl, HB, HF⟩ := hrel
    by_cases hlt : i < m
    · have hlti : (i : Int) < (m : Int) := by omega
      obtain ⟨c0, f0⟩ := HB.out.cell i 0 (by rw [List.getElem?_append_right (by simp), List.length_replicate, Nat.sub_self, List.getElem?_replicate_of_lt (by omega)])
      have hset : (List.replicate i y ++ List.replicate (m - i) 0).set i y = List.replicate (i + 1) y ++ List.replicate (m - (i + 1)) 0 := by
        have e : m - i = (m - (i + 1)) + 1 := by omega
        rw [List.set_append_right _ _ (by simp), List.length_replicate, Nat.sub_self, e, List.replicate_succ, List.set_cons_zero, List.replicate_succ' (n := i), List.append_assoc]
        rfl
      have HB2 := hide (HB.out.set i y)
      rw [hset] at HB2
      have HF2 := hide (HF.out.join (Fr.of_setCell wr ⟨D, i, none⟩ (.int .u8 (y : Int))))
      clear hset
      go_wp2_with fail
      go_roundw
      case rel => exact ⟨i + 1, by omega, by go_num, HB2.out, HF2.out⟩
      case measure => simp [intOf]; omega
    · have e : i = m := by omega
      have hnl : ¬ (i : Int) < (m : Int) := by omega
      obtain ⟨P, hP⟩ : ∃ P, P = 2 ^ k := ⟨_, rfl⟩
      have hPi : (2 : Int) ^ k = (P : Int) := by rw [hP]; simp
      have hP1 : 4 ≤ P := by rw [hP]; exact Nat.pow_le_pow_right (n := 2) (by omega) Hk.out.1
      have hP2 : P ≤ 256 := by rw [hP]; exact pow_le k Hk.out.2
      have HP := hide hP
      have HBm : Hid (Bk wr D (List.replicate m y)) := by
        have h := HB.out
        rw [e, Nat.sub_self, List.replicate_zero, List.append_nil] at h
        exact h
      have HFm : Hid (Fr (fun _ => False) w wr) := frJ (HF0.out.join HF01.out) HF.out fun j hj => by
        have e3 : j = D := hj
        rw [e3, HD.out]
        exact HF0.out.size
      have hDlt : D < wr.heap.size := by obtain ⟨cur, hh, _⟩ := HBm.out; exact lt_of hh
      clear e hlt
      obtain ⟨lo, hlo⟩ : ∃ lo, lo = wr.heap.size := ⟨_, rfl⟩
      obtain ⟨w2, hw2⟩ : ∃ w2, w2 = wr.alloc (.cells #[.slice none 0 0, .bool false] 54) := ⟨_, rfl⟩
      have hF2 : Fr (fun _ => False) wr w2 := by rw [hw2]; exact Fr.of_alloc _ _
      have hPw : Pw w2 lo lo 0 0 := ⟨⟨none, [], ⟨⟨.slice none 0 0, by rw [hw2]; exact heap_alloc_at hlo, World.ownsRow_nil _ _ _ _, rfl⟩, fun j e => by cases e⟩, fun b hb => (by cases hb), rfl, rfl, fun j e => by cases e⟩, Nat.le_refl _⟩
      have Hput := hide (hPw.put P (k + 1) (by omega) (by rw [hP]; exact Nat.pow_lt_pow_right (by omega) (by omega)) (by omega) (by rw [hlo]; exact hF2.size))
      have HF2 := hide (HFm.out.join hF2)
      have HB2 := hide (HBm.out.fr hF2)
      have Hlo2 : Hid (lo ≤ w2.heap.size) := by show _ ≤ _; rw [hlo]; exact hF2.size
      have HDlo : Hid (D < lo) := by show _ < _; omega
      have Hwlo : Hid (w.heap.size ≤ lo) := by show _ ≤ _; rw [hlo]; exact HFm.out.size
      have Hlo := hide hlo
      have Hw2 := hide hw2
      have HLb : Hid (∀ W, Fr (fun j => lo ≤ j) w2 W → Lies W (.slice (some ⟨D, 0, none⟩) m m) (List.replicate m y)) := fun W f => by
        have h := HB2.out.lies m
        rw [List.length_replicate] at h
        refine lies_frS h f fun ad n c e _ hS => ?_
        injection e with e1 _ _
        injection e1 with e1
        subst e1
        have := HDlo.out
        have hS' : lo ≤ D := hS
        omega
      have HFw : Hid (∀ W, Fr (fun j => lo ≤ j) w2 W → Fr (fun _ => False) w W) := fun W f => frJ HF2.out f fun j hj => Nat.le_trans Hwlo.out hj
      have HL0 : Hid (∀ W, Fr (fun j => lo ≤ j) w2 W → W.cell? ⟨D, 0, none⟩ = some (.int .u8 (y : Int))) := fun W f => (cell_blk (a := ⟨D, 0, none⟩) (f.block D (by have := HDlo.out; have := Hlo2.out; omega) (fun hS => by have := HDlo.out; have hS' : lo ≤ D := hS; omega))).trans (HB2.out.cell 0 y (by rw [List.getElem?_replicate_of_lt (by omega)])).1
      have hm0 : 0 < m := by omega
      have qy : IntKind.i64.wrap (y : Int) = (y : Int) := wrap_i64_id _ (by omega) (by omega)
      clear hP hw2 hF2 hPw hlo hDlt HB HF HB1 HF01
      go_wp2_with fail
      rw [← Hw2.out, ← Hlo.out]
      refine (calls_args Hput.out (by rfl)).mono ?_
      rintro e w3 ⟨rfl, hp3, hF3⟩
      have hpw3 : Pw w3 lo lo (2 ^ k) (k + 1) := by
        rw [Nat.zero_add, Nat.pow_zero, Nat.mul_one, Nat.zero_add, HP.out] at hp3
        exact hp3
      have c3 := HL0.out w3 hF3
      have HSt := hide (Wu.start (m := m) Hk.out hpw3 hyk.out hm1.1 (Nat.le_trans Hlo2.out hF3.size))
      have HF3 := hide hF3
      clear hp3 hpw3 hF3 Hput
      go_wp2_with fail
      refine (calls_args HSt.out (by rfl)).mono ?_
      rintro e w4 ⟨rfl, hu4, hF4⟩
      have HU4 := hide hu4
      have HF4 := hide (HF3.out.join hF4)
      have hn0 : Hid (nextN k 0 = P + 2) := by show _ = _; unfold nextN; rw [HP.out]
      clear hu4 hF4 HSt c3
      go_wp2_with fail
      go_loopw [12, 13, 14, 15] (fun v12 v13 v14 v15 wx => ∃ j at_ R : Nat, v12 = .int .i64 ((wid k j : Nat) : Int) ∧ v13 = .int .i64 ((nextN k j : Nat) : Int) ∧ v14 = .int .i64 (at_ : Int) ∧ v15 = .int .i64 (R : Int) ∧ R = j + 2 ∧ at_ ≤ m ∧ Hid (Wu wx lo lo k y m j at_) ∧ Hid (Fr (fun i => lo ≤ i) w2 wx)) (fun _ _ v14 _ _ => m - (intOf v14).toNat)
      case atStart => exact ⟨0, 1, 2, rfl, by rw [hn0.out]; rfl, rfl, rfl, rfl, hm1.1, HU4.out, HF4.out⟩
      case round =>
        obtain ⟨j, at_, R, rfl, rfl, rfl, rfl, hR, hat, HU, HFx⟩ := hrel
        obtain ⟨N, hN⟩ : ∃ N, N = nextN k j := ⟨_, rfl⟩
        obtain ⟨W, hW⟩ : ∃ W, W = wid k j := ⟨_, rfl⟩
        have hwb := wid_le k Hk.out j
        have hNb := HU.out.full
        rw [← hN] at hNb ⊢
        rw [← hW] at hwb ⊢
        have Hlx : Hid (lo ≤ _) := Nat.le_trans Hlo2.out HFx.out.size
        have HN := hide hN
        have HW := hide hW
        have HR := hide hR
        by_cases hgo : at_ + R ≤ m ∧ N < 4096
        · obtain ⟨hg1, hg2⟩ := hgo
          have hg3 : (R : Int) ≤ (m : Int) - (at_ : Int) := by omega
          have hg4 : (N : Int) < 4096 := by omega
          have HPt := hide (HU.out.put Hk.out (by rw [← HN.out]; exact hg2) (by rw [← HR.out]; exact hg1) hm1.2 Hlx.out)
          rw [← HN.out, ← HW.out] at HPt
          have Hwid : Hid (wid k (j + 1) = if N + 1 = 2 ^ W ∧ W < 12 then W + 1 else W) := by
            show _ = _
            have e : nextN k (j + 1) = N + 1 := by rw [HN.out]; unfold nextN; omega
            simp only [wid, e, ← HW.out]
          have Hnx : Hid (nextN k (j + 1) = N + 1) := by show _ = _; rw [HN.out]; unfold nextN; omega
          obtain ⟨Q, hQ⟩ : ∃ Q, Q = 2 ^ W := ⟨_, rfl⟩
          have hQi : (2 : Int) ^ W = (Q : Int) := by rw [hQ]; simp
          have hQ2 : Q ≤ 4096 := by rw [hQ]; exact Nat.pow_le_pow_right (n := 2) (by omega) hwb.2
          have hwW : IntKind.u64.wrap (W : Int) = (W : Int) := by show (W : Int) % 18446744073709551616 = W; omega
          rw [← hQ] at Hwid
          clear hQ hN hW hR hg1 hg2
          by_cases h1 : N + 1 = Q
          · have t1 : ((N : Int) + 1 == (Q : Int)) = true := by rw [beq_iff_eq]; omega
            by_cases h2 : W < 12
            · have t2 : (W : Int) < 12 := by omega
              rw [if_pos ⟨h1, h2⟩] at Hwid
              clear h1
              go_wp2_with fail
              refine HPt.out.mono ?_
              rintro e w5 ⟨rfl, hu5, hF5⟩
              have HU5 := hide hu5
              have HF5 := hide (HFx.out.join hF5)
              clear hu5 hF5
              go_wp2_with fail
              go_roundw
              case rel => exact ⟨j + 1, at_ + (j + 2), R + 1, by rw [Hwid.out]; rfl, by rw [Hnx.out]; rfl, by rw [HR.out]; go_num, by go_num, by rw [HR.out], by have := HU5.out.many; omega, HU5.out, HF5.out⟩
              case measure => simp [intOf]; have := HR.out; have := HU5.out.many; omega
            · have t2 : ¬ (W : Int) < 12 := by omega
              rw [if_neg (fun h => h2 h.2)] at Hwid
              clear h1
              go_wp2_with fail
              refine HPt.out.mono ?_
              rintro e w5 ⟨rfl, hu5, hF5⟩
              have HU5 := hide hu5
              have HF5 := hide (HFx.out.join hF5)
              clear hu5 hF5
              go_wp2_with fail
              go_roundw
              case rel => exact ⟨j + 1, at_ + (j + 2), R + 1, by rw [Hwid.out], by rw [Hnx.out]; rfl, by rw [HR.out]; go_num, by go_num, by rw [HR.out], by have := HU5.out.many; omega, HU5.out, HF5.out⟩
              case measure => simp [intOf]; have := HR.out; have := HU5.out.many; omega
          · have t1 : ((N : Int) + 1 == (Q : Int)) = false := by rw [beq_eq_false_iff_ne]; omega
            rw [if_neg (fun h => h1 h.1)] at Hwid
            clear h1
            go_wp2_with fail
            refine HPt.out.mono ?_
            rintro e w5 ⟨rfl, hu5, hF5⟩
            have HU5 := hide hu5
            have HF5 := hide (HFx.out.join hF5)
            clear hu5 hF5
            go_wp2_with fail
            go_roundw
            case rel => exact ⟨j + 1, at_ + (j + 2), R + 1, by rw [Hwid.out], by rw [Hnx.out]; rfl, by rw [HR.out]; go_num, by go_num, by rw [HR.out], by have := HU5.out.many; omega, HU5.out, HF5.out⟩
            case measure => simp [intOf]; have := HR.out; have := HU5.out.many; omega
        · have hstop : Hid (¬ (R : Int) ≤ (m : Int) - (at_ : Int) ∨ ((R : Int) ≤ (m : Int) - (at_ : Int) ∧ decide ((N : Int) < 4096) = false)) := by
            show _ ∨ _
            by_cases h1 : at_ + R ≤ m
            · exact Or.inr ⟨by omega, decide_eq_false (by omega)⟩
            · exact Or.inl (by omega)
          have HE := hide (HU.out.end_ Hk.out hm1.2 Hlx.out)
          rw [← HP.out, ← HW.out] at HE
          clear hgo hN hW hR
          rcases hstop.out with hst | ⟨hst, hst2⟩
          · go_wp2_with fail
            refine (calls_args HE.out (by rfl)).mono ?_
            rintro e w5 ⟨rfl, hF5, vv, pp, hp5, hpb, hRd⟩
            have HF5 := hide (HFx.out.join hF5)
            have HO := hide (hp5.out (by omega))
            have HRd := hide hRd
            clear hF5 hp5 hRd
            go_wp2_with fail
            refine HO.out.mono ?_
            rintro e w6 ⟨Z, zc, rfl, hLZ, hZb, hZl, hZv, hZlt, hF6⟩
            have HRk := hide (HRd.out Z hZl hZv)
            have HF6 := hide (HF5.out.join (hF6.mono fun _ _ e => e.elim))
            have hZl2 : Z.length ≤ 60000 := by omega
            have HRr := hide (read_at (.slice (some ⟨w5.heap.size, 0, none⟩) Z.length zc) Z (k : Int) (m : Int) w6 hLZ hZb (by omega) (by omega))
            clear hLZ hZb hZl hZv hZlt hF6 HO
            go_wp2_with fail
            refine (calls_args HRr.out (by rfl)).mono ?_
            rintro e w7 ⟨r7, xa, xc, h7, rfl, hLx, hF7⟩
            obtain rfl := h7.det HRk.out
            have HF7 := hide (HF6.out.join (hF7.mono fun _ _ e => e.elim))
            simp only [outZ, errZ, List.length_replicate] at hLx ⊢
            have HLx := hide hLx
            have hyb : ∀ i, ∀ b ∈ List.replicate i y, b < 256 := fun i b hb => by rw [List.eq_of_mem_replicate hb]; exact hy8
            have Hyb := hide hyb
            have HWr := hide (write_at (some ⟨D, 0, none⟩) m (List.replicate m y) k w7 Hk.out (by have h := HLb.out w7 HF7.out; rw [List.length_replicate]; exact h) (hyb m) (fun b hb => by rw [List.eq_of_mem_replicate hb]; exact hyk.out) (by rw [List.length_replicate]; omega))
            rw [List.length_replicate] at HWr
            clear h7 hLx hF7 hyb HRr
            go_wp2_with fail
            refine (calls_args HWr.out (by rfl)).mono ?_
            rintro e w8 ⟨Y, ya, yc, rfl, hLY, hYb, hYl, hRY, hF8⟩
            have HRY := hide hRY
            have HF78 := hide hF8
            have HF8 := hide (HF7.out.join (hF8.mono fun _ _ e => e.elim))
            have HRp := hide (rread_at (.slice ya Y.length yc) Y (k : Int) (m : Int) w8 hLY hYb (by omega) (by omega))
            clear hLY hYb hRY hF8 HWr
            go_wp2_with fail
            refine (calls_args HRp.out (by rfl)).mono ?_
            rintro e w9 ⟨r9, ua, uc, h9, rfl, hLu, hF9⟩
            obtain rfl := h9.det HRY.out
            have HF89 := hide hF9
            have HF9 := hide (HF8.out.join (hF9.mono fun _ _ e => e.elim))
            simp only [outZ, errZ, List.length_replicate] at hLu ⊢
            have HLu := hide hLu
            have hats : (at_ : Int) ≤ (m : Int) := by omega
            have C16 : Hid (∀ W, Fr (fun _ => False) w9 W → (convert 22 9 (.slice xa at_ xc)).run Try.prog W = .ok (.string (strOf (List.replicate at_ y))) W) := fun W f => str_lies (lies_false HLx.out ((HF78.out.join HF89.out).join f)) (Hyb.out at_)
            have C8 : Hid (∀ W, Fr (fun _ => False) w9 W → (convert 22 9 (.slice (some ⟨D, 0, none⟩) m m)).run Try.prog W = .ok (.string (strOf (List.replicate m y))) W) := fun W f => str_lies (lies_false (HLb.out w9 HF9.out) f) (Hyb.out m)
            have C8t : Hid (∀ W, Fr (fun _ => False) w9 W → (convert 22 9 (.slice (some ⟨D, 0, none⟩) at_ m)).run Try.prog W = .ok (.string (strOf (List.replicate at_ y))) W) := fun W f => by
              have h := take_lies (lies_false (HLb.out w9 HF9.out) f) at_ m (by rw [List.length_replicate]; exact hat)
              have e : (List.replicate m y).take at_ = List.replicate at_ y := by rw [List.take_replicate]; congr 1; omega
              rw [e] at h
              exact str_lies h (Hyb.out at_)
            have C20 : Hid (∀ W, Fr (fun _ => False) w9 W → (convert 22 9 (.slice ua m uc)).run Try.prog W = .ok (.string (strOf (List.replicate m y))) W) := fun W f => str_lies (lies_false HLu.out f) (Hyb.out m)
            have HFin := hide (HFw.out w9 HF9.out)
            clear h9 hLu hF9 HRp
            go_upto_region 24 with fail
            refine wp_region_held_drew (S := fun w' => Fr (fun _ => False) w9 w') (by kernel_rfl) (by exact Fr.of_drewN w9 1) (fun hHeld => ?_)
            refine wpAnyH_take (i := 0) (v := ?v0) rfl (by kernel_rfl) (by kernel_rfl) (by kernel_rfl) (fun _ _ _ h => h) (Or.inl ⟨by rfl, ?hy0⟩) hHeld ?rest0
            case hy0 => (intro W hSw; (try dsimp only at hSw); have s16 := C16.out _ hSw; have s8 := C8.out _ hSw; have s8t := C8t.out _ hSw; have s20 := C20.out _ hSw; go_simp; all_goals (with_reducible rfl))
            change wpAnyH _ _ _ _ _ _ _ (Act.put _ (some 129) _) _
            simp only [Act.put, List.setIfInBounds_toArray, List.set_cons_zero, List.set_cons_succ]
            refine wpAnyH_take (i := 1) (v := ?v1) rfl (by kernel_rfl) (by kernel_rfl) (by kernel_rfl) (fun _ _ _ h => h) (Or.inl ⟨by rfl, ?hy1⟩) hHeld ?rest1
            case hy1 => (intro W hSw; (try dsimp only at hSw); have s16 := C16.out _ hSw; have s8 := C8.out _ hSw; have s8t := C8t.out _ hSw; have s20 := C20.out _ hSw; go_simp; all_goals (with_reducible rfl))
            change wpAnyH _ _ _ _ _ _ _ (Act.put _ (some 130) _) _
            simp only [Act.put, List.setIfInBounds_toArray, List.set_cons_zero, List.set_cons_succ]
            refine wpAnyH_take (i := 2) (v := ?v2) rfl (by kernel_rfl) (by kernel_rfl) (by kernel_rfl) (fun _ _ _ h => h) (Or.inl ⟨by rfl, ?hy2⟩) hHeld ?rest2
            case hy2 => (intro W hSw; (try dsimp only at hSw); have s16 := C16.out _ hSw; have s8 := C8.out _ hSw; have s8t := C8t.out _ hSw; have s20 := C20.out _ hSw; go_simp; all_goals (with_reducible rfl))
            change wpAnyH _ _ _ _ _ _ _ (Act.put _ (some 131) _) _
            simp only [Act.put, List.setIfInBounds_toArray, List.set_cons_zero, List.set_cons_succ]
            refine wpAnyH_take (i := 3) (v := ?v3) rfl (by kernel_rfl) (by kernel_rfl) (by kernel_rfl) (fun _ _ _ h => h) (Or.inl ⟨by rfl, ?hy3⟩) hHeld ?rest3
            case hy3 => (intro W hSw; (try dsimp only at hSw); have s16 := C16.out _ hSw; have s8 := C8.out _ hSw; have s8t := C8t.out _ hSw; have s20 := C20.out _ hSw; go_simp; all_goals (with_reducible rfl))
            change wpAnyH _ _ _ _ _ _ _ (Act.put _ (some 132) _) _
            simp only [Act.put, List.setIfInBounds_toArray, List.set_cons_zero, List.set_cons_succ]
            refine wpAnyH_take (i := 5) (v := ?v5) rfl (by kernel_rfl) (by kernel_rfl) (by kernel_rfl) (fun _ _ _ h => h) (Or.inl ⟨by rfl, ?hy5⟩) hHeld ?rest5
            case hy5 => (intro W hSw; (try dsimp only at hSw); have s16 := C16.out _ hSw; have s8 := C8.out _ hSw; have s8t := C8t.out _ hSw; have s20 := C20.out _ hSw; go_simp; all_goals (with_reducible rfl))
            change wpAnyH _ _ _ _ _ _ _ (Act.put _ (some 134) _) _
            simp only [Act.put, List.setIfInBounds_toArray, List.set_cons_zero, List.set_cons_succ]
            refine wpAnyH_take (i := 4) (v := ?v4) rfl (by kernel_rfl) (by kernel_rfl) (by kernel_rfl) (fun _ _ _ h => h) (Or.inl ⟨by rfl, ?hy4⟩) hHeld ?rest4
            case hy4 => (intro W hSw; (try dsimp only at hSw); have s16 := C16.out _ hSw; have s8 := C8.out _ hSw; have s8t := C8t.out _ hSw; have s20 := C20.out _ hSw; go_simp; all_goals (with_reducible rfl))
            change wpAnyH _ _ _ _ _ _ _ (Act.put _ (some 133) _) _
            simp only [Act.put, List.setIfInBounds_toArray, List.set_cons_zero, List.set_cons_succ]
            refine wpAnyH_take (i := 6) (v := ?v6) rfl (by kernel_rfl) (by kernel_rfl) (by kernel_rfl) (fun _ _ _ h => h) (Or.inl ⟨by rfl, ?hy6⟩) hHeld ?rest6
            case hy6 => (intro W hSw; (try dsimp only at hSw); have s16 := C16.out _ hSw; have s8 := C8.out _ hSw; have s8t := C8t.out _ hSw; have s20 := C20.out _ hSw; go_simp; all_goals (with_reducible rfl))
            change wpAnyH _ _ _ _ _ _ _ (Act.put _ (some 135) _) _
            simp only [Act.put, List.setIfInBounds_toArray, List.set_cons_zero, List.set_cons_succ]
            refine wpAnyH_take (i := 7) (v := ?v7) rfl (by kernel_rfl) (by kernel_rfl) (by kernel_rfl) (fun _ _ _ h => h) (Or.inl ⟨by rfl, ?hy7⟩) hHeld ?rest7
            case hy7 => (intro W hSw; (try dsimp only at hSw); have s16 := C16.out _ hSw; have s8 := C8.out _ hSw; have s8t := C8t.out _ hSw; have s20 := C20.out _ hSw; go_simp; all_goals (with_reducible rfl))
            change wpAnyH _ _ _ _ _ _ _ (Act.put _ (some 136) _) _
            simp only [Act.put, List.setIfInBounds_toArray, List.set_cons_zero, List.set_cons_succ]
            refine wpAnyH_take (i := 8) (v := ?v8) rfl (by kernel_rfl) (by kernel_rfl) (by kernel_rfl) (fun _ _ _ h => h) (Or.inl ⟨by rfl, ?hy8⟩) hHeld ?rest8
            case hy8 => (intro W hSw; (try dsimp only at hSw); have s16 := C16.out _ hSw; have s8 := C8.out _ hSw; have s8t := C8t.out _ hSw; have s20 := C20.out _ hSw; go_simp; all_goals (with_reducible rfl))
            change wpAnyH _ _ _ _ _ _ _ (Act.put _ (some 137) _) _
            simp only [Act.put, List.setIfInBounds_toArray, List.set_cons_zero, List.set_cons_succ]
            refine wpAnyH_take (i := 9) (v := ?v9) rfl (by kernel_rfl) (by kernel_rfl) (by kernel_rfl) (fun _ _ _ h => h) (Or.inl ⟨by rfl, ?hy9⟩) hHeld ?rest9
            case hy9 => (intro W hSw; (try dsimp only at hSw); have s16 := C16.out _ hSw; have s8 := C8.out _ hSw; have s8t := C8t.out _ hSw; have s20 := C20.out _ hSw; go_simp; all_goals (with_reducible rfl))
            change wpAnyH _ _ _ _ _ _ _ (Act.put _ (some 138) _) _
            simp only [Act.put, List.setIfInBounds_toArray, List.set_cons_zero, List.set_cons_succ]
            refine wpAnyH_take (i := 11) (v := ?v11) rfl (by kernel_rfl) (by kernel_rfl) (by kernel_rfl) (fun _ _ _ h => h) (Or.inl ⟨by rfl, ?hy11⟩) hHeld ?rest11
            case hy11 => (intro W hSw; (try dsimp only at hSw); have s16 := C16.out _ hSw; have s8 := C8.out _ hSw; have s8t := C8t.out _ hSw; have s20 := C20.out _ hSw; go_simp; all_goals (with_reducible rfl))
            change wpAnyH _ _ _ _ _ _ _ (Act.put _ (some 140) _) _
            simp only [Act.put, List.setIfInBounds_toArray, List.set_cons_zero, List.set_cons_succ]
            refine wpAnyH_take (i := 12) (v := ?v12) rfl (by kernel_rfl) (by kernel_rfl) (by kernel_rfl) (fun _ _ _ h => h) (Or.inl ⟨by rfl, ?hy12⟩) hHeld ?rest12
            case hy12 => (intro W hSw; (try dsimp only at hSw); have s16 := C16.out _ hSw; have s8 := C8.out _ hSw; have s8t := C8t.out _ hSw; have s20 := C20.out _ hSw; go_simp; all_goals (with_reducible rfl))
            change wpAnyH _ _ _ _ _ _ _ (Act.put _ (some 141) _) _
            simp only [Act.put, List.setIfInBounds_toArray, List.set_cons_zero, List.set_cons_succ]
            refine wpAnyH_take (i := 10) (v := ?v10) rfl (by kernel_rfl) (by kernel_rfl) (by kernel_rfl) (fun _ _ _ h => h) (Or.inl ⟨by rfl, ?hy10⟩) hHeld ?rest10
            case hy10 => (intro W hSw; (try dsimp only at hSw); have s16 := C16.out _ hSw; have s8 := C8.out _ hSw; have s8t := C8t.out _ hSw; have s20 := C20.out _ hSw; go_simp; all_goals (with_reducible rfl))
            change wpAnyH _ _ _ _ _ _ _ (Act.put _ (some 139) _) _
            simp only [Act.put, List.setIfInBounds_toArray, List.set_cons_zero, List.set_cons_succ]
            refine wpAnyH_take (i := 13) (v := ?v13) rfl (by kernel_rfl) (by kernel_rfl) (by kernel_rfl) (fun _ _ _ h => h) (Or.inl ⟨by rfl, ?hy13⟩) hHeld ?rest13
            case hy13 => (intro W hSw; (try dsimp only at hSw); have s16 := C16.out _ hSw; have s8 := C8.out _ hSw; have s8t := C8t.out _ hSw; have s20 := C20.out _ hSw; go_simp; all_goals (with_reducible rfl))
            change wpAnyH _ _ _ _ _ _ _ (Act.put _ (some 142) _) _
            simp only [Act.put, List.setIfInBounds_toArray, List.set_cons_zero, List.set_cons_succ]
            refine wpAnyH_take (i := 14) (v := ?v14) rfl (by kernel_rfl) (by kernel_rfl) (by kernel_rfl) (fun _ _ _ h => h) (Or.inl ⟨by rfl, ?hy14⟩) hHeld ?rest14
            case hy14 => (intro W hSw; (try dsimp only at hSw); have s16 := C16.out _ hSw; have s8 := C8.out _ hSw; have s8t := C8t.out _ hSw; have s20 := C20.out _ hSw; go_simp; all_goals (with_reducible rfl))
            change wpAnyH _ _ _ _ _ _ _ (Act.put _ (some 143) _) _
            simp only [Act.put, List.setIfInBounds_toArray, List.set_cons_zero, List.set_cons_succ]
            refine wpAnyH_take (i := 15) (v := ?v15) rfl (by kernel_rfl) (by kernel_rfl) (by kernel_rfl) (fun _ _ _ h => h) (Or.inl ⟨by rfl, ?hy15⟩) hHeld ?rest15
            case hy15 => (intro W hSw; (try dsimp only at hSw); have s16 := C16.out _ hSw; have s8 := C8.out _ hSw; have s8t := C8t.out _ hSw; have s20 := C20.out _ hSw; go_simp; all_goals (with_reducible rfl))
            change wpAnyH _ _ _ _ _ _ _ (Act.put _ (some 144) _) _
            simp only [Act.put, List.setIfInBounds_toArray, List.set_cons_zero, List.set_cons_succ]
            refine wpAnyH_take (i := 16) (v := ?v16) rfl (by kernel_rfl) (by kernel_rfl) (by kernel_rfl) (fun _ _ _ h => h) (Or.inl ⟨by rfl, ?hy16⟩) hHeld ?rest16
            case hy16 => (intro W hSw; (try dsimp only at hSw); have s16 := C16.out _ hSw; have s8 := C8.out _ hSw; have s8t := C8t.out _ hSw; have s20 := C20.out _ hSw; go_simp; all_goals (with_reducible rfl))
            change wpAnyH _ _ _ _ _ _ _ (Act.put _ (some 145) _) _
            simp only [Act.put, List.setIfInBounds_toArray, List.set_cons_zero, List.set_cons_succ]
            refine wpAnyH_take (i := 17) (v := ?v17) rfl (by kernel_rfl) (by kernel_rfl) (by kernel_rfl) (fun _ _ _ h => h) (Or.inl ⟨by rfl, ?hy17⟩) hHeld ?rest17
            case hy17 => (intro W hSw; (try dsimp only at hSw); have s16 := C16.out _ hSw; have s8 := C8.out _ hSw; have s8t := C8t.out _ hSw; have s20 := C20.out _ hSw; go_simp; all_goals (with_reducible rfl))
            change wpAnyH _ _ _ _ _ _ _ (Act.put _ (some 146) _) _
            simp only [Act.put, List.setIfInBounds_toArray, List.set_cons_zero, List.set_cons_succ]
            refine wpAnyH_take (i := 18) (v := ?v18) rfl (by kernel_rfl) (by kernel_rfl) (by kernel_rfl) (fun _ _ _ h => h) (Or.inl ⟨by rfl, ?hy18⟩) hHeld ?rest18
            case hy18 => (intro W hSw; (try dsimp only at hSw); have s16 := C16.out _ hSw; have s8 := C8.out _ hSw; have s8t := C8t.out _ hSw; have s20 := C20.out _ hSw; go_simp; all_goals (with_reducible rfl))
            change wpAnyH _ _ _ _ _ _ _ (Act.put _ (some 147) _) _
            simp only [Act.put, List.setIfInBounds_toArray, List.set_cons_zero, List.set_cons_succ]
            refine wpAnyH_take (i := 19) (v := ?v19) rfl (by kernel_rfl) (by kernel_rfl) (by kernel_rfl) (fun _ _ _ h => h) (Or.inl ⟨by rfl, ?hy19⟩) hHeld ?rest19
            case hy19 => (intro W hSw; (try dsimp only at hSw); have s16 := C16.out _ hSw; have s8 := C8.out _ hSw; have s8t := C8t.out _ hSw; have s20 := C20.out _ hSw; go_simp; all_goals (with_reducible rfl))
            change wpAnyH _ _ _ _ _ _ _ (Act.put _ (some 148) _) _
            simp only [Act.put, List.setIfInBounds_toArray, List.set_cons_zero, List.set_cons_succ]
            refine wpAnyH_take (i := 20) (v := ?v20) rfl (by kernel_rfl) (by kernel_rfl) (by kernel_rfl) (fun _ _ _ h => h) (Or.inl ⟨by rfl, ?hy20⟩) hHeld ?rest20
            case hy20 => (intro W hSw; (try dsimp only at hSw); have s16 := C16.out _ hSw; have s8 := C8.out _ hSw; have s8t := C8t.out _ hSw; have s20 := C20.out _ hSw; go_simp; all_goals (with_reducible rfl))
            change wpAnyH _ _ _ _ _ _ _ (Act.put _ (some 149) _) _
            simp only [Act.put, List.setIfInBounds_toArray, List.set_cons_zero, List.set_cons_succ]
            refine wpAnyH_take (i := 21) (v := ?v21) rfl (by kernel_rfl) (by kernel_rfl) (by kernel_rfl) (fun _ _ _ h => h) (Or.inl ⟨by rfl, ?hy21⟩) hHeld ?rest21
            case hy21 => (intro W hSw; (try dsimp only at hSw); have s16 := C16.out _ hSw; have s8 := C8.out _ hSw; have s8t := C8t.out _ hSw; have s20 := C20.out _ hSw; go_simp; all_goals (with_reducible rfl))
            change wpAnyH _ _ _ _ _ _ _ (Act.put _ (some 150) _) _
            simp only [Act.put, List.setIfInBounds_toArray, List.set_cons_zero, List.set_cons_succ]
            refine wpAnyH_take (i := 22) (v := ?v22) rfl (by kernel_rfl) (by kernel_rfl) (by kernel_rfl) (fun _ _ _ h => h) (Or.inl ⟨by rfl, ?hy22⟩) hHeld ?rest22
            case hy22 => (intro W hSw; (try dsimp only at hSw); have s16 := C16.out _ hSw; have s8 := C8.out _ hSw; have s8t := C8t.out _ hSw; have s20 := C20.out _ hSw; go_simp; all_goals (with_reducible rfl))
            change wpAnyH _ _ _ _ _ _ _ (Act.put _ (some 151) _) _
            simp only [Act.put, List.setIfInBounds_toArray, List.set_cons_zero, List.set_cons_succ]
            refine wpAnyH_take (i := 23) (v := ?v23) rfl (by kernel_rfl) (by kernel_rfl) (by kernel_rfl) (fun _ _ _ h => h) (Or.inl ⟨by rfl, ?hy23⟩) hHeld ?rest23
            case hy23 => (intro W hSw; (try dsimp only at hSw); have s16 := C16.out _ hSw; have s8 := C8.out _ hSw; have s8t := C8t.out _ hSw; have s20 := C20.out _ hSw; go_simp; all_goals (with_reducible rfl))
            change wpAnyH _ _ _ _ _ _ _ (Act.put _ (some 152) _) _
            simp only [Act.put, List.setIfInBounds_toArray, List.set_cons_zero, List.set_cons_succ]
            refine wpAnyH_take (i := 24) (v := ?v24) rfl (by kernel_rfl) (by kernel_rfl) (by kernel_rfl) (fun _ _ _ h => h) (Or.inl ⟨by rfl, ?hy24⟩) hHeld ?rest24
            case hy24 => (intro W hSw; (try dsimp only at hSw); have s16 := C16.out _ hSw; have s8 := C8.out _ hSw; have s8t := C8t.out _ hSw; have s20 := C20.out _ hSw; go_simp; all_goals (with_reducible rfl))
            change wpAnyH _ _ _ _ _ _ _ (Act.put _ (some 153) _) _
            simp only [Act.put, List.setIfInBounds_toArray, List.set_cons_zero, List.set_cons_succ]
            refine wpAnyH_take (i := 25) (v := ?v25) rfl (by kernel_rfl) (by kernel_rfl) (by kernel_rfl) (fun _ _ _ h => h) (Or.inl ⟨by rfl, ?hy25⟩) hHeld ?rest25
            case hy25 => (intro W hSw; (try dsimp only at hSw); have s16 := C16.out _ hSw; have s8 := C8.out _ hSw; have s8t := C8t.out _ hSw; have s20 := C20.out _ hSw; go_simp; all_goals (with_reducible rfl))
            change wpAnyH _ _ _ _ _ _ _ (Act.put _ (some 154) _) _
            simp only [Act.put, List.setIfInBounds_toArray, List.set_cons_zero, List.set_cons_succ]
            refine wpAnyH_take (i := 26) (v := ?v26) rfl (by kernel_rfl) (by kernel_rfl) (by kernel_rfl) (fun _ _ _ h => h) (Or.inl ⟨by rfl, ?hy26⟩) hHeld ?rest26
            case hy26 => (intro W hSw; (try dsimp only at hSw); have s16 := C16.out _ hSw; have s8 := C8.out _ hSw; have s8t := C8t.out _ hSw; have s20 := C20.out _ hSw; go_simp; all_goals (with_reducible rfl))
            change wpAnyH _ _ _ _ _ _ _ (Act.put _ (some 155) _) _
            simp only [Act.put, List.setIfInBounds_toArray, List.set_cons_zero, List.set_cons_succ]
            refine wpAnyH_take (i := 28) (v := ?v28) rfl (by kernel_rfl) (by kernel_rfl) (by kernel_rfl) (fun _ _ _ h => h) (Or.inl ⟨by rfl, ?hy28⟩) hHeld ?rest28
            case hy28 => (intro W hSw; (try dsimp only at hSw); have s16 := C16.out _ hSw; have s8 := C8.out _ hSw; have s8t := C8t.out _ hSw; have s20 := C20.out _ hSw; go_simp; all_goals (with_reducible rfl))
            change wpAnyH _ _ _ _ _ _ _ (Act.put _ (some 157) _) _
            simp only [Act.put, List.setIfInBounds_toArray, List.set_cons_zero, List.set_cons_succ]
            refine wpAnyH_take (i := 27) (v := ?v27) rfl (by kernel_rfl) (by kernel_rfl) (by kernel_rfl) (fun _ _ _ h => h) (Or.inl ⟨by rfl, ?hy27⟩) hHeld ?rest27
            case hy27 => (intro W hSw; (try dsimp only at hSw); have s16 := C16.out _ hSw; have s8 := C8.out _ hSw; have s8t := C8t.out _ hSw; have s20 := C20.out _ hSw; go_simp; all_goals (with_reducible rfl))
            change wpAnyH _ _ _ _ _ _ _ (Act.put _ (some 156) _) _
            simp only [Act.put, List.setIfInBounds_toArray, List.set_cons_zero, List.set_cons_succ]
            refine wpAnyH_take (i := 29) (v := ?v29) rfl (by kernel_rfl) (by kernel_rfl) (by kernel_rfl) (fun _ _ _ h => h) (Or.inl ⟨by rfl, ?hy29⟩) hHeld ?rest29
            case hy29 => (intro W hSw; (try dsimp only at hSw); have s16 := C16.out _ hSw; have s8 := C8.out _ hSw; have s8t := C8t.out _ hSw; have s20 := C20.out _ hSw; go_simp; all_goals (with_reducible rfl))
            change wpAnyH _ _ _ _ _ _ _ (Act.put _ (some 158) _) _
            simp only [Act.put, List.setIfInBounds_toArray, List.set_cons_zero, List.set_cons_succ]
            refine wpAnyH_take (i := 30) (v := ?v30) rfl (by kernel_rfl) (by kernel_rfl) (by kernel_rfl) (fun _ _ _ h => h) (Or.inl ⟨by rfl, ?hy30⟩) hHeld ?rest30
            case hy30 => (intro W hSw; (try dsimp only at hSw); have s16 := C16.out _ hSw; have s8 := C8.out _ hSw; have s8t := C8t.out _ hSw; have s20 := C20.out _ hSw; go_simp; all_goals (with_reducible rfl))
            change wpAnyH _ _ _ _ _ _ _ (Act.put _ (some 159) _) _
            simp only [Act.put, List.setIfInBounds_toArray, List.set_cons_zero, List.set_cons_succ]
            refine wpAnyH_take (i := 31) (v := ?v31) rfl (by kernel_rfl) (by kernel_rfl) (by kernel_rfl) (fun _ _ _ h => h) (Or.inl ⟨by rfl, ?hy31⟩) hHeld ?rest31
            case hy31 => (intro W hSw; (try dsimp only at hSw); have s16 := C16.out _ hSw; have s8 := C8.out _ hSw; have s8t := C8t.out _ hSw; have s20 := C20.out _ hSw; go_simp; all_goals (with_reducible rfl))
            change wpAnyH _ _ _ _ _ _ _ (Act.put _ (some 160) _) _
            simp only [Act.put, List.setIfInBounds_toArray, List.set_cons_zero, List.set_cons_succ]
            refine wpAnyH_take (i := 32) (v := ?v32) rfl (by kernel_rfl) (by kernel_rfl) (by kernel_rfl) (fun _ _ _ h => h) (Or.inl ⟨by rfl, ?hy32⟩) hHeld ?rest32
            case hy32 => (intro W hSw; (try dsimp only at hSw); have s16 := C16.out _ hSw; have s8 := C8.out _ hSw; have s8t := C8t.out _ hSw; have s20 := C20.out _ hSw; go_simp; all_goals (with_reducible rfl))
            change wpAnyH _ _ _ _ _ _ _ (Act.put _ (some 6) _) _
            simp only [Act.put, List.setIfInBounds_toArray, List.set_cons_zero, List.set_cons_succ]
            refine wpAnyH_done (by kernel_rfl) ?_ _
            go_wp2
            go_ret
            exact ⟨rfl, HFin.out.join hHeld⟩
          · go_wp2_with fail
            refine (calls_args HE.out (by rfl)).mono ?_
            rintro e w5 ⟨rfl, hF5, vv, pp, hp5, hpb, hRd⟩
            have HF5 := hide (HFx.out.join hF5)
            have HO := hide (hp5.out (by omega))
            have HRd := hide hRd
            clear hF5 hp5 hRd
            go_wp2_with fail
            refine HO.out.mono ?_
            rintro e w6 ⟨Z, zc, rfl, hLZ, hZb, hZl, hZv, hZlt, hF6⟩
            have HRk := hide (HRd.out Z hZl hZv)
            have HF6 := hide (HF5.out.join (hF6.mono fun _ _ e => e.elim))
            have hZl2 : Z.length ≤ 60000 := by omega
            have HRr := hide (read_at (.slice (some ⟨w5.heap.size, 0, none⟩) Z.length zc) Z (k : Int) (m : Int) w6 hLZ hZb (by omega) (by omega))
            clear hLZ hZb hZl hZv hZlt hF6 HO
            go_wp2_with fail
            refine (calls_args HRr.out (by rfl)).mono ?_
            rintro e w7 ⟨r7, xa, xc, h7, rfl, hLx, hF7⟩
            obtain rfl := h7.det HRk.out
            have HF7 := hide (HF6.out.join (hF7.mono fun _ _ e => e.elim))
            simp only [outZ, errZ, List.length_replicate] at hLx ⊢
            have HLx := hide hLx
            have hyb : ∀ i, ∀ b ∈ List.replicate i y, b < 256 := fun i b hb => by rw [List.eq_of_mem_replicate hb]; exact hy8
            have Hyb := hide hyb
            have HWr := hide (write_at (some ⟨D, 0, none⟩) m (List.replicate m y) k w7 Hk.out (by have h := HLb.out w7 HF7.out; rw [List.length_replicate]; exact h) (hyb m) (fun b hb => by rw [List.eq_of_mem_replicate hb]; exact hyk.out) (by rw [List.length_replicate]; omega))
            rw [List.length_replicate] at HWr
            clear h7 hLx hF7 hyb HRr
            go_wp2_with fail
            refine (calls_args HWr.out (by rfl)).mono ?_
            rintro e w8 ⟨Y, ya, yc, rfl, hLY, hYb, hYl, hRY, hF8⟩
            have HRY := hide hRY
            have HF78 := hide hF8
            have HF8 := hide (HF7.out.join (hF8.mono fun _ _ e => e.elim))
            have HRp := hide (rread_at (.slice ya Y.length yc) Y (k : Int) (m : Int) w8 hLY hYb (by omega) (by omega))
            clear hLY hYb hRY hF8 HWr
            go_wp2_with fail
            refine (calls_args HRp.out (by rfl)).mono ?_
            rintro e w9 ⟨r9, ua, uc, h9, rfl, hLu, hF9⟩
            obtain rfl := h9.det HRY.out
            have HF89 := hide hF9
            have HF9 := hide (HF8.out.join (hF9.mono fun _ _ e => e.elim))
            simp only [outZ, errZ, List.length_replicate] at hLu ⊢
            have HLu := hide hLu
            have hats : (at_ : Int) ≤ (m : Int) := by omega
            have C16 : Hid (∀ W, Fr (fun _ => False) w9 W → (convert 22 9 (.slice xa at_ xc)).run Try.prog W = .ok (.string (strOf (List.replicate at_ y))) W) := fun W f => str_lies (lies_false HLx.out ((HF78.out.join HF89.out).join f)) (Hyb.out at_)
            have C8 : Hid (∀ W, Fr (fun _ => False) w9 W → (convert 22 9 (.slice (some ⟨D, 0, none⟩) m m)).run Try.prog W = .ok (.string (strOf (List.replicate m y))) W) := fun W f => str_lies (lies_false (HLb.out w9 HF9.out) f) (Hyb.out m)
            have C8t : Hid (∀ W, Fr (fun _ => False) w9 W → (convert 22 9 (.slice (some ⟨D, 0, none⟩) at_ m)).run Try.prog W = .ok (.string (strOf (List.replicate at_ y))) W) := fun W f => by
              have h := take_lies (lies_false (HLb.out w9 HF9.out) f) at_ m (by rw [List.length_replicate]; exact hat)
              have e : (List.replicate m y).take at_ = List.replicate at_ y := by rw [List.take_replicate]; congr 1; omega
              rw [e] at h
              exact str_lies h (Hyb.out at_)
            have C20 : Hid (∀ W, Fr (fun _ => False) w9 W → (convert 22 9 (.slice ua m uc)).run Try.prog W = .ok (.string (strOf (List.replicate m y))) W) := fun W f => str_lies (lies_false HLu.out f) (Hyb.out m)
            have HFin := hide (HFw.out w9 HF9.out)
            clear h9 hLu hF9 HRp
            go_upto_region 24 with fail
            refine wp_region_held_drew (S := fun w' => Fr (fun _ => False) w9 w') (by kernel_rfl) (by exact Fr.of_drewN w9 1) (fun hHeld => ?_)
            refine wpAnyH_take (i := 0) (v := ?v0z) rfl (by kernel_rfl) (by kernel_rfl) (by kernel_rfl) (fun _ _ _ h => h) (Or.inl ⟨by rfl, ?hy0z⟩) hHeld ?rest0z
            case hy0z => (intro W hSw; (try dsimp only at hSw); have s16 := C16.out _ hSw; have s8 := C8.out _ hSw; have s8t := C8t.out _ hSw; have s20 := C20.out _ hSw; go_simp; all_goals (with_reducible rfl))
            change wpAnyH _ _ _ _ _ _ _ (Act.put _ (some 129) _) _
            simp only [Act.put, List.setIfInBounds_toArray, List.set_cons_zero, List.set_cons_succ]
            refine wpAnyH_take (i := 1) (v := ?v1z) rfl (by kernel_rfl) (by kernel_rfl) (by kernel_rfl) (fun _ _ _ h => h) (Or.inl ⟨by rfl, ?hy1z⟩) hHeld ?rest1z
            case hy1z => (intro W hSw; (try dsimp only at hSw); have s16 := C16.out _ hSw; have s8 := C8.out _ hSw; have s8t := C8t.out _ hSw; have s20 := C20.out _ hSw; go_simp; all_goals (with_reducible rfl))
            change wpAnyH _ _ _ _ _ _ _ (Act.put _ (some 130) _) _
            simp only [Act.put, List.setIfInBounds_toArray, List.set_cons_zero, List.set_cons_succ]
            refine wpAnyH_take (i := 2) (v := ?v2z) rfl (by kernel_rfl) (by kernel_rfl) (by kernel_rfl) (fun _ _ _ h => h) (Or.inl ⟨by rfl, ?hy2z⟩) hHeld ?rest2z
            case hy2z => (intro W hSw; (try dsimp only at hSw); have s16 := C16.out _ hSw; have s8 := C8.out _ hSw; have s8t := C8t.out _ hSw; have s20 := C20.out _ hSw; go_simp; all_goals (with_reducible rfl))
            change wpAnyH _ _ _ _ _ _ _ (Act.put _ (some 131) _) _
            simp only [Act.put, List.setIfInBounds_toArray, List.set_cons_zero, List.set_cons_succ]
            refine wpAnyH_take (i := 3) (v := ?v3z) rfl (by kernel_rfl) (by kernel_rfl) (by kernel_rfl) (fun _ _ _ h => h) (Or.inl ⟨by rfl, ?hy3z⟩) hHeld ?rest3z
            case hy3z => (intro W hSw; (try dsimp only at hSw); have s16 := C16.out _ hSw; have s8 := C8.out _ hSw; have s8t := C8t.out _ hSw; have s20 := C20.out _ hSw; go_simp; all_goals (with_reducible rfl))
            change wpAnyH _ _ _ _ _ _ _ (Act.put _ (some 132) _) _
            simp only [Act.put, List.setIfInBounds_toArray, List.set_cons_zero, List.set_cons_succ]
            refine wpAnyH_take (i := 5) (v := ?v5z) rfl (by kernel_rfl) (by kernel_rfl) (by kernel_rfl) (fun _ _ _ h => h) (Or.inl ⟨by rfl, ?hy5z⟩) hHeld ?rest5z
            case hy5z => (intro W hSw; (try dsimp only at hSw); have s16 := C16.out _ hSw; have s8 := C8.out _ hSw; have s8t := C8t.out _ hSw; have s20 := C20.out _ hSw; go_simp; all_goals (with_reducible rfl))
            change wpAnyH _ _ _ _ _ _ _ (Act.put _ (some 134) _) _
            simp only [Act.put, List.setIfInBounds_toArray, List.set_cons_zero, List.set_cons_succ]
            refine wpAnyH_take (i := 4) (v := ?v4z) rfl (by kernel_rfl) (by kernel_rfl) (by kernel_rfl) (fun _ _ _ h => h) (Or.inl ⟨by rfl, ?hy4z⟩) hHeld ?rest4z
            case hy4z => (intro W hSw; (try dsimp only at hSw); have s16 := C16.out _ hSw; have s8 := C8.out _ hSw; have s8t := C8t.out _ hSw; have s20 := C20.out _ hSw; go_simp; all_goals (with_reducible rfl))
            change wpAnyH _ _ _ _ _ _ _ (Act.put _ (some 133) _) _
            simp only [Act.put, List.setIfInBounds_toArray, List.set_cons_zero, List.set_cons_succ]
            refine wpAnyH_take (i := 6) (v := ?v6z) rfl (by kernel_rfl) (by kernel_rfl) (by kernel_rfl) (fun _ _ _ h => h) (Or.inl ⟨by rfl, ?hy6z⟩) hHeld ?rest6z
            case hy6z => (intro W hSw; (try dsimp only at hSw); have s16 := C16.out _ hSw; have s8 := C8.out _ hSw; have s8t := C8t.out _ hSw; have s20 := C20.out _ hSw; go_simp; all_goals (with_reducible rfl))
            change wpAnyH _ _ _ _ _ _ _ (Act.put _ (some 135) _) _
            simp only [Act.put, List.setIfInBounds_toArray, List.set_cons_zero, List.set_cons_succ]
            refine wpAnyH_take (i := 7) (v := ?v7z) rfl (by kernel_rfl) (by kernel_rfl) (by kernel_rfl) (fun _ _ _ h => h) (Or.inl ⟨by rfl, ?hy7z⟩) hHeld ?rest7z
            case hy7z => (intro W hSw; (try dsimp only at hSw); have s16 := C16.out _ hSw; have s8 := C8.out _ hSw; have s8t := C8t.out _ hSw; have s20 := C20.out _ hSw; go_simp; all_goals (with_reducible rfl))
            change wpAnyH _ _ _ _ _ _ _ (Act.put _ (some 136) _) _
            simp only [Act.put, List.setIfInBounds_toArray, List.set_cons_zero, List.set_cons_succ]
            refine wpAnyH_take (i := 8) (v := ?v8z) rfl (by kernel_rfl) (by kernel_rfl) (by kernel_rfl) (fun _ _ _ h => h) (Or.inl ⟨by rfl, ?hy8z⟩) hHeld ?rest8z
            case hy8z => (intro W hSw; (try dsimp only at hSw); have s16 := C16.out _ hSw; have s8 := C8.out _ hSw; have s8t := C8t.out _ hSw; have s20 := C20.out _ hSw; go_simp; all_goals (with_reducible rfl))
            change wpAnyH _ _ _ _ _ _ _ (Act.put _ (some 137) _) _
            simp only [Act.put, List.setIfInBounds_toArray, List.set_cons_zero, List.set_cons_succ]
            refine wpAnyH_take (i := 9) (v := ?v9z) rfl (by kernel_rfl) (by kernel_rfl) (by kernel_rfl) (fun _ _ _ h => h) (Or.inl ⟨by rfl, ?hy9z⟩) hHeld ?rest9z
            case hy9z => (intro W hSw; (try dsimp only at hSw); have s16 := C16.out _ hSw; have s8 := C8.out _ hSw; have s8t := C8t.out _ hSw; have s20 := C20.out _ hSw; go_simp; all_goals (with_reducible rfl))
            change wpAnyH _ _ _ _ _ _ _ (Act.put _ (some 138) _) _
            simp only [Act.put, List.setIfInBounds_toArray, List.set_cons_zero, List.set_cons_succ]
            refine wpAnyH_take (i := 11) (v := ?v11z) rfl (by kernel_rfl) (by kernel_rfl) (by kernel_rfl) (fun _ _ _ h => h) (Or.inl ⟨by rfl, ?hy11z⟩) hHeld ?rest11z
            case hy11z => (intro W hSw; (try dsimp only at hSw); have s16 := C16.out _ hSw; have s8 := C8.out _ hSw; have s8t := C8t.out _ hSw; have s20 := C20.out _ hSw; go_simp; all_goals (with_reducible rfl))
            change wpAnyH _ _ _ _ _ _ _ (Act.put _ (some 140) _) _
            simp only [Act.put, List.setIfInBounds_toArray, List.set_cons_zero, List.set_cons_succ]
            refine wpAnyH_take (i := 12) (v := ?v12z) rfl (by kernel_rfl) (by kernel_rfl) (by kernel_rfl) (fun _ _ _ h => h) (Or.inl ⟨by rfl, ?hy12z⟩) hHeld ?rest12z
            case hy12z => (intro W hSw; (try dsimp only at hSw); have s16 := C16.out _ hSw; have s8 := C8.out _ hSw; have s8t := C8t.out _ hSw; have s20 := C20.out _ hSw; go_simp; all_goals (with_reducible rfl))
            change wpAnyH _ _ _ _ _ _ _ (Act.put _ (some 141) _) _
            simp only [Act.put, List.setIfInBounds_toArray, List.set_cons_zero, List.set_cons_succ]
            refine wpAnyH_take (i := 10) (v := ?v10z) rfl (by kernel_rfl) (by kernel_rfl) (by kernel_rfl) (fun _ _ _ h => h) (Or.inl ⟨by rfl, ?hy10z⟩) hHeld ?rest10z
            case hy10z => (intro W hSw; (try dsimp only at hSw); have s16 := C16.out _ hSw; have s8 := C8.out _ hSw; have s8t := C8t.out _ hSw; have s20 := C20.out _ hSw; go_simp; all_goals (with_reducible rfl))
            change wpAnyH _ _ _ _ _ _ _ (Act.put _ (some 139) _) _
            simp only [Act.put, List.setIfInBounds_toArray, List.set_cons_zero, List.set_cons_succ]
            refine wpAnyH_take (i := 13) (v := ?v13z) rfl (by kernel_rfl) (by kernel_rfl) (by kernel_rfl) (fun _ _ _ h => h) (Or.inl ⟨by rfl, ?hy13z⟩) hHeld ?rest13z
            case hy13z => (intro W hSw; (try dsimp only at hSw); have s16 := C16.out _ hSw; have s8 := C8.out _ hSw; have s8t := C8t.out _ hSw; have s20 := C20.out _ hSw; go_simp; all_goals (with_reducible rfl))
            change wpAnyH _ _ _ _ _ _ _ (Act.put _ (some 142) _) _
            simp only [Act.put, List.setIfInBounds_toArray, List.set_cons_zero, List.set_cons_succ]
            refine wpAnyH_take (i := 14) (v := ?v14z) rfl (by kernel_rfl) (by kernel_rfl) (by kernel_rfl) (fun _ _ _ h => h) (Or.inl ⟨by rfl, ?hy14z⟩) hHeld ?rest14z
            case hy14z => (intro W hSw; (try dsimp only at hSw); have s16 := C16.out _ hSw; have s8 := C8.out _ hSw; have s8t := C8t.out _ hSw; have s20 := C20.out _ hSw; go_simp; all_goals (with_reducible rfl))
            change wpAnyH _ _ _ _ _ _ _ (Act.put _ (some 143) _) _
            simp only [Act.put, List.setIfInBounds_toArray, List.set_cons_zero, List.set_cons_succ]
            refine wpAnyH_take (i := 15) (v := ?v15z) rfl (by kernel_rfl) (by kernel_rfl) (by kernel_rfl) (fun _ _ _ h => h) (Or.inl ⟨by rfl, ?hy15z⟩) hHeld ?rest15z
            case hy15z => (intro W hSw; (try dsimp only at hSw); have s16 := C16.out _ hSw; have s8 := C8.out _ hSw; have s8t := C8t.out _ hSw; have s20 := C20.out _ hSw; go_simp; all_goals (with_reducible rfl))
            change wpAnyH _ _ _ _ _ _ _ (Act.put _ (some 144) _) _
            simp only [Act.put, List.setIfInBounds_toArray, List.set_cons_zero, List.set_cons_succ]
            refine wpAnyH_take (i := 16) (v := ?v16z) rfl (by kernel_rfl) (by kernel_rfl) (by kernel_rfl) (fun _ _ _ h => h) (Or.inl ⟨by rfl, ?hy16z⟩) hHeld ?rest16z
            case hy16z => (intro W hSw; (try dsimp only at hSw); have s16 := C16.out _ hSw; have s8 := C8.out _ hSw; have s8t := C8t.out _ hSw; have s20 := C20.out _ hSw; go_simp; all_goals (with_reducible rfl))
            change wpAnyH _ _ _ _ _ _ _ (Act.put _ (some 145) _) _
            simp only [Act.put, List.setIfInBounds_toArray, List.set_cons_zero, List.set_cons_succ]
            refine wpAnyH_take (i := 17) (v := ?v17z) rfl (by kernel_rfl) (by kernel_rfl) (by kernel_rfl) (fun _ _ _ h => h) (Or.inl ⟨by rfl, ?hy17z⟩) hHeld ?rest17z
            case hy17z => (intro W hSw; (try dsimp only at hSw); have s16 := C16.out _ hSw; have s8 := C8.out _ hSw; have s8t := C8t.out _ hSw; have s20 := C20.out _ hSw; go_simp; all_goals (with_reducible rfl))
            change wpAnyH _ _ _ _ _ _ _ (Act.put _ (some 146) _) _
            simp only [Act.put, List.setIfInBounds_toArray, List.set_cons_zero, List.set_cons_succ]
            refine wpAnyH_take (i := 18) (v := ?v18z) rfl (by kernel_rfl) (by kernel_rfl) (by kernel_rfl) (fun _ _ _ h => h) (Or.inl ⟨by rfl, ?hy18z⟩) hHeld ?rest18z
            case hy18z => (intro W hSw; (try dsimp only at hSw); have s16 := C16.out _ hSw; have s8 := C8.out _ hSw; have s8t := C8t.out _ hSw; have s20 := C20.out _ hSw; go_simp; all_goals (with_reducible rfl))
            change wpAnyH _ _ _ _ _ _ _ (Act.put _ (some 147) _) _
            simp only [Act.put, List.setIfInBounds_toArray, List.set_cons_zero, List.set_cons_succ]
            refine wpAnyH_take (i := 19) (v := ?v19z) rfl (by kernel_rfl) (by kernel_rfl) (by kernel_rfl) (fun _ _ _ h => h) (Or.inl ⟨by rfl, ?hy19z⟩) hHeld ?rest19z
            case hy19z => (intro W hSw; (try dsimp only at hSw); have s16 := C16.out _ hSw; have s8 := C8.out _ hSw; have s8t := C8t.out _ hSw; have s20 := C20.out _ hSw; go_simp; all_goals (with_reducible rfl))
            change wpAnyH _ _ _ _ _ _ _ (Act.put _ (some 148) _) _
            simp only [Act.put, List.setIfInBounds_toArray, List.set_cons_zero, List.set_cons_succ]
            refine wpAnyH_take (i := 20) (v := ?v20z) rfl (by kernel_rfl) (by kernel_rfl) (by kernel_rfl) (fun _ _ _ h => h) (Or.inl ⟨by rfl, ?hy20z⟩) hHeld ?rest20z
            case hy20z => (intro W hSw; (try dsimp only at hSw); have s16 := C16.out _ hSw; have s8 := C8.out _ hSw; have s8t := C8t.out _ hSw; have s20 := C20.out _ hSw; go_simp; all_goals (with_reducible rfl))
            change wpAnyH _ _ _ _ _ _ _ (Act.put _ (some 149) _) _
            simp only [Act.put, List.setIfInBounds_toArray, List.set_cons_zero, List.set_cons_succ]
            refine wpAnyH_take (i := 21) (v := ?v21z) rfl (by kernel_rfl) (by kernel_rfl) (by kernel_rfl) (fun _ _ _ h => h) (Or.inl ⟨by rfl, ?hy21z⟩) hHeld ?rest21z
            case hy21z => (intro W hSw; (try dsimp only at hSw); have s16 := C16.out _ hSw; have s8 := C8.out _ hSw; have s8t := C8t.out _ hSw; have s20 := C20.out _ hSw; go_simp; all_goals (with_reducible rfl))
            change wpAnyH _ _ _ _ _ _ _ (Act.put _ (some 150) _) _
            simp only [Act.put, List.setIfInBounds_toArray, List.set_cons_zero, List.set_cons_succ]
            refine wpAnyH_take (i := 22) (v := ?v22z) rfl (by kernel_rfl) (by kernel_rfl) (by kernel_rfl) (fun _ _ _ h => h) (Or.inl ⟨by rfl, ?hy22z⟩) hHeld ?rest22z
            case hy22z => (intro W hSw; (try dsimp only at hSw); have s16 := C16.out _ hSw; have s8 := C8.out _ hSw; have s8t := C8t.out _ hSw; have s20 := C20.out _ hSw; go_simp; all_goals (with_reducible rfl))
            change wpAnyH _ _ _ _ _ _ _ (Act.put _ (some 151) _) _
            simp only [Act.put, List.setIfInBounds_toArray, List.set_cons_zero, List.set_cons_succ]
            refine wpAnyH_take (i := 23) (v := ?v23z) rfl (by kernel_rfl) (by kernel_rfl) (by kernel_rfl) (fun _ _ _ h => h) (Or.inl ⟨by rfl, ?hy23z⟩) hHeld ?rest23z
            case hy23z => (intro W hSw; (try dsimp only at hSw); have s16 := C16.out _ hSw; have s8 := C8.out _ hSw; have s8t := C8t.out _ hSw; have s20 := C20.out _ hSw; go_simp; all_goals (with_reducible rfl))
            change wpAnyH _ _ _ _ _ _ _ (Act.put _ (some 152) _) _
            simp only [Act.put, List.setIfInBounds_toArray, List.set_cons_zero, List.set_cons_succ]
            refine wpAnyH_take (i := 24) (v := ?v24z) rfl (by kernel_rfl) (by kernel_rfl) (by kernel_rfl) (fun _ _ _ h => h) (Or.inl ⟨by rfl, ?hy24z⟩) hHeld ?rest24z
            case hy24z => (intro W hSw; (try dsimp only at hSw); have s16 := C16.out _ hSw; have s8 := C8.out _ hSw; have s8t := C8t.out _ hSw; have s20 := C20.out _ hSw; go_simp; all_goals (with_reducible rfl))
            change wpAnyH _ _ _ _ _ _ _ (Act.put _ (some 153) _) _
            simp only [Act.put, List.setIfInBounds_toArray, List.set_cons_zero, List.set_cons_succ]
            refine wpAnyH_take (i := 25) (v := ?v25z) rfl (by kernel_rfl) (by kernel_rfl) (by kernel_rfl) (fun _ _ _ h => h) (Or.inl ⟨by rfl, ?hy25z⟩) hHeld ?rest25z
            case hy25z => (intro W hSw; (try dsimp only at hSw); have s16 := C16.out _ hSw; have s8 := C8.out _ hSw; have s8t := C8t.out _ hSw; have s20 := C20.out _ hSw; go_simp; all_goals (with_reducible rfl))
            change wpAnyH _ _ _ _ _ _ _ (Act.put _ (some 154) _) _
            simp only [Act.put, List.setIfInBounds_toArray, List.set_cons_zero, List.set_cons_succ]
            refine wpAnyH_take (i := 26) (v := ?v26z) rfl (by kernel_rfl) (by kernel_rfl) (by kernel_rfl) (fun _ _ _ h => h) (Or.inl ⟨by rfl, ?hy26z⟩) hHeld ?rest26z
            case hy26z => (intro W hSw; (try dsimp only at hSw); have s16 := C16.out _ hSw; have s8 := C8.out _ hSw; have s8t := C8t.out _ hSw; have s20 := C20.out _ hSw; go_simp; all_goals (with_reducible rfl))
            change wpAnyH _ _ _ _ _ _ _ (Act.put _ (some 155) _) _
            simp only [Act.put, List.setIfInBounds_toArray, List.set_cons_zero, List.set_cons_succ]
            refine wpAnyH_take (i := 28) (v := ?v28z) rfl (by kernel_rfl) (by kernel_rfl) (by kernel_rfl) (fun _ _ _ h => h) (Or.inl ⟨by rfl, ?hy28z⟩) hHeld ?rest28z
            case hy28z => (intro W hSw; (try dsimp only at hSw); have s16 := C16.out _ hSw; have s8 := C8.out _ hSw; have s8t := C8t.out _ hSw; have s20 := C20.out _ hSw; go_simp; all_goals (with_reducible rfl))
            change wpAnyH _ _ _ _ _ _ _ (Act.put _ (some 157) _) _
            simp only [Act.put, List.setIfInBounds_toArray, List.set_cons_zero, List.set_cons_succ]
            refine wpAnyH_take (i := 27) (v := ?v27z) rfl (by kernel_rfl) (by kernel_rfl) (by kernel_rfl) (fun _ _ _ h => h) (Or.inl ⟨by rfl, ?hy27z⟩) hHeld ?rest27z
            case hy27z => (intro W hSw; (try dsimp only at hSw); have s16 := C16.out _ hSw; have s8 := C8.out _ hSw; have s8t := C8t.out _ hSw; have s20 := C20.out _ hSw; go_simp; all_goals (with_reducible rfl))
            change wpAnyH _ _ _ _ _ _ _ (Act.put _ (some 156) _) _
            simp only [Act.put, List.setIfInBounds_toArray, List.set_cons_zero, List.set_cons_succ]
            refine wpAnyH_take (i := 29) (v := ?v29z) rfl (by kernel_rfl) (by kernel_rfl) (by kernel_rfl) (fun _ _ _ h => h) (Or.inl ⟨by rfl, ?hy29z⟩) hHeld ?rest29z
            case hy29z => (intro W hSw; (try dsimp only at hSw); have s16 := C16.out _ hSw; have s8 := C8.out _ hSw; have s8t := C8t.out _ hSw; have s20 := C20.out _ hSw; go_simp; all_goals (with_reducible rfl))
            change wpAnyH _ _ _ _ _ _ _ (Act.put _ (some 158) _) _
            simp only [Act.put, List.setIfInBounds_toArray, List.set_cons_zero, List.set_cons_succ]
            refine wpAnyH_take (i := 30) (v := ?v30z) rfl (by kernel_rfl) (by kernel_rfl) (by kernel_rfl) (fun _ _ _ h => h) (Or.inl ⟨by rfl, ?hy30z⟩) hHeld ?rest30z
            case hy30z => (intro W hSw; (try dsimp only at hSw); have s16 := C16.out _ hSw; have s8 := C8.out _ hSw; have s8t := C8t.out _ hSw; have s20 := C20.out _ hSw; go_simp; all_goals (with_reducible rfl))
            change wpAnyH _ _ _ _ _ _ _ (Act.put _ (some 159) _) _
            simp only [Act.put, List.setIfInBounds_toArray, List.set_cons_zero, List.set_cons_succ]
            refine wpAnyH_take (i := 31) (v := ?v31z) rfl (by kernel_rfl) (by kernel_rfl) (by kernel_rfl) (fun _ _ _ h => h) (Or.inl ⟨by rfl, ?hy31z⟩) hHeld ?rest31z
            case hy31z => (intro W hSw; (try dsimp only at hSw); have s16 := C16.out _ hSw; have s8 := C8.out _ hSw; have s8t := C8t.out _ hSw; have s20 := C20.out _ hSw; go_simp; all_goals (with_reducible rfl))
            change wpAnyH _ _ _ _ _ _ _ (Act.put _ (some 160) _) _
            simp only [Act.put, List.setIfInBounds_toArray, List.set_cons_zero, List.set_cons_succ]
            refine wpAnyH_take (i := 32) (v := ?v32z) rfl (by kernel_rfl) (by kernel_rfl) (by kernel_rfl) (fun _ _ _ h => h) (Or.inl ⟨by rfl, ?hy32z⟩) hHeld ?rest32z
            case hy32z => (intro W hSw; (try dsimp only at hSw); have s16 := C16.out _ hSw; have s8 := C8.out _ hSw; have s8t := C8t.out _ hSw; have s20 := C20.out _ hSw; go_simp; all_goals (with_reducible rfl))
            change wpAnyH _ _ _ _ _ _ _ (Act.put _ (some 6) _) _
            simp only [Act.put, List.setIfInBounds_toArray, List.set_cons_zero, List.set_cons_succ]
            refine wpAnyH_done (by kernel_rfl) ?_ _
            go_wp2
            go_ret
            exact ⟨rfl, HFin.out.join hHeld⟩
end Go.Proofs.Ytdbgolklgiadeaa
