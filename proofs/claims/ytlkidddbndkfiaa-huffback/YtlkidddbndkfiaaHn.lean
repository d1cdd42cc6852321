/-
  The contract of Put; what was put, as numbers.
-/
import Derived.Test.YtlkidddbndkfiaaHp
import Derived.Test.YtlkidddbndkfiaaBo
namespace Go.Proofs.Ytlkidddbndkfiaa
open Go.RowKit

theorem low_agree (X Q m p n : Nat) (h : p + n ≤ m) : lowBits (X + Q * 2 ^ m) p n = lowBits X p n := by
  unfold lowBits
  have e : Q * 2 ^ m = 2 ^ p * (2 ^ n * (2 ^ (m - p - n) * Q)) := by
    rw [← Nat.mul_assoc, ← Nat.mul_assoc, ← Nat.pow_add, ← Nat.pow_add, show p + n + (m - p - n) = m by omega, Nat.mul_comm]
  rw [e, Nat.add_mul_div_left _ _ (pow_pos2 p), Nat.add_mul_mod_self_left]
theorem rd_agree (X Q m p k : Nat) (h : p + k ≤ m) : rd (X + Q * 2 ^ m) p k = rd X p k := by
  induction k with
  | zero => rfl
  | succ k ih => simp only [rd]; rw [ih (by omega), low_agree X Q m (p + k) 1 (by omega)]
theorem bit_new (X b m : Nat) (hX : X < 2 ^ m) (hb : b < 2) : lowBits (X + b * 2 ^ m) m 1 = b := by
  unfold lowBits
  rw [Nat.add_mul_div_right _ _ (pow_pos2 m), Nat.div_eq_of_lt hX]
  simp; omega

/-- The next bit of a word. -/
theorem word_step (W t : Nat) : W / 2 ^ t = 2 * (W / 2 ^ (t + 1)) + W / 2 ^ t % 2 := by
  rw [Nat.pow_succ, ← Nat.div_div_eq_div_mul]
  omega

theorem numOf_nat (Y : Nat) (h : Y < 18446744073709551616) : lowBits (numOf (Y : Int)) 0 1 = Y % 2 := by
  unfold numOf lowBits
  rw [Int.emod_eq_of_lt (by omega) (by omega)]
  simp

/-- Put under way: j bits of the word are written, t are not. -/
structure PutSt (w wr : World) (lo' B : Nat) (g : Option Nat) (os : List Nat) (wn W L t j : Nat) : Prop where
  eq : t + j = L
  ex : ∃ g' os' Q, Wr 70 wr lo' B g' os' (wn + j) ∧ LowSt os' (wn + j) ∧ leNum os' = leNum os + Q * 2 ^ wn ∧ rd (leNum os') wn j = W / 2 ^ t ∧ (g' = g ∨ ∃ k, g' = some k ∧ w.heap.size ≤ k)
  fr : Fr (fun i => i = B ∨ g = some i) w wr

theorem PutSt.step {w wr w1 : World} {lo' B : Nat} {g g1 g2 : Option Nat} {os os1 os2 : List Nat} {wn W L t j Q : Nat} (e : t + 1 + j = L) (hf : Fr (fun i => i = B ∨ g = some i) w wr) (hs1 : LowSt os1 (wn + j)) (hq : leNum os1 = leNum os + Q * 2 ^ wn) (hr : rd (leNum os1) wn j = W / 2 ^ (t + 1)) (hg : g1 = g ∨ ∃ k, g1 = some k ∧ w.heap.size ≤ k)
    (hW2 : Wr 70 w1 lo' B g2 os2 (wn + j + 1)) (hs2 : LowSt os2 (wn + j + 1)) (hn2 : leNum os2 = leNum os1 + W / 2 ^ t % 2 * 2 ^ (wn + j)) (hf2 : Fr (fun i => i = B ∨ g1 = some i) wr w1) (hg2 : g2 = g1 ∨ ∃ k, g2 = some k ∧ wr.heap.size ≤ k) :
    PutSt w w1 lo' B g os wn W L t (j + 1) := by
  have hb : W / 2 ^ t % 2 < 2 := Nat.mod_lt _ (by decide)
  have hsz := hf.size
  refine ⟨by omega, ⟨g2, os2, Q + W / 2 ^ t % 2 * 2 ^ j, hW2, hs2, ?_, ?_, ?_⟩, ?_⟩
  · rw [hn2, hq, Nat.pow_add, Nat.add_mul, Nat.add_assoc, Nat.mul_assoc, Nat.mul_comm (2 ^ wn) (2 ^ j)]
  · show rd (leNum os2) wn (j + 1) = _
    simp only [rd]
    rw [hn2, rd_agree _ _ _ _ _ (Nat.le_refl _), bit_new _ _ _ hs1.num hb, hr]
    exact (word_step W t).symm
  · rcases hg2 with h | ⟨k, h, hk⟩
    · rw [h]; exact hg
    · exact Or.inr ⟨k, h, by omega⟩
  · exact (hf.trans hf2).mono fun i hi h => by
      rcases h with h | h | h
      · exact h
      · exact Or.inl h
      · rcases hg with e2 | ⟨k, e2, hk⟩
        · exact Or.inr (by rw [← e2]; exact h)
        · rw [h] at e2
          cases e2
          omega

set_option maxHeartbeats 1600000 in
set_option maxRecDepth 100000 in
theorem put_yes (lo hi C lo' B i L : Nat) (ls : List Int) (g : Option Nat) (os : List Nat) (wn : Nat) (w : World) (hC : Cd w lo hi C ls) (hW : Wr 70 w lo' B g os wn) (hS : LowSt os wn) (hwn : wn ≤ 2147470000) (hi' : i < ls.length) (hL : at0 ls i = (L : Int)) (hz : 0 < L) :
    Calls Try.prog 21 #[.pointer (some ⟨C, 0, none⟩), .pointer (some ⟨B, 0, none⟩), .int .i64 (i : Int)] w fun e w' => e = .returned (.bool true) ∧
      ∃ g' os' Q, Wr 70 w' lo' B g' os' (wn + L) ∧ LowSt os' (wn + L) ∧ leNum os' = leNum os + Q * 2 ^ wn ∧ rd (leNum os') wn L = wd ls i ∧ Fr (fun i => i = B ∨ g = some i) w w' ∧ (g' = g ∨ ∃ k, g' = some k ∧ w.heap.size ≤ k) := by
  have hL15 : L ≤ 15 := by have := (hC.egood.2 i hi').2; omega
  have hwb := wd_bound hC.egood hi' (by omega)
  have hwlt : wd ls i < 2 ^ L := by
    have h1 := wd_lt ls hi' (by omega)
    have h2 := fr_nonneg ls hC.eok (n := L) hL15
    have h3 := fr_nx ls L
    have e : (2:Int) ^ L = ((2 ^ L : Nat) : Int) := by simp
    rw [e] at h3
    rw [hL] at h1
    simp only [Int.toNat_natCast] at h1
    omega
  have CW := hide (word_yes lo hi C i L ls w hC hi' hL hz)
  obtain ⟨W, hWd⟩ : ∃ W, W = wd ls i := ⟨_, rfl⟩
  rw [← hWd] at CW hwb hwlt ⊢
  have HW := hide hW
  have HS := hide hS
  have hL0 : (0 : Int) < (L : Int) := by omega
  have Hlt := hide hwlt
  clear hC hW hS hL hWd hwlt
  go_enter Try.func21, Try.ntmps21
  go_wp2_with fail
  refine CW.out.mono ?_
  rintro e w1 ⟨rfl, hF1⟩
  have HF1 := hide hF1
  clear hF1
  go_wp2
  go_loopw [8] (fun zv wr => ∃ t j : Nat, t ≤ L ∧ zv = .int .i64 (t : Int) ∧ PutSt w wr lo' B g os wn W L t j) (fun zv _ => (intOf zv).toNat)
  case atStart =>
    refine ⟨L, 0, Nat.le_refl _, rfl, by omega, ⟨g, os, 0, HW.out.keep HF1.out (fun h => h) (fun _ _ h => h), HS.out, by simp, ?_, Or.inl rfl⟩, HF1.out.mono fun _ _ h => h.elim⟩
    rw [Nat.div_eq_of_lt Hlt.out]; rfl
  case round =>
    obtain ⟨t, j, ht, rfl, hP⟩ := hrel
    cases t with
    | zero =>
      have HP := hide hP
      clear hP
      go_wp2
      go_ret
      have e := HP.out.eq
      obtain ⟨g', os', Q, q1, q2, q3, q4, q5⟩ := HP.out.ex
      obtain rfl : j = L := by omega
      exact ⟨rfl, g', os', Q, q1, q2, q3, by rw [q4]; simp, HP.out.fr, q5⟩
    | succ t =>
      obtain ⟨g', os', Q, q1, q2, q3, q4, q5⟩ := hP.ex
      have e := hP.eq
      obtain ⟨Y, hY⟩ : ∃ Y, Y = W / 2 ^ t := ⟨_, rfl⟩
      have hsh : ((W : Int) / 2 ^ t) = (Y : Int) := by rw [hY]; simp
      have hYb : Y ≤ 10485760 := by rw [hY]; exact Nat.le_trans (Nat.div_le_self _ _) hwb
      have HQ1 := hide q1
      have HQ2 := hide q2
      have HQ3 := hide q3
      have HQ4 := hide q4
      have HQ5 := hide q5
      have HFr := hide hP.fr
      have HY := hide hY
      have ht15 : t ≤ 15 := by omega
      clear hP q1 q2 q3 q4 q5 hY
      go_wp2_with fail
      refine (low_put_ok lo' B g' os' (wn + j) 1 (Y : Int) wr HQ1.out HQ2.out (by omega) (by omega)).mono ?_
      rintro e2 w2 ⟨rfl, g2, os2, r1, r2, r3, r4, r5⟩
      rw [numOf_nat Y (by omega), HY.out] at r3
      have HP2 := hide (PutSt.step (t := t) (j := j) (L := L) (W := W) e HFr.out HQ2.out HQ3.out HQ4.out HQ5.out r1 r2 r3 r4 r5)
      clear r1 r2 r3 r4 r5
      go_wp2
      go_roundw
      case rel => exact ⟨t, j + 1, by omega, rfl, HP2.out⟩
      case measure => simp [intOf]
end Go.Proofs.Ytlkidddbndkfiaa
