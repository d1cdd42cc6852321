/-
  Plain mathematics of what is put and taken again: no program is named here.
-/
import Derived.Test.YtkmgpapopgeldaaN
namespace Go.Proofs.Ytkmgpapopgeldaa
open Go.RowKit

/-- The bits of an int as a number. -/
def bitsOf (x : Int) : Nat := (x % 18446744073709551616).toNat

/-- How many bits a deed moves. -/
def wid (d : Int × Int) : Nat := (d.2 % 18446744073709551616 % 25).toNat
theorem wid_le (d : Int × Int) : wid d ≤ 24 := by unfold wid; omega

/-- What a deed puts. -/
def val (d : Int × Int) : Nat := lowBits (bitsOf d.1) 0 (wid d)
theorem val_lt (d : Int × Int) : val d < 2 ^ wid d := lowBits_lt _ _ _

def at0 (ds : List (Int × Int)) (i : Nat) : Int × Int := ds.getD i (0, 0)

/-- Bits put by the first i deeds. -/
def psum (ds : List (Int × Int)) : Nat → Nat
  | 0 => 0
  | i + 1 => psum ds i + wid (at0 ds i)
/-- The number put low by the first i deeds. -/
def lowAcc (ds : List (Int × Int)) : Nat → Nat
  | 0 => 0
  | i + 1 => lowAcc ds i + val (at0 ds i) * 2 ^ psum ds i
/-- The number put high by the first i deeds. -/
def hiAcc (ds : List (Int × Int)) : Nat → Nat
  | 0 => 0
  | i + 1 => hiAcc ds i * 2 ^ wid (at0 ds i) + val (at0 ds i)

theorem psum_le (ds : List (Int × Int)) (i : Nat) : psum ds i ≤ 24 * i := by
  induction i with
  | zero => simp [psum]
  | succ i ih => have := wid_le (at0 ds i); simp only [psum]; omega
theorem psum_mono (ds : List (Int × Int)) {i j : Nat} (h : i ≤ j) : psum ds i ≤ psum ds j := by
  induction j with
  | zero => have : i = 0 := by omega
            subst this; exact Nat.le_refl _
  | succ j ih =>
    by_cases e : i = j + 1
    · subst e; exact Nat.le_refl _
    · have := ih (by omega)
      simp only [psum]; omega

theorem lowAcc_lt (ds : List (Int × Int)) (i : Nat) : lowAcc ds i < 2 ^ psum ds i := by
  induction i with
  | zero => simp [lowAcc, psum]
  | succ i ih =>
    have := mul_lt_pow (a := psum ds i) (val_lt (at0 ds i))
    simp only [lowAcc, psum]
    omega

theorem lowAcc_rest (ds : List (Int × Int)) (i k : Nat) : ∃ r, lowAcc ds (i + k) = lowAcc ds i + 2 ^ psum ds i * r := by
  induction k with
  | zero => exact ⟨0, by simp⟩
  | succ k ih =>
    obtain ⟨r, hr⟩ := ih
    refine ⟨r + val (at0 ds (i + k)) * 2 ^ (psum ds (i + k) - psum ds i), ?_⟩
    have h := psum_mono ds (show i ≤ i + k by omega)
    have e : (2:Nat) ^ psum ds (i + k) = 2 ^ psum ds i * 2 ^ (psum ds (i + k) - psum ds i) := by
      rw [← Nat.pow_add, show psum ds i + (psum ds (i + k) - psum ds i) = psum ds (i + k) by omega]
    rw [← Nat.add_assoc]
    simp only [lowAcc]
    rw [hr, e, Nat.mul_add, Nat.mul_left_comm]
    omega

theorem low_back (ds : List (Int × Int)) (i n : Nat) (h : i < n) : lowBits (lowAcc ds n) (psum ds i) (wid (at0 ds i)) = val (at0 ds i) := by
  obtain ⟨r, hr⟩ := lowAcc_rest ds (i + 1) (n - (i + 1))
  rw [show i + 1 + (n - (i + 1)) = n by omega] at hr
  have h1 := lowAcc_lt ds i
  have h2 := val_lt (at0 ds i)
  rw [hr]
  simp only [lowAcc, psum]
  generalize val (at0 ds i) = v at *
  generalize wid (at0 ds i) = k at *
  generalize psum ds i = p at *
  generalize lowAcc ds i = a at *
  have e : a + v * 2 ^ p + 2 ^ (p + k) * r = a + 2 ^ p * (v + 2 ^ k * r) := by
    rw [Nat.mul_add, Nat.pow_add, Nat.mul_assoc, Nat.mul_comm v]; omega
  unfold lowBits
  rw [e, Nat.add_mul_div_left _ _ (pow_pos2 p), Nat.div_eq_of_lt h1, Nat.zero_add, Nat.add_mul_mod_self_left, Nat.mod_eq_of_lt h2]

theorem hiAcc_lt (ds : List (Int × Int)) (i : Nat) : hiAcc ds i < 2 ^ psum ds i := by
  induction i with
  | zero => simp [hiAcc, psum]
  | succ i ih =>
    have h := val_lt (at0 ds i)
    simp only [hiAcc, psum]
    generalize val (at0 ds i) = v at *
    generalize wid (at0 ds i) = k at *
    rw [Nat.pow_add]
    have := Nat.mul_le_mul_right (2 ^ k) (show hiAcc ds i + 1 ≤ 2 ^ psum ds i from ih)
    rw [Nat.add_mul] at this
    omega

theorem hiAcc_rest (ds : List (Int × Int)) (i k : Nat) : hiAcc ds (i + k) / 2 ^ (psum ds (i + k) - psum ds i) = hiAcc ds i := by
  induction k with
  | zero => simp
  | succ k ih =>
    have h := psum_mono ds (show i ≤ i + k by omega)
    have hv := val_lt (at0 ds (i + k))
    rw [← Nat.add_assoc]
    simp only [hiAcc, psum]
    rw [show psum ds (i + k) + wid (at0 ds (i + k)) - psum ds i = wid (at0 ds (i + k)) + (psum ds (i + k) - psum ds i) by omega, Nat.pow_add, ← Nat.div_div_eq_div_mul]
    generalize val (at0 ds (i + k)) = v at *
    generalize wid (at0 ds (i + k)) = m at *
    rw [Nat.mul_comm, Nat.mul_add_div (pow_pos2 m), Nat.div_eq_of_lt hv, Nat.add_zero, ih]

theorem high_back (ds : List (Int × Int)) (i n : Nat) (h : i < n) : lowBits (hiAcc ds n) (psum ds n - psum ds i - wid (at0 ds i)) (wid (at0 ds i)) = val (at0 ds i) := by
  have hr := hiAcc_rest ds (i + 1) (n - (i + 1))
  rw [show i + 1 + (n - (i + 1)) = n by omega] at hr
  have e : psum ds n - psum ds (i + 1) = psum ds n - psum ds i - wid (at0 ds i) := by simp only [psum]; omega
  rw [e] at hr
  unfold lowBits
  rw [hr]
  have h2 := val_lt (at0 ds i)
  simp only [hiAcc]
  rw [Nat.mul_comm, Nat.mul_add_mod, Nat.mod_eq_of_lt h2]

/-- Bits of a number that was moved up. -/
theorem lowBits_shift (N q p k : Nat) (h : q ≤ p) : lowBits (N * 2 ^ q) p k = lowBits N (p - q) k := by
  unfold lowBits
  have e : (2:Nat) ^ p = 2 ^ q * 2 ^ (p - q) := by rw [← Nat.pow_add, show q + (p - q) = p by omega]
  rw [e, ← Nat.div_div_eq_div_mul, Nat.mul_div_cancel _ (pow_pos2 q)]

/-- What is wanted: the lowest bits of an int. -/
theorem want_val (d : Int × Int) : d.1 % 2 ^ wid d = ((val d : Nat) : Int) := by
  have := int_bits d.1 0 (wid d) (by have := wid_le d; omega)
  simpa [val, bitsOf] using this

theorem want_and (x m : Int) : bits .and .i64 x (wrap64 (wrap64 (2 ^ wid (x, m)) - 1)) = ((val (x, m) : Nat) : Int) := by
  have hw := wid_le (x, m)
  have e1 : wrap64 (wrap64 ((2:Int) ^ wid (x, m)) - 1) = 2 ^ wid (x, m) - 1 := by
    have hp := pow_le62 (wid (x, m)) (by omega)
    have hp0 := pow_pos2 (wid (x, m))
    have e10 : ((2:Int) ^ wid (x, m)) = ((2 ^ wid (x, m) : Nat) : Int) := by simp
    rw [e10]; unfold wrap64; omega
  rw [e1, mask_i64 x _ (by omega)]
  exact want_val (x, m)

/-- How the walk spells the width. -/
theorem wid_walk (x m : Int) : wrap64 ((IntKind.u64.wrap m).tmod 25) = ((wid (x, m) : Nat) : Int) := by
  have hwid : wid (x, m) = (m % 18446744073709551616 % 25).toNat := rfl
  rw [IntKind.wrap_u64, tmod_of_emod, wrap64_id _ (by omega) (by omega), hwid]; omega

end Go.Proofs.Ytkmgpapopgeldaa
