/-
  depth: floats as numbers: no program is named here but in the laws of the operations.
-/
import Derived.Test.YthdilabmajaehaaDa
import Derived.Laws.FloatArith
import Derived.Laws.Cover2
import Derived.Laws.Externs
namespace Go.Proofs.Ythdilabmajaehaa
open Go.RowKit

/-- How two words stand to each other. -/
abbrev ordD (x y : Nat) : Option Ordering := FloatKind.f64.format.order x y

/-- What a word stands for. -/
abbrev rd (x : Nat) : Ieee.Datum := Ieee.double.read x

theorem ordD_eq (x y : Nat) : ordD x y = (rd x).order (rd y) := rfl

/-- Whether it counts: a number not below 0. -/
def countsB (x : Nat) : Bool := !(rd x).isNaN && decide (x < 9223372036854775808)

theorem compare_self_int (a : Int) : compare a a = .eq := by simp
theorem compare_self_nat (a : Nat) : compare a a = .eq := by simp

theorem ord_self (d : Ieee.Datum) : d.order d = if d.isNaN then none else some .eq := by
  cases d with
  | number s m i => simp [Ieee.Datum.order, Ieee.Datum.isNaN]
  | infinity s => simp [Ieee.Datum.order, Ieee.Datum.isNaN]
  | nan s t => simp [Ieee.Datum.order, Ieee.Datum.isNaN]

theorem rd_neg (x : Nat) (hx : x < 18446744073709551616) : (rd x).neg = decide (9223372036854775808 ≤ x) := by
  have h1 : Ieee.double.signWeight = 9223372036854775808 := by decide
  have h2 : (x / 9223372036854775808 % 2 == 1) = decide (9223372036854775808 ≤ x) := by
    rw [Bool.eq_iff_iff]
    simp
    omega
  unfold rd Ieee.Format.read
  simp only [h1]
  split
  · exact h2
  · split
    · exact h2
    · split
      · exact h2
      · exact h2

/-- A number's digits are nought just where the word is one of the two noughts. -/
theorem rd_zero (x : Nat) (hx : x < 18446744073709551616) {s : Bool} {i : Int} (h : rd x = .number s 0 i) : x = 0 ∨ x = 9223372036854775808 := by
  have h1 : Ieee.double.signWeight = 9223372036854775808 := by decide
  have h2 : Ieee.double.binade = 4503599627370496 := by decide
  unfold rd Ieee.Format.read at h
  simp only [h1, h2] at h
  split at h
  · injection h with _ h _
    omega
  · split at h
    · injection h with _ h _
      omega
    · split at h
      · cases h
      · cases h

theorem rd_nought : rd 0 = .number false 0 (-1074) := by decide +kernel

theorem shift_pos (m k : Nat) : m <<< k = m * 2 ^ k := Nat.shiftLeft_eq m k

/-- Where a number stands to 0. -/
theorem ord_nought (s : Bool) (m : Nat) (i j : Int) : (Ieee.Datum.number s m i).order (.number false 0 j) = some (if m = 0 then .eq else if s then .lt else .gt) := by
  unfold Ieee.Datum.order
  simp only [Option.some.injEq]
  have e0 : Ieee.signed false 0 (j - min i j).toNat = 0 := by simp [Ieee.signed]
  rw [e0]
  by_cases hm : m = 0
  · subst hm
    rw [if_pos rfl]
    cases s <;> simp [Ieee.signed]
  · rw [if_neg hm]
    have hp : 0 < m <<< (i - min i j).toNat := by rw [shift_pos]; exact Nat.mul_pos (by omega) (Nat.two_pow_pos _)
    obtain ⟨q, hq⟩ : ∃ q, q = m <<< (i - min i j).toNat := ⟨_, rfl⟩
    rw [← hq] at hp
    cases s
    · simp only [Ieee.signed, ← hq]
      show compare ((q : Nat) : Int) 0 = .gt
      rw [Int.compare_eq_gt]; omega
    · simp only [Ieee.signed, ← hq]
      show compare (-((q : Nat) : Int)) 0 = .lt
      rw [Int.compare_eq_lt]; omega

/-- What a word is to the document's Better. -/
theorem classes (x : Nat) (hx : x < 18446744073709551616) :
    ((ordD x x == some .eq) = false ∧ (ordD x x != some .eq) = true ∧ countsB x = false) ∨
    (((ordD x x == some .eq) = true ∧ (ordD x x != some .eq) = false) ∧
      (((ordD x 0 == some .gt) = true ∧ countsB x = true) ∨
       ((ordD x 0 == some .gt) = false ∧ (ordD x 0 == some .eq) = false ∧ countsB x = false) ∨
       ((ordD x 0 == some .gt) = false ∧ (ordD x 0 == some .eq) = true ∧ ∃ r, floatBits .quo .f64 4607182418800017408 x = some r ∧ (ordD r 0 == some .gt) = countsB x))) := by
  have hs := ord_self (rd x)
  have hn := rd_neg x hx
  rw [ordD_eq x x]
  cases hd : rd x with
  | nan s t =>
    left
    rw [hd] at hs
    refine ⟨by rw [hs]; rfl, by rw [hs]; rfl, by simp [countsB, hd, Ieee.Datum.isNaN]⟩
  | infinity s =>
    right
    rw [hd] at hs hn
    refine ⟨⟨by rw [hs]; rfl, by rw [hs]; rfl⟩, ?_⟩
    have ho : ordD x 0 = some (if s then .lt else .gt) := by rw [ordD_eq, hd, rd_nought]; rfl
    rw [ho]
    have hn' : s = decide (9223372036854775808 ≤ x) := hn
    cases s with
    | false =>
      left
      refine ⟨rfl, ?_⟩
      have : ¬ 9223372036854775808 ≤ x := by simpa using hn'
      simp [countsB, hd, Ieee.Datum.isNaN]
      omega
    | true =>
      right; left
      refine ⟨rfl, rfl, ?_⟩
      have : 9223372036854775808 ≤ x := by simpa using hn'
      simp [countsB, hd, Ieee.Datum.isNaN]
      omega
  | number s m i =>
    right
    rw [hd] at hs hn
    refine ⟨⟨by rw [hs]; rfl, by rw [hs]; rfl⟩, ?_⟩
    have ho : ordD x 0 = some (if m = 0 then .eq else if s then .lt else .gt) := by rw [ordD_eq, hd, rd_nought]; exact ord_nought s m i _
    rw [ho]
    have hn' : s = decide (9223372036854775808 ≤ x) := hn
    by_cases hm : m = 0
    · subst hm
      right; right
      refine ⟨rfl, rfl, ?_⟩
      rcases rd_zero x hx hd with rfl | rfl
      · exact ⟨9218868437227405312, by decide +kernel, by decide +kernel⟩
      · exact ⟨18442240474082181120, by decide +kernel, by decide +kernel⟩
    · rw [if_neg hm]
      cases s with
      | false =>
        left
        refine ⟨rfl, ?_⟩
        have : ¬ 9223372036854775808 ≤ x := by simpa using hn'
        simp [countsB, hd, Ieee.Datum.isNaN]
        omega
      | true =>
        right; left
        refine ⟨rfl, rfl, ?_⟩
        have : 9223372036854775808 ≤ x := by simpa using hn'
        simp [countsB, hd, Ieee.Datum.isNaN]
        omega

/-- The better ratio. -/
def betterB (x y : Nat) : Bool := countsB x && (!countsB y || (ordD x y == some .lt))

/-- A number that counts, as it is compared: infinities last. -/
inductive Num where
  | fin (v : Nat)
  | inf

def Num.lt : Num → Num → Bool
  | .fin a, .fin b => decide (a < b)
  | .fin _, .inf => true
  | .inf, _ => false

theorem Num.trans {a b c : Num} (h1 : a.lt b = true) (h2 : b.lt c = true) : a.lt c = true := by
  cases a <;> cases b <;> cases c <;> simp_all [Num.lt]
  omega
theorem Num.asym {a b : Num} (h1 : a.lt b = true) (h2 : b.lt a = true) : False := by
  cases a <;> cases b <;> simp_all [Num.lt]
  omega

def numOf : Ieee.Datum → Num
  | .number _ m i => .fin (m * 2 ^ (i + 1074).toNat)
  | _ => .inf

theorem pow_shift (m n : Nat) (i j : Int) (hi : -1074 ≤ i) (hj : -1074 ≤ j) : (m * 2 ^ (i - min i j).toNat < n * 2 ^ (j - min i j).toNat) ↔ (m * 2 ^ (i + 1074).toNat < n * 2 ^ (j + 1074).toNat) := by
  obtain ⟨k, hk⟩ : ∃ k : Nat, min i j + 1074 = (k : Int) := ⟨(min i j + 1074).toNat, by omega⟩
  have e1 : (i + 1074).toNat = (i - min i j).toNat + k := by omega
  have e2 : (j + 1074).toNat = (j - min i j).toNat + k := by omega
  rw [e1, e2, Nat.pow_add, Nat.pow_add, ← Nat.mul_assoc, ← Nat.mul_assoc]
  exact (Nat.mul_lt_mul_right (Nat.two_pow_pos k)).symm

theorem rd_place (x : Nat) {s : Bool} {m : Nat} {i : Int} (h : rd x = .number s m i) : -1074 ≤ i := by
  have h3 : Ieee.double.leastPlace = -1074 := by decide
  unfold rd Ieee.Format.read at h
  simp only [h3] at h
  split at h
  · injection h with _ _ h
    omega
  · split at h
    · injection h with _ _ h
      omega
    · split at h
      · cases h
      · cases h

theorem ord_lt {x y : Nat} (hx : x < 18446744073709551616) (hy : y < 18446744073709551616) (cx : countsB x = true) (cy : countsB y = true) : (ordD x y == some .lt) = (numOf (rd x)).lt (numOf (rd y)) := by
  have nx := rd_neg x hx
  have ny := rd_neg y hy
  simp only [countsB, Bool.and_eq_true, decide_eq_true_eq, Bool.not_eq_true'] at cx cy
  have nx' : (rd x).neg = false := by rw [nx]; exact decide_eq_false (by omega)
  have ny' : (rd y).neg = false := by rw [ny]; exact decide_eq_false (by omega)
  have px := @rd_place x
  have py := @rd_place y
  rw [ordD_eq]
  cases hx : rd x with
  | nan s t => rw [hx] at cx; simp [Ieee.Datum.isNaN] at cx
  | infinity s =>
    rw [hx] at nx'
    have : s = false := nx'
    subst this
    cases hy : rd y with
    | nan s t => rw [hy] at cy; simp [Ieee.Datum.isNaN] at cy
    | infinity t =>
      rw [hy] at ny'
      have : t = false := ny'
      subst this
      rfl
    | number t n j => rfl
  | number s m i =>
    rw [hx] at nx'
    have : s = false := nx'
    subst this
    cases hy : rd y with
    | nan s t => rw [hy] at cy; simp [Ieee.Datum.isNaN] at cy
    | infinity t =>
      rw [hy] at ny'
      have : t = false := ny'
      subst this
      rfl
    | number t n j =>
      rw [hy] at ny'
      have : t = false := ny'
      subst this
      have h := pow_shift m n i j (px hx) (py hy)
      simp only [Ieee.Datum.order, Ieee.signed, numOf, Num.lt, shift_pos]
      rw [Bool.eq_iff_iff]
      simp only [beq_iff_eq, Option.some.injEq, decide_eq_true_eq]
      rw [← h]
      have e : compare ((m * 2 ^ (i - min i j).toNat : Nat) : Int) ((n * 2 ^ (j - min i j).toNat : Nat) : Int) = .lt ↔ ((m * 2 ^ (i - min i j).toNat : Nat) : Int) < ((n * 2 ^ (j - min i j).toNat : Nat) : Int) := Int.compare_eq_lt
      exact e.trans (by omega)

theorem better_irr (x : Nat) (hx : x < 18446744073709551616) : betterB x x = false := by
  unfold betterB
  cases cx : countsB x with
  | false => rfl
  | true =>
    rw [ord_lt hx hx cx cx]
    cases h : (numOf (rd x)).lt (numOf (rd x)) with
    | false => rfl
    | true => exact (Num.asym h h).elim

theorem better_asym {x y : Nat} (hx : x < 18446744073709551616) (hy : y < 18446744073709551616) : (betterB x y && betterB y x) = false := by
  unfold betterB
  cases cx : countsB x with
  | false => rfl
  | true =>
    cases cy : countsB y with
    | false => rfl
    | true =>
      rw [ord_lt hx hy cx cy, ord_lt hy hx cy cx]
      cases h : (numOf (rd x)).lt (numOf (rd y)) with
      | false => rfl
      | true =>
        cases h2 : (numOf (rd y)).lt (numOf (rd x)) with
        | false => rfl
        | true => exact (Num.asym h h2).elim

theorem better_trans {x y z : Nat} (hx : x < 18446744073709551616) (hy : y < 18446744073709551616) (hz : z < 18446744073709551616) (h1 : betterB x y = true) (h2 : betterB y z = true) : betterB x z = true := by
  unfold betterB at *
  cases cx : countsB x with
  | false => rw [cx] at h1; cases h1
  | true =>
    cases cy : countsB y with
    | false => rw [cy] at h2; cases h2
    | true =>
      cases cz : countsB z with
      | false => rfl
      | true =>
        rw [cx, cy, ord_lt hx hy cx cy] at h1
        rw [cy, cz, ord_lt hy hz cy cz] at h2
        rw [ord_lt hx hz cx cz]
        simp only [Bool.not_true, Bool.false_or, Bool.true_and] at *
        exact Num.trans h1 h2
end Go.Proofs.Ythdilabmajaehaa
