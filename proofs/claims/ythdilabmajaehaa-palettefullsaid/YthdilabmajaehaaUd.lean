/-
  raster: the keys: each is its four samples.
-/
import Derived.Test.YthdilabmajaehaaUc
import Derived.Laws.BitsAllLaws
namespace Go.Proofs.Ythdilabmajaehaa

/-- The number of the samples from b on, r of them. -/
def val (px : List Nat) (b : Nat) : Nat → Nat
  | 0 => 0
  | r + 1 => val px b r * 65536 + px.getD (b + r) 0

theorem getD_lt {px : List Nat} (h : ∀ b ∈ px, b < 65536) (j : Nat) : px.getD j 0 < 65536 := by
  rw [List.getD_eq_getElem?_getD]
  by_cases hj : j < px.length
  · rw [List.getElem?_eq_getElem hj]
    exact h _ (List.getElem_mem hj)
  · rw [List.getElem?_eq_none (by omega)]
    decide

theorem val_lt {px : List Nat} (h : ∀ b ∈ px, b < 65536) (b : Nat) : ∀ r, val px b r < 65536 ^ r
  | 0 => by simp [val]
  | r + 1 => by
    have h1 := val_lt h b r
    have h2 := getD_lt h (b + r)
    rw [Nat.pow_succ]
    simp only [val]
    omega

theorem wrap_u64 (n : Nat) (h : n < 18446744073709551616) : IntKind.u64.wrap (n : Int) = (n : Int) := by
  simp [IntKind.wrap, IntKind.bits, IntKind.signed]
  omega

theorem step_u64 (A s : Nat) (hA : A < 281474976710656) (hs : s < 65536) : bits .or .u64 (IntKind.u64.wrap ((A : Int) * 65536)) (IntKind.u64.wrap (s : Int)) = ((A * 65536 + s : Nat) : Int) := by
  have e : (A : Int) * 65536 = ((A * 65536 : Nat) : Int) := by omega
  rw [e, wrap_u64 _ (by omega), wrap_u64 _ (by omega), u64_or_nat _ _ (by omega) (by omega)]
  have h := Nat.two_pow_add_eq_or_of_lt (i := 16) (b := s) (by omega) A
  have e2 : A * 65536 = 2 ^ 16 * A := by omega
  rw [e2, ← h]

theorem keyF_get {px : List Nat} (h : ∀ b ∈ px, b < 65536) (m q : Nat) (hq : q < m) : ∀ j, j ≤ 4 * m → (keyF m px j).getD q 0 = ((val px (4 * q) (min 4 (j - 4 * q)) : Nat) : Int)
  | 0 => fun _ => by simp [keyF, val, List.getD_eq_getElem?_getD, hq]
  | j + 1 => fun hj => by
    have ih := keyF_get h m q hq j (by omega)
    simp only [keyF]
    by_cases e : j / 4 = q
    · obtain ⟨r, hr⟩ : ∃ r, r = j - 4 * q := ⟨_, rfl⟩
      have hr4 : r < 4 := by omega
      have e1 : min 4 (j - 4 * q) = r := by omega
      have e2 : min 4 (j + 1 - 4 * q) = r + 1 := by omega
      have e3 : 4 * q + r = j := by omega
      rw [e1] at ih
      rw [e2, e, ih]
      have hv := val_lt h (4 * q) r
      have hp : (65536 : Nat) ^ r ≤ 65536 ^ 3 := Nat.pow_le_pow_right (by decide) (by omega)
      rw [step_u64 _ _ (Nat.lt_of_lt_of_le hv (Nat.le_trans hp (by decide))) (getD_lt h j)]
      rw [List.getD_eq_getElem?_getD, List.getElem?_set_self (by rw [keyF_length]; exact hq)]
      simp only [val, e3, Option.getD_some]
    · rw [List.getD_eq_getElem?_getD, List.getElem?_set_ne e, ← List.getD_eq_getElem?_getD, ih]
      have e4 : min 4 (j - 4 * q) = min 4 (j + 1 - 4 * q) := by omega
      rw [e4]

/-- The keys: of each pixel the number of its four samples. -/
theorem keyF_eq {px : List Nat} (h : ∀ b ∈ px, b < 65536) (m : Nat) : keyF m px (4 * m) = (List.range m).map fun q => ((val px (4 * q) 4 : Nat) : Int) := by
  apply List.ext_getElem
  · simp [keyF_length]
  · intro q h1 h2
    have hq : q < m := by simpa [keyF_length] using h1
    have e := keyF_get h m q hq (4 * m) (Nat.le_refl _)
    rw [show min 4 (4 * m - 4 * q) = 4 by omega, List.getD_eq_getElem?_getD, List.getElem?_eq_getElem h1] at e
    simpa using e

/-- Keys are alike just where the four samples are. -/
theorem val_inj {px : List Nat} (h : ∀ b ∈ px, b < 65536) (a b : Nat) (e : val px a 4 = val px b 4) :
    px.getD a 0 = px.getD b 0 ∧ px.getD (a + 1) 0 = px.getD (b + 1) 0 ∧ px.getD (a + 2) 0 = px.getD (b + 2) 0 ∧ px.getD (a + 3) 0 = px.getD (b + 3) 0 := by
  simp only [val, Nat.add_zero] at e
  have := getD_lt h a
  have := getD_lt h (a + 1)
  have := getD_lt h (a + 2)
  have := getD_lt h (a + 3)
  have := getD_lt h b
  have := getD_lt h (b + 1)
  have := getD_lt h (b + 2)
  have := getD_lt h (b + 3)
  omega
end Go.Proofs.Ythdilabmajaehaa
