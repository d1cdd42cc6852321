/-
  The document's own writer of bits, as mathematics.
-/
import Derived.Test.YtleeaofofofgmaaDoorWm
import Derived.Test.YtleeaofofofgmaaDoorTa
namespace Go.Proofs.YtleeaofofofgmaaDoor
open Go.RowKit

/-- The bits of an int as a number. -/
def bitsOf (x : Int) : Nat := (x % 18446744073709551616).toNat

/-- The number of a list of bits, the lowest first. -/
def numL : List Nat → Nat
  | [] => 0
  | b :: l => b + 2 * numL l

/-- The number of a list of bits, the highest first. -/
def numH (l : List Nat) : Nat := l.foldl (fun a b => 2 * a + b) 0

theorem numL_append (l : List Nat) (b : Nat) : numL (l ++ [b]) = numL l + b * 2 ^ l.length := by
  induction l with
  | nil => simp [numL]
  | cons a l ih =>
    simp only [List.cons_append, numL, ih, List.length_cons, Nat.pow_succ]
    have : b * (2 ^ l.length * 2) = 2 * (b * 2 ^ l.length) := by rw [← Nat.mul_assoc, Nat.mul_comm]
    omega

theorem numH_append (l : List Nat) (b : Nat) : numH (l ++ [b]) = 2 * numH l + b := by simp [numH, List.foldl_append]

theorem numL_lt (l : List Nat) (h : ∀ b ∈ l, b < 2) : numL l < 2 ^ l.length := by
  induction l with
  | nil => simp [numL]
  | cons a l ih =>
    have h1 := h a (by simp)
    have h2 := ih (fun b hb => h b (by simp [hb]))
    simp only [numL, List.length_cons, Nat.pow_succ]
    omega

theorem take_one (l : List Nat) (i : Nat) (h : i < l.length) : l.take (i + 1) = l.take i ++ [l.getD i 0] := by
  rw [List.take_succ_eq_append_getElem h]
  simp [List.getElem?_eq_getElem h]

theorem leNum_set (l : List Nat) (k d : Nat) (h : k < l.length) : leNum (l.set k (l.getD k 0 + d)) = leNum l + d * 2 ^ (8 * k) := by
  induction l generalizing k with
  | nil => simp at h
  | cons a l ih =>
    cases k with
    | zero => simp [leNum]; omega
    | succ k =>
      have := ih k (by simpa using h)
      simp only [List.set_cons_succ, leNum, List.getD_cons_succ, this]
      rw [show 8 * (k + 1) = 8 + 8 * k by omega, Nat.pow_add]
      have : d * (2 ^ 8 * 2 ^ (8 * k)) = 256 * (d * 2 ^ (8 * k)) := by
        rw [show (2:Nat) ^ 8 = 256 by decide, Nat.mul_left_comm]
      omega

/-- What Out has laid behind i bits. -/
structure OutSt (hb : Bool) (bl ob : List Nat) (L i : Nat) : Prop where
  len : ob.length = L
  bytes : ∀ b ∈ ob, b < 256
  num : if hb = true then beNum ob = numH (bl.take i) * 2 ^ (8 * L - i) else leNum ob = numL (bl.take i)

theorem set_bytes {ob : List Nat} {k r : Nat} (h : ∀ b ∈ ob, b < 256) (hr : r < 256) : ∀ b ∈ ob.set k r, b < 256 := by
  intro b hb
  rcases List.mem_or_eq_of_mem_set hb with h1 | h1
  · exact h b h1
  · omega

theorem out_low (bl ob : List Nat) (L i : Nat) (h : OutSt false bl ob L i) (hbl : ∀ b ∈ bl, b < 2) (hi : i < bl.length) (hL : bl.length ≤ 8 * L) :
    ∃ r : Nat, r < 256 ∧ bits .or .u8 ((ob.getD (i / 8) 0 : Nat) : Int) ((bl.getD i 0 * 2 ^ (i % 8) : Nat) : Int) = (r : Int) ∧ OutSt false bl (ob.set (i / 8) r) L (i + 1) := by
  have hk : i / 8 < ob.length := by rw [h.len]; omega
  have hn : leNum ob = numL (bl.take i) := by simpa using h.num
  have hlt : leNum ob < 2 ^ i := by
    have := numL_lt (bl.take i) (fun b hb => hbl b (List.mem_of_mem_take hb))
    rw [List.length_take, Nat.min_eq_left (by omega)] at this
    omega
  have hb1 : bl.getD i 0 < 2 := by
    rw [List.getD_eq_getElem?_getD, List.getElem?_eq_getElem hi]
    exact hbl _ (List.getElem_mem hi)
  have hbyte := byte_le ob h.bytes (i / 8)
  have hlast : ob.getD (i / 8) 0 < 2 ^ (i % 8) := by
    rw [← hbyte]
    have h1 : leNum ob / 2 ^ (8 * (i / 8)) < 2 ^ (i % 8) := by
      rw [Nat.div_lt_iff_lt_mul (pow_pos2 _), ← Nat.pow_add, show i % 8 + 8 * (i / 8) = i by omega]
      exact hlt
    exact Nat.lt_of_le_of_lt (Nat.mod_le _ _) h1
  have h2 := mul_lt_pow (q := bl.getD i 0) (s := 1) (a := i % 8) (by simpa using hb1)
  have h3 : (2:Nat) ^ (i % 8 + 1) ≤ 2 ^ 8 := Nat.pow_le_pow_right (by decide) (by omega)
  have h4 : (2:Nat) ^ 8 = 256 := by decide
  refine ⟨ob.getD (i / 8) 0 + bl.getD i 0 * 2 ^ (i % 8), by omega, or_u8 (i % 8) _ _ hlast (Nat.mul_mod_left _ _) (by omega), ?_⟩
  refine ⟨by rw [List.length_set]; exact h.len, set_bytes h.bytes (by omega), ?_⟩
  rw [if_neg (by simp), leNum_set _ _ _ hk, take_one bl i hi, numL_append, hn, List.length_take, Nat.min_eq_left (by omega), Nat.mul_assoc, ← Nat.pow_add, show i % 8 + 8 * (i / 8) = i by omega]

/-- What Put has packed of x's n lowest bits. -/
def PutSt (hb : Bool) (bl0 bl : List Nat) (x : Int) (n i : Nat) : Prop :=
  bl.length = bl0.length + i ∧ (∀ b ∈ bl, b < 2) ∧ if hb = true then numH bl = numH bl0 * 2 ^ i + lowBits (bitsOf x) (n - i) i else numL bl = numL bl0 + lowBits (bitsOf x) 0 i * 2 ^ bl0.length

theorem bitl_lt {bl : List Nat} {b : Nat} (h : ∀ b ∈ bl, b < 2) (hb : b < 2) : ∀ c ∈ bl ++ [b], c < 2 := by
  intro c hc
  simp only [List.mem_append, List.mem_singleton] at hc
  rcases hc with h1 | h1
  · exact h c h1
  · omega

theorem put_low (bl0 bl : List Nat) (x : Int) (n i : Nat) (h : PutSt false bl0 bl x n i) : PutSt false bl0 (bl ++ [lowBits (bitsOf x) i 1]) x n (i + 1) := by
  obtain ⟨h1, h2, h3⟩ := h
  have hb := lowBits_lt (bitsOf x) i 1
  refine ⟨by simp; omega, bitl_lt h2 (by simpa using hb), ?_⟩
  rw [if_neg (by simp)] at h3
  rw [if_neg (by simp), numL_append, h3, lowBits_add (bitsOf x) 0 i 1, h1, Nat.zero_add, Nat.add_mul, Nat.pow_add]
  have : lowBits (bitsOf x) i 1 * (2 ^ bl0.length * 2 ^ i) = 2 ^ i * lowBits (bitsOf x) i 1 * 2 ^ bl0.length := by
    rw [Nat.mul_comm (2 ^ i), Nat.mul_assoc, Nat.mul_comm (2 ^ i)]
  omega

/-- The bit that Put reckons. -/
theorem put_bit (x : Int) (i : Nat) (h : i ≤ 60) : bits .and .i64 (x / 2 ^ i) 1 = ((lowBits (bitsOf x) i 1 : Nat) : Int) := by
  have h1 := mask_i64 (x / 2 ^ i) 1 (by decide)
  have h2 := int_bits x i 1 (by omega)
  simp only [Int.pow_one, show (2:Int) - 1 = 1 by decide] at h1
  rw [h1]
  simpa [bitsOf] using h2


end Go.Proofs.YtleeaofofofgmaaDoor
