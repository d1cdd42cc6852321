/-
  Plain mathematics of bits and bytes: no program is named here.
-/
import Derived.WalkKit
namespace Go.Proofs.Ytdbgolklgiadeaa
open Go.RowKit

theorem pow_split (n : Nat) (hn : n ≤ 64) : (18446744073709551616 : Nat) = 2 ^ n * 2 ^ (64 - n) := by
  rw [← Nat.pow_add, show n + (64 - n) = 64 by omega]

theorem pow_le62 (n : Nat) (hn : n ≤ 62) : (2 : Nat) ^ n ≤ 4611686018427387904 := by
  have h := Nat.pow_le_pow_right (n := 2) (by decide) hn
  have e : (2 : Nat) ^ 62 = 4611686018427387904 := by decide
  omega

theorem pow_pos2 (n : Nat) : 0 < (2 : Nat) ^ n := Nat.pow_pos (by decide)

theorem wrap_i64_id (x : Int) (h0 : -9223372036854775808 ≤ x) (h1 : x < 9223372036854775808) : IntKind.i64.wrap x = x := by
  simp [IntKind.wrap, IntKind.bits, IntKind.signed]; omega

theorem wrap64_id (x : Int) (h0 : -9223372036854775808 ≤ x) (h1 : x < 9223372036854775808) : wrap64 x = x := by
  unfold wrap64; omega

theorem mask_i64 (x : Int) (n : Nat) (hn : n ≤ 62) : bits .and .i64 x (2 ^ n - 1) = x % 2 ^ n := by
  have hp := pow_le62 n hn
  have hp0 := pow_pos2 n
  have e1 : ((2:Int) ^ n - 1) = ((2 ^ n - 1 : Nat) : Int) := by
    rw [Int.natCast_sub hp0]; simp
  have e2 : (BitVec.ofInt 64 ((2:Int) ^ n - 1)).toNat = 2 ^ n - 1 := by
    rw [e1, BitVec.toNat_ofInt]; omega
  have e3 : ((x % (18446744073709551616 : Int)).toNat % 2 ^ n : Nat) = (x % 2 ^ n).toNat := by
    have h1 : (0:Int) ≤ x % 18446744073709551616 := by omega
    have h3 : ((18446744073709551616 : Nat) : Int) = 2 ^ n * 2 ^ (64 - n) := by
      rw [pow_split n (by omega)]; simp
    have h4 : (x % 18446744073709551616) % 2 ^ n = x % 2 ^ n := by
      rw [show (18446744073709551616 : Int) = ((18446744073709551616 : Nat) : Int) from rfl, h3]
      exact Int.emod_emod_of_dvd x (Int.dvd_mul_right _ _)
    have h2 : (((x % (18446744073709551616 : Int)).toNat % 2 ^ n : Nat) : Int) = (x % 18446744073709551616) % 2 ^ n := by
      rw [Int.natCast_emod, Int.toNat_of_nonneg h1]; simp
    omega
  have e5 : (BitVec.ofInt 64 x).toNat = (x % (18446744073709551616 : Int)).toNat := by
    rw [BitVec.toNat_ofInt]; rfl
  have e6 : (BitVec.ofInt 64 x &&& BitVec.ofInt 64 ((2:Int) ^ n - 1)).toNat = (x % 2 ^ n).toNat := by
    rw [BitVec.toNat_and, e2, e5, Nat.and_two_pow_sub_one_eq_mod, e3]
  have hi0 : (0:Int) < 2 ^ n := by exact_mod_cast hp0
  have e7 : (0:Int) ≤ x % 2 ^ n := Int.emod_nonneg _ (by omega)
  have e8 : x % 2 ^ n < 2 ^ n := Int.emod_lt_of_pos _ hi0
  have e10 : ((2:Int) ^ n) = ((2 ^ n : Nat) : Int) := by simp
  have e9 : ((2:Int) ^ n) ≤ 4611686018427387904 := by rw [e10]; omega
  clear e10
  have e4 : (bits .and .i64 x (2 ^ n - 1)) = IntKind.i64.wrap (((x % 2 ^ n).toNat : Nat) : Int) := by
    exact congrArg (fun n : Nat => IntKind.i64.wrap (n : Int)) e6
  rw [e4, wrap_i64_id] <;> omega

theorem or_i64 (i a b : Nat) (ha : a < 2 ^ i) (hb : b % 2 ^ i = 0) (hs : a + b < 4611686018427387904) : bits .or .i64 (a : Int) (b : Int) = (a : Int) + b := by
  have e1 : (BitVec.ofInt 64 (a : Int)).toNat = a := by rw [BitVec.toNat_ofInt]; omega
  have e2 : (BitVec.ofInt 64 (b : Int)).toNat = b := by rw [BitVec.toNat_ofInt]; omega
  have e3 : (BitVec.ofInt 64 (a : Int) ||| BitVec.ofInt 64 (b : Int)).toNat = a + b := by
    rw [BitVec.toNat_or, e1, e2, Nat.or_comm, nat_join i b a hb ha]; omega
  have e4 : bits .or .i64 (a : Int) (b : Int) = IntKind.i64.wrap ((a + b : Nat) : Int) := by
    exact congrArg (fun n : Nat => IntKind.i64.wrap (n : Int)) e3
  rw [e4, wrap_i64_id] <;> omega

theorem or_i64' (i a b : Nat) (ha : a < 2 ^ i) (hb : b % 2 ^ i = 0) (hs : a + b < 4611686018427387904) : bits .or .i64 (b : Int) (a : Int) = (b : Int) + a := by
  have e1 : (BitVec.ofInt 64 (a : Int)).toNat = a := by rw [BitVec.toNat_ofInt]; omega
  have e2 : (BitVec.ofInt 64 (b : Int)).toNat = b := by rw [BitVec.toNat_ofInt]; omega
  have e3 : (BitVec.ofInt 64 (b : Int) ||| BitVec.ofInt 64 (a : Int)).toNat = a + b := by
    rw [BitVec.toNat_or, e1, e2, nat_join i b a hb ha]; omega
  have e4 : bits .or .i64 (b : Int) (a : Int) = IntKind.i64.wrap ((a + b : Nat) : Int) := by
    exact congrArg (fun n : Nat => IntKind.i64.wrap (n : Int)) e3
  rw [e4, wrap_i64_id] <;> omega

/-- The number that bytes are, the first one the lowest. -/
def leNum : List Nat → Nat
  | [] => 0
  | b :: l => b + 256 * leNum l

/-- The number that bytes are, the first one the highest. -/
def beNum : List Nat → Nat
  | [] => 0
  | b :: l => b * 256 ^ l.length + beNum l

theorem byte_le (l : List Nat) (h : ∀ b ∈ l, b < 256) (k : Nat) : leNum l / 2 ^ (8 * k) % 256 = l.getD k 0 := by
  induction l generalizing k with
  | nil => simp [leNum]
  | cons b l ih =>
    have hb : b < 256 := h b (by simp)
    cases k with
    | zero => simp [leNum]; omega
    | succ k =>
      have e : 2 ^ (8 * (k + 1)) = 256 * 2 ^ (8 * k) := by
        rw [show 8 * (k + 1) = 8 + 8 * k by omega, Nat.pow_add]
      have e2 : (b + 256 * leNum l) / 256 = leNum l := by omega
      rw [leNum, e, ← Nat.div_div_eq_div_mul, e2]
      simpa using ih (fun x hx => h x (by simp [hx])) k

theorem pow256 (n : Nat) : (256 : Nat) ^ n = 2 ^ (8 * n) := by
  rw [show (256 : Nat) = 2 ^ 8 by decide, ← Nat.pow_mul]

/-- n bits of V from bit p on, the first one the lowest. -/
def lowBits (V p n : Nat) : Nat := V / 2 ^ p % 2 ^ n

theorem lowBits_lt (V p n : Nat) : lowBits V p n < 2 ^ n := Nat.mod_lt _ (pow_pos2 n)

theorem lowBits_zero (V p : Nat) : lowBits V p 0 = 0 := by simp [lowBits, Nat.mod_one]

theorem lowBits_add (V p m n : Nat) : lowBits V p (m + n) = lowBits V p m + 2 ^ m * lowBits V (p + m) n := by
  unfold lowBits
  rw [Nat.pow_add, Nat.mod_mul, Nat.pow_add, ← Nat.div_div_eq_div_mul]

/-- A piece of a byte. -/
theorem piece_low (l : List Nat) (h : ∀ b ∈ l, b < 256) (p s : Nat) (hs : p % 8 + s ≤ 8) : l.getD (p / 8) 0 / 2 ^ (p % 8) % 2 ^ s = lowBits (leNum l) p s := by
  rw [← byte_le l h (p / 8)]
  unfold lowBits
  have e : (256 : Nat) = 2 ^ (p % 8) * 2 ^ (8 - p % 8) := by
    rw [← Nat.pow_add, show p % 8 + (8 - p % 8) = 8 by omega]
  have e1 : leNum l / 2 ^ (8 * (p / 8)) % 256 / 2 ^ (p % 8) = leNum l / 2 ^ p % 2 ^ (8 - p % 8) := by
    rw [e, Nat.mod_mul_right_div_self, Nat.div_div_eq_div_mul, ← Nat.pow_add, show 8 * (p / 8) + p % 8 = p by omega]
  rw [e1]
  have e2 : (2:Nat) ^ (8 - p % 8) = 2 ^ s * 2 ^ (8 - p % 8 - s) := by
    rw [← Nat.pow_add, show s + (8 - p % 8 - s) = 8 - p % 8 by omega]
  rw [e2, Nat.mod_mul_right_mod]

theorem int_bits (x : Int) (p s : Nat) (h : p + s ≤ 64) : (x / 2 ^ p) % 2 ^ s = ((lowBits (x % 18446744073709551616).toNat p s : Nat) : Int) := by
  have h0 : (0:Int) ≤ x % 18446744073709551616 := by omega
  have hX : (((x % 18446744073709551616).toNat : Nat) : Int) = x % 18446744073709551616 := Int.toNat_of_nonneg h0
  have e0 : ((lowBits (x % 18446744073709551616).toNat p s : Nat) : Int) = (x % 18446744073709551616) / 2 ^ p % 2 ^ s := by
    simp only [lowBits, Int.natCast_emod, Int.natCast_ediv, Int.natCast_pow, hX]
    rfl
  rw [e0]
  have hp : (0:Int) < 2 ^ p := by exact_mod_cast pow_pos2 p
  have e1 : x = x % 18446744073709551616 + 2 ^ p * (2 ^ s * (2 ^ (64 - p - s) * (x / 18446744073709551616))) := by
    have : (2:Int) ^ p * (2 ^ s * (2 ^ (64 - p - s) * (x / 18446744073709551616))) = 18446744073709551616 * (x / 18446744073709551616) := by
      rw [← Int.mul_assoc, ← Int.mul_assoc, ← Int.pow_add, ← Int.pow_add, show p + s + (64 - p - s) = 64 by omega]
      rfl
    rw [this]; omega
  generalize x % 18446744073709551616 = X at *
  generalize 2 ^ (64 - p - s) * (x / 18446744073709551616) = K at *
  rw [e1, Int.add_mul_ediv_left _ _ (by omega), Int.add_mul_emod_self_left]

theorem leNum_append (l : List Nat) (b : Nat) : leNum (l ++ [b]) = leNum l + b * 2 ^ (8 * l.length) := by
  induction l with
  | nil => simp [leNum]
  | cons a l ih =>
    simp only [List.cons_append, leNum, ih, List.length_cons]
    rw [show 8 * (l.length + 1) = 8 + 8 * l.length by omega, Nat.pow_add]
    have : b * (2 ^ 8 * 2 ^ (8 * l.length)) = 256 * (b * 2 ^ (8 * l.length)) := by
      rw [show (2:Nat) ^ 8 = 256 by decide, Nat.mul_left_comm]
    omega

/-- What has been written low: as many bytes as wr bits begin, nothing behind them. -/
structure LowSt (os : List Nat) (wr : Nat) : Prop where
  len : os.length = (wr + 7) / 8
  bytes : ∀ b ∈ os, b < 256
  num : leNum os < 2 ^ wr

theorem mul_lt_pow {q s a : Nat} (h : q < 2 ^ s) : q * 2 ^ a + 2 ^ a ≤ 2 ^ (a + s) := by
  rw [Nat.pow_add, Nat.mul_comm (2 ^ a)]
  have := Nat.mul_le_mul_right (2 ^ a) (show q + 1 ≤ 2 ^ s from h)
  rw [Nat.add_mul] at this
  omega

/-- A piece goes into the last byte, low: init and last are the bytes with room made. -/
theorem low_put {init : List Nat} {last wr s q : Nat} (hl : init.length = wr / 8) (hb : ∀ b ∈ init, b < 256) (hlast : last < 2 ^ (wr % 8)) (hn : leNum (init ++ [last]) < 2 ^ wr) (hs : wr % 8 + s ≤ 8) (hs0 : 0 < s) (hq : q < 2 ^ s) :
    LowSt (init ++ [last + q * 2 ^ (wr % 8)]) (wr + s) ∧ leNum (init ++ [last + q * 2 ^ (wr % 8)]) = leNum (init ++ [last]) + q * 2 ^ wr := by
  have e : leNum (init ++ [last + q * 2 ^ (wr % 8)]) = leNum (init ++ [last]) + q * 2 ^ wr := by
    rw [leNum_append, leNum_append, hl, Nat.add_mul, Nat.mul_assoc, ← Nat.pow_add, show wr % 8 + 8 * (wr / 8) = wr by omega]
    omega
  have h1 := mul_lt_pow (a := wr % 8) hq
  have h2 := mul_lt_pow (a := wr) hq
  have h3 : (2:Nat) ^ (wr % 8 + s) ≤ 2 ^ 8 := Nat.pow_le_pow_right (by decide) hs
  have h4 : (2:Nat) ^ 8 = 256 := by decide
  refine ⟨⟨?_, ?_, by rw [e]; omega⟩, e⟩
  · simp [hl]; omega
  · intro b hb'
    simp only [List.mem_append, List.mem_singleton] at hb'
    rcases hb' with h | h
    · exact hb b h
    · omega

/-- Room made: the last byte, low. -/
theorem LowSt.room {os : List Nat} {wr : Nat} (h : LowSt os wr) (hne : wr % 8 ≠ 0) : ∃ init last, os = init ++ [last] ∧ init.length = wr / 8 ∧ (∀ b ∈ init, b < 256) ∧ last < 2 ^ (wr % 8) ∧ last < 256 := by
  have hl := h.len
  have hos : os ≠ [] := by rintro rfl; simp at hl; omega
  refine ⟨os.dropLast, os.getLast hos, (List.dropLast_concat_getLast hos).symm, by rw [List.length_dropLast]; omega, fun b hb => h.bytes b (List.dropLast_subset _ hb), ?_, h.bytes _ (List.getLast_mem hos)⟩
  have hn := h.num
  rw [← List.dropLast_concat_getLast hos, leNum_append, List.length_dropLast] at hn
  generalize os.getLast hos = last at *
  rw [show 8 * (os.length - 1) = 8 * (wr / 8) by omega] at hn
  have e : (2:Nat) ^ wr = 2 ^ (wr % 8) * 2 ^ (8 * (wr / 8)) := by rw [← Nat.pow_add, show wr % 8 + 8 * (wr / 8) = wr by omega]
  rw [e] at hn
  exact Nat.lt_of_mul_lt_mul_right (Nat.lt_of_le_of_lt (Nat.le_add_left _ _) hn)

theorem or_u8 (i a b : Nat) (ha : a < 2 ^ i) (hb : b % 2 ^ i = 0) (hs : a + b < 256) : bits .or .u8 (a : Int) (b : Int) = ((a + b : Nat) : Int) := by
  rw [u8_or_nat a b (by omega) (by omega), Nat.or_comm, nat_join i b a hb ha]
  omega

theorem or_u8' (i a b : Nat) (ha : a < 2 ^ i) (hb : b % 2 ^ i = 0) (hs : a + b < 256) : bits .or .u8 (b : Int) (a : Int) = ((b + a : Nat) : Int) := by
  rw [u8_or_nat b a (by omega) (by omega), nat_join i b a hb ha]
end Go.Proofs.Ytdbgolklgiadeaa
