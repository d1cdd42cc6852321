/-
  Plain mathematics of bits and bytes: no program is named here.
-/
import Derived.WalkKit
namespace Go.Proofs.Ytkmgpapopgeldaa
open Go.RowKit

theorem pow_split (n : Nat) (hn : n ≤ 64) : (18446744073709551616 : Nat) = 2 ^ n * 2 ^ (64 - n) := by
  rw [← Nat.pow_add, show n + (64 - n) = 64 by omega]

theorem pow_le62 (n : Nat) (hn : n ≤ 62) : (2 : Nat) ^ n ≤ 4611686018427387904 := by
  have h := Nat.pow_le_pow_right (n := 2) (by decide) hn
  have e : (2 : Nat) ^ 62 = 4611686018427387904 := by decide
  omega

theorem pow_pos2 (n : Nat) : 0 < (2 : Nat) ^ n := Nat.pow_pos (by decide)

theorem wrap_i64_id (x : Int) (h0 : -9223372036854775808 ≤ x) (h1 : x < 9223372036854775808) : IntKind.i64.wrap x = x := by
  simp [IntKind.wrap, IntKind.bits, IntKind.signed]; omega

theorem wrap64_id (x : Int) (h0 : -9223372036854775808 ≤ x) (h1 : x < 9223372036854775808) : wrap64 x = x := by
  unfold wrap64; omega

theorem mask_i64 (x : Int) (n : Nat) (hn : n ≤ 62) : bits .and .i64 x (2 ^ n - 1) = x % 2 ^ n := by
  have hp := pow_le62 n hn
  have hp0 := pow_pos2 n
  have e1 : ((2:Int) ^ n - 1) = ((2 ^ n - 1 : Nat) : Int) := by
    rw [Int.natCast_sub hp0]; simp
  have e2 : (BitVec.ofInt 64 ((2:Int) ^ n - 1)).toNat = 2 ^ n - 1 := by
    rw [e1, BitVec.toNat_ofInt]; omega
  have e3 : ((x % (18446744073709551616 : Int)).toNat % 2 ^ n : Nat) = (x % 2 ^ n).toNat := by
    have h1 : (0:Int) ≤ x % 18446744073709551616 := by omega
    have h3 : ((18446744073709551616 : Nat) : Int) = 2 ^ n * 2 ^ (64 - n) := by
      rw [pow_split n (by omega)]; simp
    have h4 : (x % 18446744073709551616) % 2 ^ n = x % 2 ^ n := by
      rw [show (18446744073709551616 : Int) = ((18446744073709551616 : Nat) : Int) from rfl, h3]
      exact Int.emod_emod_of_dvd x (Int.dvd_mul_right _ _)
    have h2 : (((x % (18446744073709551616 : Int)).toNat % 2 ^ n : Nat) : Int) = (x % 18446744073709551616) % 2 ^ n := by
      rw [Int.natCast_emod, Int.toNat_of_nonneg h1]; simp
    omega
  have e5 : (BitVec.ofInt 64 x).toNat = (x % (18446744073709551616 : Int)).toNat := by
    rw [BitVec.toNat_ofInt]; rfl
  have e6 : (BitVec.ofInt 64 x &&& BitVec.ofInt 64 ((2:Int) ^ n - 1)).toNat = (x % 2 ^ n).toNat := by
    rw [BitVec.toNat_and, e2, e5, Nat.and_two_pow_sub_one_eq_mod, e3]
  have hi0 : (0:Int) < 2 ^ n := by exact_mod_cast hp0
  have e7 : (0:Int) ≤ x % 2 ^ n := Int.emod_nonneg _ (by omega)
  have e8 : x % 2 ^ n < 2 ^ n := Int.emod_lt_of_pos _ hi0
  have e10 : ((2:Int) ^ n) = ((2 ^ n : Nat) : Int) := by simp
  have e9 : ((2:Int) ^ n) ≤ 4611686018427387904 := by rw [e10]; omega
  clear e10
  have e4 : (bits .and .i64 x (2 ^ n - 1)) = IntKind.i64.wrap (((x % 2 ^ n).toNat : Nat) : Int) := by
    exact congrArg (fun n : Nat => IntKind.i64.wrap (n : Int)) e6
  rw [e4, wrap_i64_id] <;> omega

theorem or_i64 (i a b : Nat) (ha : a < 2 ^ i) (hb : b % 2 ^ i = 0) (hs : a + b < 4611686018427387904) : bits .or .i64 (a : Int) (b : Int) = (a : Int) + b := by
  have e1 : (BitVec.ofInt 64 (a : Int)).toNat = a := by rw [BitVec.toNat_ofInt]; omega
  have e2 : (BitVec.ofInt 64 (b : Int)).toNat = b := by rw [BitVec.toNat_ofInt]; omega
  have e3 : (BitVec.ofInt 64 (a : Int) ||| BitVec.ofInt 64 (b : Int)).toNat = a + b := by
    rw [BitVec.toNat_or, e1, e2, Nat.or_comm, nat_join i b a hb ha]; omega
  have e4 : bits .or .i64 (a : Int) (b : Int) = IntKind.i64.wrap ((a + b : Nat) : Int) := by
    exact congrArg (fun n : Nat => IntKind.i64.wrap (n : Int)) e3
  rw [e4, wrap_i64_id] <;> omega

theorem or_i64' (i a b : Nat) (ha : a < 2 ^ i) (hb : b % 2 ^ i = 0) (hs : a + b < 4611686018427387904) : bits .or .i64 (b : Int) (a : Int) = (b : Int) + a := by
  have e1 : (BitVec.ofInt 64 (a : Int)).toNat = a := by rw [BitVec.toNat_ofInt]; omega
  have e2 : (BitVec.ofInt 64 (b : Int)).toNat = b := by rw [BitVec.toNat_ofInt]; omega
  have e3 : (BitVec.ofInt 64 (b : Int) ||| BitVec.ofInt 64 (a : Int)).toNat = a + b := by
    rw [BitVec.toNat_or, e1, e2, nat_join i b a hb ha]; omega
  have e4 : bits .or .i64 (b : Int) (a : Int) = IntKind.i64.wrap ((a + b : Nat) : Int) := by
    exact congrArg (fun n : Nat => IntKind.i64.wrap (n : Int)) e3
  rw [e4, wrap_i64_id] <;> omega

/-- The number that bytes are, the first one the lowest. -/
def leNum : List Nat → Nat
  | [] => 0
  | b :: l => b + 256 * leNum l

/-- The number that bytes are, the first one the highest. -/
def beNum : List Nat → Nat
  | [] => 0
  | b :: l => b * 256 ^ l.length + beNum l

theorem byte_le (l : List Nat) (h : ∀ b ∈ l, b < 256) (k : Nat) : leNum l / 2 ^ (8 * k) % 256 = l.getD k 0 := by
  induction l generalizing k with
  | nil => simp [leNum]
  | cons b l ih =>
    have hb : b < 256 := h b (by simp)
    cases k with
    | zero => simp [leNum]; omega
    | succ k =>
      have e : 2 ^ (8 * (k + 1)) = 256 * 2 ^ (8 * k) := by
        rw [show 8 * (k + 1) = 8 + 8 * k by omega, Nat.pow_add]
      have e2 : (b + 256 * leNum l) / 256 = leNum l := by omega
      rw [leNum, e, ← Nat.div_div_eq_div_mul, e2]
      simpa using ih (fun x hx => h x (by simp [hx])) k

theorem beNum_lt (l : List Nat) (h : ∀ b ∈ l, b < 256) : beNum l < 256 ^ l.length := by
  induction l with
  | nil => simp [beNum]
  | cons b l ih =>
    have hb : b < 256 := h b (by simp)
    have := ih (fun x hx => h x (by simp [hx]))
    simp only [beNum, List.length_cons, Nat.pow_succ]
    have hm : b * 256 ^ l.length ≤ 255 * 256 ^ l.length := Nat.mul_le_mul_right _ (by omega)
    omega

theorem pow256 (n : Nat) : (256 : Nat) ^ n = 2 ^ (8 * n) := by
  rw [show (256 : Nat) = 2 ^ 8 by decide, ← Nat.pow_mul]

theorem byte_be (l : List Nat) (h : ∀ b ∈ l, b < 256) (k : Nat) (hk : k < l.length) : beNum l / 2 ^ (8 * (l.length - 1 - k)) % 256 = l.getD k 0 := by
  induction l generalizing k with
  | nil => simp at hk
  | cons b l ih =>
    have hb : b < 256 := h b (by simp)
    have hl := beNum_lt l (fun x hx => h x (by simp [hx]))
    have hp : 0 < (2:Nat) ^ (8 * l.length) := pow_pos2 _
    rw [pow256] at hl
    cases k with
    | zero =>
      simp only [beNum, List.length_cons, List.getD_cons_zero, pow256]
      rw [show 8 * (l.length + 1 - 1 - 0) = 8 * l.length by omega, Nat.mul_comm, Nat.mul_add_div hp, Nat.div_eq_of_lt hl]
      omega
    | succ k =>
      simp only [List.length_cons] at hk
      have ih' := ih (fun x hx => h x (by simp [hx])) k (by omega)
      simp only [beNum, List.length_cons, List.getD_cons_succ, pow256]
      rw [← ih', show 8 * (l.length + 1 - 1 - (k + 1)) = 8 * (l.length - 1 - k) by omega]
      have e : b * 2 ^ (8 * l.length) = 2 ^ (8 * (l.length - 1 - k)) * (256 * (b * 2 ^ (8 * k))) := by
        rw [show (256 : Nat) = 2 ^ 8 by decide]
        rw [show 8 * l.length = 8 * (l.length - 1 - k) + (8 + 8 * k) by omega, Nat.pow_add, Nat.pow_add]
        simp only [Nat.mul_comm, Nat.mul_left_comm, Nat.mul_assoc]
      rw [e, Nat.mul_add_div (pow_pos2 _)]
      omega

/-- n bits of V from bit p on, the first one the lowest. -/
def lowBits (V p n : Nat) : Nat := V / 2 ^ p % 2 ^ n

theorem lowBits_lt (V p n : Nat) : lowBits V p n < 2 ^ n := Nat.mod_lt _ (pow_pos2 n)
theorem lowBits_zero (V p : Nat) : lowBits V p 0 = 0 := by simp [lowBits, Nat.mod_one]

theorem lowBits_add (V p m n : Nat) : lowBits V p (m + n) = lowBits V p m + 2 ^ m * lowBits V (p + m) n := by
  unfold lowBits
  rw [Nat.pow_add, Nat.mod_mul, Nat.pow_add, ← Nat.div_div_eq_div_mul]

/-- A piece of a byte. -/
theorem piece_low (l : List Nat) (h : ∀ b ∈ l, b < 256) (p s : Nat) (hs : p % 8 + s ≤ 8) : l.getD (p / 8) 0 / 2 ^ (p % 8) % 2 ^ s = lowBits (leNum l) p s := by
  rw [← byte_le l h (p / 8)]
  unfold lowBits
  have e : (256 : Nat) = 2 ^ (p % 8) * 2 ^ (8 - p % 8) := by
    rw [← Nat.pow_add, show p % 8 + (8 - p % 8) = 8 by omega]
  have e1 : leNum l / 2 ^ (8 * (p / 8)) % 256 / 2 ^ (p % 8) = leNum l / 2 ^ p % 2 ^ (8 - p % 8) := by
    rw [e, Nat.mod_mul_right_div_self, Nat.div_div_eq_div_mul, ← Nat.pow_add, show 8 * (p / 8) + p % 8 = p by omega]
  rw [e1]
  have e2 : (2:Nat) ^ (8 - p % 8) = 2 ^ s * 2 ^ (8 - p % 8 - s) := by
    rw [← Nat.pow_add, show s + (8 - p % 8 - s) = 8 - p % 8 by omega]
  rw [e2, Nat.mod_mul_right_mod]

/-- A piece of a byte, from its highest bit on. -/
theorem piece_high (l : List Nat) (h : ∀ b ∈ l, b < 256) (p s : Nat) (hs : p % 8 + s ≤ 8) (hp : p / 8 < l.length) :
    l.getD (p / 8) 0 / 2 ^ (8 - p % 8 - s) % 2 ^ s = lowBits (beNum l) (8 * l.length - p - s) s := by
  rw [← byte_be l h (p / 8) hp]
  unfold lowBits
  have e : (256 : Nat) = 2 ^ (8 - p % 8 - s) * 2 ^ (p % 8 + s) := by
    rw [← Nat.pow_add, show (8 - p % 8 - s) + (p % 8 + s) = 8 by omega]
  have e1 : beNum l / 2 ^ (8 * (l.length - 1 - p / 8)) % 256 / 2 ^ (8 - p % 8 - s) = beNum l / 2 ^ (8 * l.length - p - s) % 2 ^ (p % 8 + s) := by
    rw [e, Nat.mod_mul_right_div_self, Nat.div_div_eq_div_mul, ← Nat.pow_add]
    congr 3
    omega
  rw [e1, Nat.add_comm (p % 8) s, Nat.pow_add, Nat.mod_mul_right_mod]

end Go.Proofs.Ytkmgpapopgeldaa
