/-
  Plain mathematics of writing bits: no program is named here.
-/
import Derived.Test.YtkmgpapopgeldaaM
namespace Go.Proofs.Ytkmgpapopgeldaa
open Go.RowKit

theorem int_bits (x : Int) (p s : Nat) (h : p + s ≤ 64) : (x / 2 ^ p) % 2 ^ s = ((lowBits (x % 18446744073709551616).toNat p s : Nat) : Int) := by
  have h0 : (0:Int) ≤ x % 18446744073709551616 := by omega
  have hX : (((x % 18446744073709551616).toNat : Nat) : Int) = x % 18446744073709551616 := Int.toNat_of_nonneg h0
  have e0 : ((lowBits (x % 18446744073709551616).toNat p s : Nat) : Int) = (x % 18446744073709551616) / 2 ^ p % 2 ^ s := by
    simp only [lowBits, Int.natCast_emod, Int.natCast_ediv, Int.natCast_pow, hX]
    rfl
  rw [e0]
  have hp : (0:Int) < 2 ^ p := by exact_mod_cast pow_pos2 p
  have e1 : x = x % 18446744073709551616 + 2 ^ p * (2 ^ s * (2 ^ (64 - p - s) * (x / 18446744073709551616))) := by
    have : (2:Int) ^ p * (2 ^ s * (2 ^ (64 - p - s) * (x / 18446744073709551616))) = 18446744073709551616 * (x / 18446744073709551616) := by
      rw [← Int.mul_assoc, ← Int.mul_assoc, ← Int.pow_add, ← Int.pow_add, show p + s + (64 - p - s) = 64 by omega]
      rfl
    rw [this]; omega
  generalize x % 18446744073709551616 = X at *
  generalize 2 ^ (64 - p - s) * (x / 18446744073709551616) = K at *
  rw [e1, Int.add_mul_ediv_left _ _ (by omega), Int.add_mul_emod_self_left]

theorem leNum_append (l : List Nat) (b : Nat) : leNum (l ++ [b]) = leNum l + b * 2 ^ (8 * l.length) := by
  induction l with
  | nil => simp [leNum]
  | cons a l ih =>
    simp only [List.cons_append, leNum, ih, List.length_cons]
    rw [show 8 * (l.length + 1) = 8 + 8 * l.length by omega, Nat.pow_add]
    have : b * (2 ^ 8 * 2 ^ (8 * l.length)) = 256 * (b * 2 ^ (8 * l.length)) := by
      rw [show (2:Nat) ^ 8 = 256 by decide, Nat.mul_left_comm]
    omega

theorem beNum_append (l : List Nat) (b : Nat) : beNum (l ++ [b]) = beNum l * 256 + b := by
  induction l with
  | nil => simp [beNum]
  | cons a l ih =>
    simp only [List.cons_append, beNum, ih, List.length_append, List.length_cons, List.length_nil, Nat.zero_add, Nat.pow_succ]
    rw [Nat.add_mul, Nat.mul_assoc, Nat.add_assoc]

/-- What has been written low: as many bytes as wr bits begin, nothing behind them. -/
structure LowSt (os : List Nat) (wr : Nat) : Prop where
  len : os.length = (wr + 7) / 8
  bytes : ∀ b ∈ os, b < 256
  num : leNum os < 2 ^ wr

/-- What has been written high. -/
structure HighSt (os : List Nat) (wr : Nat) : Prop where
  len : os.length = (wr + 7) / 8
  bytes : ∀ b ∈ os, b < 256
  num : beNum os % 2 ^ (8 * os.length - wr) = 0

theorem mul_lt_pow {q s a : Nat} (h : q < 2 ^ s) : q * 2 ^ a + 2 ^ a ≤ 2 ^ (a + s) := by
  rw [Nat.pow_add, Nat.mul_comm (2 ^ a)]
  have := Nat.mul_le_mul_right (2 ^ a) (show q + 1 ≤ 2 ^ s from h)
  rw [Nat.add_mul] at this
  omega

/-- A piece goes into the last byte, low: init and last are the bytes with room made. -/
theorem low_put {init : List Nat} {last wr s q : Nat} (hl : init.length = wr / 8) (hb : ∀ b ∈ init, b < 256) (hlast : last < 2 ^ (wr % 8)) (hn : leNum (init ++ [last]) < 2 ^ wr) (hs : wr % 8 + s ≤ 8) (hs0 : 0 < s) (hq : q < 2 ^ s) :
    LowSt (init ++ [last + q * 2 ^ (wr % 8)]) (wr + s) ∧ leNum (init ++ [last + q * 2 ^ (wr % 8)]) = leNum (init ++ [last]) + q * 2 ^ wr := by
  have e : leNum (init ++ [last + q * 2 ^ (wr % 8)]) = leNum (init ++ [last]) + q * 2 ^ wr := by
    rw [leNum_append, leNum_append, hl, Nat.add_mul, Nat.mul_assoc, ← Nat.pow_add, show wr % 8 + 8 * (wr / 8) = wr by omega]
    omega
  have h1 := mul_lt_pow (a := wr % 8) hq
  have h2 := mul_lt_pow (a := wr) hq
  have h3 : (2:Nat) ^ (wr % 8 + s) ≤ 2 ^ 8 := Nat.pow_le_pow_right (by decide) hs
  have h4 : (2:Nat) ^ 8 = 256 := by decide
  refine ⟨⟨?_, ?_, by rw [e]; omega⟩, e⟩
  · simp [hl]; omega
  · intro b hb'
    simp only [List.mem_append, List.mem_singleton] at hb'
    rcases hb' with h | h
    · exact hb b h
    · omega

/-- A piece goes into the last byte, high. -/
theorem high_put {init : List Nat} {last wr s q : Nat} (hl : init.length = wr / 8) (hb : ∀ b ∈ init, b < 256) (hlast : last % 2 ^ (8 - wr % 8) = 0) (hlb : last < 256) (hs : wr % 8 + s ≤ 8) (hs0 : 0 < s) (hq : q < 2 ^ s) :
    HighSt (init ++ [last + q * 2 ^ (8 - wr % 8 - s)]) (wr + s) ∧ beNum (init ++ [last + q * 2 ^ (8 - wr % 8 - s)]) = beNum (init ++ [last]) + q * 2 ^ (8 - wr % 8 - s) := by
  have e : beNum (init ++ [last + q * 2 ^ (8 - wr % 8 - s)]) = beNum (init ++ [last]) + q * 2 ^ (8 - wr % 8 - s) := by
    rw [beNum_append, beNum_append]; omega
  have h1 := mul_lt_pow (a := 8 - wr % 8 - s) hq
  rw [show 8 - wr % 8 - s + s = 8 - wr % 8 by omega] at h1
  have hd : last + 2 ^ (8 - wr % 8) ≤ 256 := by
    have h3 : (256:Nat) = 2 ^ (wr % 8) * 2 ^ (8 - wr % 8) := by
      rw [← Nat.pow_add, show wr % 8 + (8 - wr % 8) = 8 by omega]
    have h4 : last = last / 2 ^ (8 - wr % 8) * 2 ^ (8 - wr % 8) := by
      have := Nat.div_add_mod last (2 ^ (8 - wr % 8))
      rw [hlast, Nat.mul_comm] at this; omega
    have hp := pow_pos2 (8 - wr % 8)
    generalize 2 ^ (8 - wr % 8) = P at *
    generalize last / P = d at *
    rw [h4, h3] at hlb
    have := Nat.lt_of_mul_lt_mul_right hlb
    have := Nat.mul_le_mul_right P (show d + 1 ≤ 2 ^ (wr % 8) from this)
    rw [Nat.add_mul] at this
    omega
  have hp := pow_pos2 (8 - wr % 8 - s)
  refine ⟨⟨?_, ?_, ?_⟩, e⟩
  · simp [hl]; omega
  · intro b hb'
    simp only [List.mem_append, List.mem_singleton] at hb'
    rcases hb' with h | h
    · exact hb b h
    · omega
  · have e2 : 8 * (init ++ [last + q * 2 ^ (8 - wr % 8 - s)]).length - (wr + s) = 8 - wr % 8 - s := by simp [hl]; omega
    rw [e2, e, beNum_append]
    have h5 : (256:Nat) = 2 ^ (8 - wr % 8 - s) * 2 ^ (wr % 8 + s) := by
      rw [← Nat.pow_add, show (8 - wr % 8 - s) + (wr % 8 + s) = 8 by omega]
    have h6 : last = 2 ^ (8 - wr % 8 - s) * (2 ^ s * (last / 2 ^ (8 - wr % 8))) := by
      have := Nat.div_add_mod last (2 ^ (8 - wr % 8))
      rw [hlast] at this
      rw [← Nat.mul_assoc, ← Nat.pow_add, show 8 - wr % 8 - s + s = 8 - wr % 8 by omega]; omega
    generalize last / 2 ^ (8 - wr % 8) = d at h6
    rw [h5, h6]
    generalize 2 ^ (8 - wr % 8 - s) = P at *
    rw [show beNum init * (P * 2 ^ (wr % 8 + s)) + P * (2 ^ s * d) + q * P = P * (beNum init * 2 ^ (wr % 8 + s) + 2 ^ s * d + q) by
      rw [Nat.mul_add, Nat.mul_add, Nat.mul_left_comm, Nat.mul_comm q]]
    exact Nat.mul_mod_right _ _

/-- Room made: the last byte, low. -/
theorem LowSt.room {os : List Nat} {wr : Nat} (h : LowSt os wr) (hne : wr % 8 ≠ 0) : ∃ init last, os = init ++ [last] ∧ init.length = wr / 8 ∧ (∀ b ∈ init, b < 256) ∧ last < 2 ^ (wr % 8) ∧ last < 256 := by
  have hl := h.len
  have hos : os ≠ [] := by rintro rfl; simp at hl; omega
  refine ⟨os.dropLast, os.getLast hos, (List.dropLast_concat_getLast hos).symm, by rw [List.length_dropLast]; omega, fun b hb => h.bytes b (List.dropLast_subset _ hb), ?_, h.bytes _ (List.getLast_mem hos)⟩
  have hn := h.num
  rw [← List.dropLast_concat_getLast hos, leNum_append, List.length_dropLast] at hn
  generalize os.getLast hos = last at *
  rw [show 8 * (os.length - 1) = 8 * (wr / 8) by omega] at hn
  have e : (2:Nat) ^ wr = 2 ^ (wr % 8) * 2 ^ (8 * (wr / 8)) := by rw [← Nat.pow_add, show wr % 8 + 8 * (wr / 8) = wr by omega]
  rw [e] at hn
  exact Nat.lt_of_mul_lt_mul_right (Nat.lt_of_le_of_lt (Nat.le_add_left _ _) hn)

theorem HighSt.room {os : List Nat} {wr : Nat} (h : HighSt os wr) (hne : wr % 8 ≠ 0) : ∃ init last, os = init ++ [last] ∧ init.length = wr / 8 ∧ (∀ b ∈ init, b < 256) ∧ last % 2 ^ (8 - wr % 8) = 0 ∧ last < 256 := by
  have hl := h.len
  have hos : os ≠ [] := by rintro rfl; simp at hl; omega
  refine ⟨os.dropLast, os.getLast hos, (List.dropLast_concat_getLast hos).symm, by rw [List.length_dropLast]; omega, fun b hb => h.bytes b (List.dropLast_subset _ hb), ?_, h.bytes _ (List.getLast_mem hos)⟩
  have hn := h.num
  rw [show 8 * os.length - wr = 8 - wr % 8 by omega, ← List.dropLast_concat_getLast hos, beNum_append] at hn
  generalize os.getLast hos = last at *
  have e : (256:Nat) = 2 ^ (wr % 8) * 2 ^ (8 - wr % 8) := by rw [← Nat.pow_add, show wr % 8 + (8 - wr % 8) = 8 by omega]
  rw [e, ← Nat.mul_assoc, Nat.mul_comm, Nat.mul_add_mod] at hn
  exact hn

theorem or_u8 (i a b : Nat) (ha : a < 2 ^ i) (hb : b % 2 ^ i = 0) (hs : a + b < 256) : bits .or .u8 (a : Int) (b : Int) = ((a + b : Nat) : Int) := by
  rw [u8_or_nat a b (by omega) (by omega), Nat.or_comm, nat_join i b a hb ha]
  omega
theorem or_u8' (i a b : Nat) (ha : a < 2 ^ i) (hb : b % 2 ^ i = 0) (hs : a + b < 256) : bits .or .u8 (b : Int) (a : Int) = ((b + a : Nat) : Int) := by
  rw [u8_or_nat b a (by omega) (by omega), nat_join i b a hb ha]

end Go.Proofs.Ytkmgpapopgeldaa
