/-
  chunk: numbers of four bytes, clones.
-/
import Derived.Test.YtflapcaaaipoeaaCh
import Derived.BigQuiet
namespace Go.Proofs.Ytflapcaaaipoeaa
open Go.RowKit
set_option linter.unusedVariables false

/-- The number that four bytes are, highest first. -/
def w32 (bs : List Nat) : Nat := bs.getD 0 0 * 16777216 + bs.getD 1 0 * 65536 + bs.getD 2 0 * 256 + bs.getD 3 0

theorem or_add (x y k : Nat) (hy : y < 2 ^ k) : (x * 2 ^ k) ||| y = x * 2 ^ k + y := by
  have h := Nat.two_pow_add_eq_or_of_lt (i := k) (b := y) hy x
  rw [Nat.mul_comm x]; exact h.symm

theorem or24 (x y : Nat) (hy : y < 16777216) : (x * 16777216) ||| y = x * 16777216 + y := or_add x y 24 hy
theorem or16 (x y : Nat) (hy : y < 65536) : (x * 65536) ||| y = x * 65536 + y := or_add x y 16 hy
theorem or8 (x y : Nat) (hy : y < 256) : (x * 256) ||| y = x * 256 + y := or_add x y 8 hy

theorem or_three (b0 b1 b2 b3 : Nat) (k0 : b0 < 256) (k1 : b1 < 256) (k2 : b2 < 256) (k3 : b3 < 256) : ((b0 * 16777216 ||| b1 * 65536) ||| b2 * 256) ||| b3 = b0 * 16777216 + b1 * 65536 + b2 * 256 + b3 := by
  have e1 : b0 * 16777216 ||| b1 * 65536 = (b0 * 256 + b1) * 65536 := (or24 b0 (b1 * 65536) (by omega)).trans (by omega)
  have e2 : (b0 * 256 + b1) * 65536 ||| b2 * 256 = (b0 * 65536 + b1 * 256 + b2) * 256 := (or16 (b0 * 256 + b1) (b2 * 256) (by omega)).trans (by omega)
  have e3 : (b0 * 65536 + b1 * 256 + b2) * 256 ||| b3 = b0 * 16777216 + b1 * 65536 + b2 * 256 + b3 := (or8 (b0 * 65536 + b1 * 256 + b2) b3 (by omega)).trans (by omega)
  rw [e1, e2, e3]
theorem or_two_lt (b0 b1 : Nat) (k0 : b0 < 256) (k1 : b1 < 256) : b0 * 16777216 ||| b1 * 65536 < 4294967296 := Nat.or_lt_two_pow (n := 32) (by omega) (by omega)
theorem or_thr_lt (b0 b1 b2 : Nat) (k0 : b0 < 256) (k1 : b1 < 256) (k2 : b2 < 256) : (b0 * 16777216 ||| b1 * 65536) ||| b2 * 256 < 4294967296 := Nat.or_lt_two_pow (n := 32) (or_two_lt b0 b1 k0 k1) (by omega)

theorem word_c (a : Option Addr) (c : Nat) (bs : List Nat) (w : World) (hl : Lies w a bs) (h4 : 4 ≤ bs.length) (hlen : bs.length ≤ 281474976710656) :
    Calls Try.prog 37 #[.slice a bs.length c] w fun e w' => e = .returned (.int .u32 (w32 bs : Int)) ∧ ∃ n, w' = w.drewN n := by
  obtain ⟨ad, rfl, hc0⟩ := hl.2 0 (by omega)
  obtain ⟨_, e1, hc1⟩ := hl.2 1 (by omega)
  obtain ⟨_, e2, hc2⟩ := hl.2 2 (by omega)
  obtain ⟨_, e3, hc3⟩ := hl.2 3 (by omega)
  cases e1; cases e2; cases e3
  have k0 := hl.1 _ (getD_mem bs 0 (by omega))
  have k1 := hl.1 _ (getD_mem bs 1 (by omega))
  have k2 := hl.1 _ (getD_mem bs 2 (by omega))
  have k3 := hl.1 _ (getD_mem bs 3 (by omega))
  have HW : Hid (w32 bs = bs.getD 0 0 * 16777216 + bs.getD 1 0 * 65536 + bs.getD 2 0 * 256 + bs.getD 3 0) := rfl
  have ead : ad.add 0 = ad := by unfold Addr.add; rw [if_pos rfl]
  rw [ead] at hc0
  clear hl ead
  generalize bs.getD 0 0 = b0 at *
  generalize bs.getD 1 0 = b1 at *
  generalize bs.getD 2 0 = b2 at *
  generalize bs.getD 3 0 = b3 at *
  simp [Addr.add] at hc1 hc2 hc3
  generalize bs.length = n at *
  have g0 : (0 : Int) < (n : Int) := by omega
  have g1 : (1 : Int) < (n : Int) := by omega
  have g2 : (2 : Int) < (n : Int) := by omega
  have g3 : (3 : Int) < (n : Int) := by omega
  have p0 : 0 < n := by omega
  have p1 : 1 < n := by omega
  have p2 : 2 < n := by omega
  have p3 : 3 < n := by omega
  have v0 : IntKind.u32.wrap (b0 : Int) = (b0 : Int) := wrap_u32_nat b0 (by omega)
  have v1 : IntKind.u32.wrap (b1 : Int) = (b1 : Int) := wrap_u32_nat b1 (by omega)
  have v2 : IntKind.u32.wrap (b2 : Int) = (b2 : Int) := wrap_u32_nat b2 (by omega)
  have v3 : IntKind.u32.wrap (b3 : Int) = (b3 : Int) := wrap_u32_nat b3 (by omega)
  have x0 : IntKind.u32.wrap ((b0 : Int) * 16777216) = (b0 : Int) * 16777216 := by rw [IntKind.wrap_u32']; omega
  have x1 : IntKind.u32.wrap ((b1 : Int) * 65536) = (b1 : Int) * 65536 := by rw [IntKind.wrap_u32']; omega
  have x2 : IntKind.u32.wrap ((b2 : Int) * 256) = (b2 : Int) * 256 := by rw [IntKind.wrap_u32']; omega
  have y1 : bits .or .u32 ((b0 : Int) * 16777216) ((b1 : Int) * 65536) = ((b0 * 16777216 ||| b1 * 65536 : Nat) : Int) := u32_or_nat (b0 * 16777216) (b1 * 65536) (by omega) (by omega)
  have y2 : bits .or .u32 ((b0 * 16777216 ||| b1 * 65536 : Nat) : Int) ((b2 : Int) * 256) = (((b0 * 16777216 ||| b1 * 65536) ||| b2 * 256 : Nat) : Int) := u32_or_nat (b0 * 16777216 ||| b1 * 65536) (b2 * 256) (or_two_lt b0 b1 k0 k1) (by omega)
  have y3 : bits .or .u32 (((b0 * 16777216 ||| b1 * 65536) ||| b2 * 256 : Nat) : Int) (b3 : Int) = (w32 bs : Int) := by
    rw [HW.out, ← or_three b0 b1 b2 b3 k0 k1 k2 k3]
    exact u32_or_nat _ _ (or_thr_lt b0 b1 b2 k0 k1 k2) (by omega)
  generalize ((b0 * 16777216 ||| b1 * 65536) ||| b2 * 256 : Nat) = m2 at y2 y3
  generalize (b0 * 16777216 ||| b1 * 65536 : Nat) = m1 at y1 y2
  clear k0 k1 k2 k3 HW
  go_enter Try.func37, Try.ntmps37
  go_wp2_with fail
  go_quiet (fail)
  go_wp2
  go_ret
  exact ⟨rfl, _, rfl⟩
end Go.Proofs.Ytflapcaaaipoeaa
