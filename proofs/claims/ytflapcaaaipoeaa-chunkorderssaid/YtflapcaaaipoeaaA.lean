import Derived.Test.YtflapcaaaipoeaaRows
import Derived.Test.YtflapcaaaipoeaaM
import Derived.WalkKit
import Derived.WalkSpells
import Derived.WalkLawsBesides
import Derived.Deep.QuietTactic
import Derived.BigQuiet
namespace Go.Proofs.Ytflapcaaaipoeaa
open Go.RowKit

theorem hide {p : Prop} (h : p) : Hid p := h

theorem ret_int {k : IntKind} {a b : Int} (h : a = b) : Ending.returned (.int k a) = .returned (.int k b) := by rw [h]

set_option maxHeartbeats 400000 in
theorem divided_c (r : BitVec 32) (w : World) :
    Calls Try.prog 36 #[.int .u32 (r.toNat : Int)] w fun e w' => e = .returned (.int .u32 ((steps 8 r).toNat : Int)) ∧ w = w' := by
  go_enter Try.func36, Try.ntmps36
  go_wp2
  go_loop [0, 4] (fun x i => ∃ k : Nat, ∃ y : BitVec 32, k ≤ 8 ∧ i = .int .i64 k ∧ x = .int .u32 (y.toNat : Int) ∧ Hid (steps (8 - k) y = steps 8 r)) (fun _ i => 8 - (intOf i).toNat)
  case atStart => exact ⟨0, r, by omega, rfl, rfl, rfl⟩
  case round =>
    obtain ⟨k, y, hk, rfl, rfl, H⟩ := hrel
    by_cases hlt : k < 8
    · have HN : Hid (steps (8 - (k + 1)) (step1 y) = steps 8 r) := by
        rw [show 8 - k = (8 - (k + 1)) + 1 by omega] at H
        exact H
      have HA : Hid ((bits .and .u32 (y.toNat : Int) 1 == 1) = decide (y.toNat % 2 = 1)) := and_one y
      go_wp2
      · next h =>
        rw [HA.out] at h
        go_round
        case rel => exact ⟨k + 1, step1 y, by omega, by go_num, by rw [step1_one y (of_decide_eq_true h)], HN⟩
        case measure => simp [intOf]; omega
      · next h =>
        rw [HA.out] at h
        go_round
        case rel => exact ⟨k + 1, step1 y, by omega, by go_num, by rw [step1_nought y (of_decide_eq_false h)], HN⟩
        case measure => simp [intOf]; omega
    · go_wp2
      go_ret
      rw [show 8 - k = 0 by omega] at H
      exact ⟨ret_int (by rw [← H.out]; rfl), rfl⟩

/-- The table: for each byte what the polynomial leaves of it. -/
def IsTab (w : World) (T : Nat) : Prop := ∀ i, i < 256 → w.cell? ⟨T, i, none⟩ = some (.int .u32 ((steps 8 (BitVec.ofNat 32 i)).toNat : Int))


theorem not_u32 (s : BitVec 32) : bits .xor .u32 IntKind.u32.max (s.toNat : Int) = ((~~~ s).toNat : Int) := by
  have hy := s.isLt
  have e : (~~~ s) = (4294967295#32) ^^^ s := by
    rw [show (4294967295#32) = BitVec.allOnes 32 from rfl, BitVec.allOnes_xor]
  rw [show (IntKind.u32.max : Int) = ((4294967295 : Nat) : Int) from rfl, u32_xor_nat _ _ (by decide) (by omega), e, BitVec.toNat_xor]
  rfl

theorem shr_xor (z y : BitVec 32) : bits .xor .u32 (z.toNat : Int) ((y.toNat : Int) / 256) = ((z ^^^ y >>> 8).toNat : Int) := by
  have hz := z.isLt
  have hy := y.isLt
  rw [show ((y.toNat : Int) / 256) = ((y.toNat / 256 : Nat) : Int) by omega, u32_xor_nat _ _ (by omega) (by omega)]
  simp [BitVec.toNat_xor, BitVec.toNat_ushiftRight, Nat.shiftRight_eq_div_pow]
theorem xor_byte (y : BitVec 32) (b : Nat) (hb : b < 256) : bits .xor .u32 (y.toNat : Int) (b : Int) = ((y ^^^ BitVec.ofNat 32 b).toNat : Int) := by
  have hy := y.isLt
  rw [u32_xor_nat _ _ (by omega) (by omega), BitVec.toNat_xor, BitVec.toNat_ofNat, Nat.mod_eq_of_lt (show b < 2 ^ 32 by omega)]
theorem wrap_u32_nat (b : Nat) (hb : b < 4294967296) : IntKind.u32.wrap (b : Int) = (b : Int) := by
  rw [IntKind.wrap_u32']; omega

theorem getD_take_succ (bs : List Nat) (k : Nat) (h : k < bs.length) : bs.take (k + 1) = bs.take k ++ [bs.getD k 0] := by
  rw [List.take_succ_eq_append_getElem h]
  simp [List.getD_eq_getElem?_getD, List.getElem?_eq_getElem h]

/-- Bytes that lie in memory from an address on. -/
def Lies (w : World) (a : Option Addr) (bs : List Nat) : Prop := (∀ b ∈ bs, b < 256) ∧ ∀ j, j < bs.length → ∃ ad, a = some ad ∧ w.cell? (ad.add j) = some (.int .u8 ((bs.getD j 0 : Nat) : Int))

theorem getD_mem (bs : List Nat) (k : Nat) (h : k < bs.length) : bs.getD k 0 ∈ bs := by
  rw [List.getD_eq_getElem?_getD, List.getElem?_eq_getElem h]; exact List.getElem_mem _

set_option maxHeartbeats 400000 in
theorem more_c (T : Nat) (s : BitVec 32) (a : Option Addr) (c : Nat) (bs : List Nat) (w : World) (ht : IsTab w T) (hl : Lies w a bs) (hlen : bs.length ≤ 2147483648) :
    Calls Try.prog 40 #[.pointer (some ⟨T, 0, none⟩), .int .u32 (s.toNat : Int), .slice a bs.length c] w fun e w' => e = .returned (.int .u32 ((crc s bs).toNat : Int)) ∧ w = w' := by
  have Ht := hide ht
  have Hl := hide hl
  clear ht hl
  go_enter Try.func40, Try.ntmps40
  go_wp2
  rw [not_u32]
  go_loop [7, 16] (fun x i => ∃ k : Nat, ∃ y : BitVec 32, k ≤ bs.length ∧ i = .int .i64 k ∧ x = .int .u32 (y.toNat : Int) ∧ Hid (y = crcR (~~~ s) (bs.take k))) (fun _ i => bs.length - (intOf i).toNat)
  case atStart => exact ⟨0, ~~~ s, by omega, rfl, rfl, rfl⟩
  case round =>
    obtain ⟨k, y, hk, rfl, rfl, H⟩ := hrel
    by_cases hlt : k < bs.length
    · obtain ⟨ad, rfl, hck⟩ := Hl.out.2 k hlt
      have hbk : bs.getD k 0 < 256 := Hl.out.1 _ (getD_mem bs k hlt)
      have HT := hide (getD_take_succ bs k hlt)
      generalize bs.getD k 0 = b at hck hbk HT
      have h0 : (0 : Int) ≤ (k : Int) := by omega
      have h1 : (k : Int) < (bs.length : Int) := by omega
      have hm : y.toNat % 256 ^^^ b < 256 := Nat.xor_lt_two_pow (n := 8) (by omega) (by omega)
      have hwr : IntKind.u8.wrap (y.toNat : Int) = ((y.toNat % 256 : Nat) : Int) := by rw [IntKind.wrap_u8']; omega
      have hx : bits .xor .u8 ((y.toNat % 256 : Nat) : Int) (b : Int) = ((y.toNat % 256 ^^^ b : Nat) : Int) := u8_xor_nat _ _ (by omega) hbk
      have htm := Ht.out _ hm
      have HU := hide (upd_table y b hbk)
      generalize y.toNat % 256 ^^^ b = m at hm hx htm HU
      generalize y.toNat % 256 = lo at hwr hx
      generalize steps 8 (BitVec.ofNat 32 m) = z at htm HU
      have h2 : (0 : Int) ≤ (m : Int) := by omega
      have h3 : (m : Int) < 256 := by omega
      go_wp2
      go_round
      case rel =>
        refine ⟨k + 1, upd y b, by omega, by go_num, ?_, ?_⟩
        · rw [← HU.out, shr_xor]
        · show _ = _
          rw [HT.out, H.out]
          simp [crcR]
      case measure => simp [intOf]; omega
    · go_wp2
      go_ret
      rw [List.take_of_length_le (by omega)] at H
      exact ⟨ret_int (by rw [not_u32, H.out]; rfl), rfl⟩

set_option maxHeartbeats 400000 in
theorem refMore_c (s : BitVec 32) (a : Option Addr) (c : Nat) (bs : List Nat) (w : World) (hl : Lies w a bs) (hlen : bs.length ≤ 2147483648) :
    Calls Try.prog 39 #[.int .u32 (s.toNat : Int), .slice a bs.length c] w fun e w' => e = .returned (.int .u32 ((crc s bs).toNat : Int)) ∧ w = w' := by
  have Hl := hide hl
  clear hl
  go_enter Try.func39, Try.ntmps39
  go_wp2
  rw [not_u32]
  go_loop [0, 5] (fun x i => ∃ k : Nat, ∃ y : BitVec 32, k ≤ bs.length ∧ i = .int .i64 k ∧ x = .int .u32 (y.toNat : Int) ∧ Hid (y = crcR (~~~ s) (bs.take k))) (fun _ i => bs.length - (intOf i).toNat)
  case atStart => exact ⟨0, ~~~ s, by omega, rfl, rfl, rfl⟩
  case round =>
    obtain ⟨k, y, hk, rfl, rfl, H⟩ := hrel
    by_cases hlt : k < bs.length
    · obtain ⟨ad, rfl, hck⟩ := Hl.out.2 k hlt
      have hbk : bs.getD k 0 < 256 := Hl.out.1 _ (getD_mem bs k hlt)
      have HT := hide (getD_take_succ bs k hlt)
      generalize bs.getD k 0 = b at hck hbk HT
      have h0 : (0 : Int) ≤ (k : Int) := by omega
      have h1 : (k : Int) < (bs.length : Int) := by omega
      have hwr : IntKind.u32.wrap (b : Int) = (b : Int) := wrap_u32_nat b (by omega)
      go_wp2
      have HX : Hid (bits .xor .u32 (y.toNat : Int) (b : Int) = ((y ^^^ BitVec.ofNat 32 b).toNat : Int)) := xor_byte y b hbk
      go_loop [0, 6] (fun x i => ∃ n : Nat, ∃ z : BitVec 32, n ≤ 8 ∧ i = .int .i64 n ∧ x = .int .u32 (z.toNat : Int) ∧ Hid (steps (8 - n) z = upd y b)) (fun _ i => 8 - (intOf i).toNat)
      case atStart => exact ⟨0, y ^^^ BitVec.ofNat 32 b, by omega, rfl, by rw [HX.out], rfl⟩
      case round =>
        obtain ⟨n, z, hn, rfl, rfl, H2⟩ := hrel
        by_cases hlt2 : n < 8
        · have HN : Hid (steps (8 - (n + 1)) (step1 z) = upd y b) := by
            rw [show 8 - n = (8 - (n + 1)) + 1 by omega] at H2
            exact H2
          have HA : Hid ((bits .and .u32 (z.toNat : Int) 1 == 1) = decide (z.toNat % 2 = 1)) := and_one z
          go_wp2
          · next h =>
            rw [HA.out] at h
            go_round
            case rel => exact ⟨n + 1, step1 z, by omega, by go_num, by rw [step1_one z (of_decide_eq_true h)], HN⟩
            case measure => simp [intOf]; omega
          · next h =>
            rw [HA.out] at h
            go_round
            case rel => exact ⟨n + 1, step1 z, by omega, by go_num, by rw [step1_nought z (of_decide_eq_false h)], HN⟩
            case measure => simp [intOf]; omega
        · go_wp2
          rw [show 8 - n = 0 by omega] at H2
          go_round
          case rel =>
            refine ⟨k + 1, by omega, by omega, z, rfl, ?_⟩
            show _ = _
            have h2 : z = upd y b := H2.out
            rw [HT.out, h2, H.out]
            simp [crcR]
          case measure => simp [intOf]; omega
    · go_wp2
      go_ret
      rw [List.take_of_length_le (by omega)] at H
      exact ⟨ret_int (by rw [not_u32, H.out]; rfl), rfl⟩

theorem and_low (s : Nat) (h : s < 4294967296) : bits .and .u32 (s : Int) 65535 = ((s % 65536 : Nat) : Int) := by
  rw [show (65535 : Int) = ((65535 : Nat) : Int) from rfl, u32_and_nat _ _ h (by decide), show 65535 = 2 ^ 16 - 1 from rfl, Nat.and_two_pow_sub_one_eq_mod]
theorem or_halves (x y : Nat) (hx : x < 65536) (hy : y < 65536) : bits .or .u32 ((y : Int) * 65536) (x : Int) = ((y * 65536 + x : Nat) : Int) := by
  have e : ((y : Int) * 65536) = ((y * 65536 : Nat) : Int) := by omega
  rw [e, u32_or_nat _ _ (by omega) (by omega)]
  congr 1
  have h := Nat.two_pow_add_eq_or_of_lt (i := 16) (b := x) (by omega) y
  rw [Nat.mul_comm y]
  exact h.symm

end Go.Proofs.Ytflapcaaaipoeaa
