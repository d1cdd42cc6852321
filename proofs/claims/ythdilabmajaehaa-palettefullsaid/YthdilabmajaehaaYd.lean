/-
  palette: Bits of both.
-/
import Derived.Test.YthdilabmajaehaaRa
namespace Go.Proofs.Ythdilabmajaehaa
open Go.RowKit

/-- How many bits hold n. -/
def bitsV (n : Int) : Int := if n ≤ 2 then 1 else if n ≤ 4 then 2 else if n ≤ 8 then 3 else if n ≤ 16 then 4 else if n ≤ 32 then 5 else if n ≤ 64 then 6 else if n ≤ 128 then 7 else 8

set_option maxHeartbeats 1000000 in
set_option maxRecDepth 100000 in
theorem bits_c (n : Int) (w : World) : Calls Try.prog 29 #[.int .i64 n] w fun e w' => e = .returned (.int .i64 (bitsV n)) ∧ w' = w := by
  go_enter Try.func29, Try.ntmps29
  go_wp2_with fail
  go_loopw [3] (fun v3 wr => ∃ b : Nat, v3 = .int .i64 (b : Int) ∧ 1 ≤ b ∧ b ≤ 8 ∧ Hid (b = 1 ∨ ((2 ^ (b - 1) : Nat) : Int) < n) ∧ wr = w) (fun v3 _ => 8 - (intOf v3).toNat)
  case atStart => exact ⟨1, rfl, by decide, by decide, Or.inl rfl, rfl⟩
  case round =>
    obtain ⟨b, rfl, hb1, hb8, HB, rfl⟩ := hrel
    have hb : b = 1 ∨ b = 2 ∨ b = 3 ∨ b = 4 ∨ b = 5 ∨ b = 6 ∨ b = 7 ∨ b = 8 := by omega
    rcases hb with rfl | rfl | rfl | rfl | rfl | rfl | rfl | rfl
    · by_cases h : (2 : Int) < n
      · go_wp2_with fail
        exact ⟨⟨2, by go_num, by decide, by decide, Or.inr (by show ((2 ^ 1 : Nat) : Int) < n; omega), trivial⟩, by simp [intOf]⟩
      · have hv : bitsV n = 1 := by
          have h2 := HB.out
          simp at h2
          unfold bitsV
          repeat (first | rw [if_pos (by omega)] | rw [if_neg (by omega)])
        go_wp2_with fail
        go_ret
        exact ⟨by first | rfl | (rw [hv]; rfl), rfl⟩
    · by_cases h : (4 : Int) < n
      · go_wp2_with fail
        exact ⟨⟨3, by go_num, by decide, by decide, Or.inr (by show ((2 ^ 2 : Nat) : Int) < n; omega), trivial⟩, by simp [intOf]⟩
      · have hv : bitsV n = 2 := by
          have h2 := HB.out
          simp at h2
          unfold bitsV
          repeat (first | rw [if_pos (by omega)] | rw [if_neg (by omega)])
        go_wp2_with fail
        go_ret
        exact ⟨by first | rfl | (rw [hv]; rfl), rfl⟩
    · by_cases h : (8 : Int) < n
      · go_wp2_with fail
        exact ⟨⟨4, by go_num, by decide, by decide, Or.inr (by show ((2 ^ 3 : Nat) : Int) < n; omega), trivial⟩, by simp [intOf]⟩
      · have hv : bitsV n = 3 := by
          have h2 := HB.out
          simp at h2
          unfold bitsV
          repeat (first | rw [if_pos (by omega)] | rw [if_neg (by omega)])
        go_wp2_with fail
        go_ret
        exact ⟨by first | rfl | (rw [hv]; rfl), rfl⟩
    · by_cases h : (16 : Int) < n
      · go_wp2_with fail
        exact ⟨⟨5, by go_num, by decide, by decide, Or.inr (by show ((2 ^ 4 : Nat) : Int) < n; omega), trivial⟩, by simp [intOf]⟩
      · have hv : bitsV n = 4 := by
          have h2 := HB.out
          simp at h2
          unfold bitsV
          repeat (first | rw [if_pos (by omega)] | rw [if_neg (by omega)])
        go_wp2_with fail
        go_ret
        exact ⟨by first | rfl | (rw [hv]; rfl), rfl⟩
    · by_cases h : (32 : Int) < n
      · go_wp2_with fail
        exact ⟨⟨6, by go_num, by decide, by decide, Or.inr (by show ((2 ^ 5 : Nat) : Int) < n; omega), trivial⟩, by simp [intOf]⟩
      · have hv : bitsV n = 5 := by
          have h2 := HB.out
          simp at h2
          unfold bitsV
          repeat (first | rw [if_pos (by omega)] | rw [if_neg (by omega)])
        go_wp2_with fail
        go_ret
        exact ⟨by first | rfl | (rw [hv]; rfl), rfl⟩
    · by_cases h : (64 : Int) < n
      · go_wp2_with fail
        exact ⟨⟨7, by go_num, by decide, by decide, Or.inr (by show ((2 ^ 6 : Nat) : Int) < n; omega), trivial⟩, by simp [intOf]⟩
      · have hv : bitsV n = 6 := by
          have h2 := HB.out
          simp at h2
          unfold bitsV
          repeat (first | rw [if_pos (by omega)] | rw [if_neg (by omega)])
        go_wp2_with fail
        go_ret
        exact ⟨by first | rfl | (rw [hv]; rfl), rfl⟩
    · by_cases h : (128 : Int) < n
      · go_wp2_with fail
        exact ⟨⟨8, by go_num, by decide, by decide, Or.inr (by show ((2 ^ 7 : Nat) : Int) < n; omega), trivial⟩, by simp [intOf]⟩
      · have hv : bitsV n = 7 := by
          have h2 := HB.out
          simp at h2
          unfold bitsV
          repeat (first | rw [if_pos (by omega)] | rw [if_neg (by omega)])
        go_wp2_with fail
        go_ret
        exact ⟨by first | rfl | (rw [hv]; rfl), rfl⟩
    · have hv : bitsV n = 8 := by
        have h2 := HB.out
        simp at h2
        unfold bitsV
        repeat (first | rw [if_pos (by omega)] | rw [if_neg (by omega)])
      go_wp2_with fail
      go_ret
      exact ⟨by first | rfl | (rw [hv]; rfl), rfl⟩

set_option maxHeartbeats 1000000 in
set_option maxRecDepth 100000 in
theorem rbits_c (n : Int) (w : World) : Calls Try.prog 30 #[.int .i64 n] w fun e w' => e = .returned (.int .i64 (bitsV n)) ∧ w' = w := by
  go_enter Try.func30, Try.ntmps30
  go_wp2_with fail
  go_loopw [3] (fun v3 wr => ∃ b : Nat, v3 = .int .i64 (b : Int) ∧ 1 ≤ b ∧ b ≤ 8 ∧ Hid (b = 1 ∨ ((2 ^ (b - 1) : Nat) : Int) < n) ∧ wr = w) (fun v3 _ => 8 - (intOf v3).toNat)
  case atStart => exact ⟨1, rfl, by decide, by decide, Or.inl rfl, rfl⟩
  case round =>
    obtain ⟨b, rfl, hb1, hb8, HB, rfl⟩ := hrel
    have hb : b = 1 ∨ b = 2 ∨ b = 3 ∨ b = 4 ∨ b = 5 ∨ b = 6 ∨ b = 7 ∨ b = 8 := by omega
    rcases hb with rfl | rfl | rfl | rfl | rfl | rfl | rfl | rfl
    · by_cases h : (2 : Int) < n
      · go_wp2_with fail
        exact ⟨⟨2, by go_num, by decide, by decide, Or.inr (by show ((2 ^ 1 : Nat) : Int) < n; omega), trivial⟩, by simp [intOf]⟩
      · have hv : bitsV n = 1 := by
          have h2 := HB.out
          simp at h2
          unfold bitsV
          repeat (first | rw [if_pos (by omega)] | rw [if_neg (by omega)])
        go_wp2_with fail
        go_ret
        exact ⟨by first | rfl | (rw [hv]; rfl), rfl⟩
    · by_cases h : (4 : Int) < n
      · go_wp2_with fail
        exact ⟨⟨3, by go_num, by decide, by decide, Or.inr (by show ((2 ^ 2 : Nat) : Int) < n; omega), trivial⟩, by simp [intOf]⟩
      · have hv : bitsV n = 2 := by
          have h2 := HB.out
          simp at h2
          unfold bitsV
          repeat (first | rw [if_pos (by omega)] | rw [if_neg (by omega)])
        go_wp2_with fail
        go_ret
        exact ⟨by first | rfl | (rw [hv]; rfl), rfl⟩
    · by_cases h : (8 : Int) < n
      · go_wp2_with fail
        exact ⟨⟨4, by go_num, by decide, by decide, Or.inr (by show ((2 ^ 3 : Nat) : Int) < n; omega), trivial⟩, by simp [intOf]⟩
      · have hv : bitsV n = 3 := by
          have h2 := HB.out
          simp at h2
          unfold bitsV
          repeat (first | rw [if_pos (by omega)] | rw [if_neg (by omega)])
        go_wp2_with fail
        go_ret
        exact ⟨by first | rfl | (rw [hv]; rfl), rfl⟩
    · by_cases h : (16 : Int) < n
      · go_wp2_with fail
        exact ⟨⟨5, by go_num, by decide, by decide, Or.inr (by show ((2 ^ 4 : Nat) : Int) < n; omega), trivial⟩, by simp [intOf]⟩
      · have hv : bitsV n = 4 := by
          have h2 := HB.out
          simp at h2
          unfold bitsV
          repeat (first | rw [if_pos (by omega)] | rw [if_neg (by omega)])
        go_wp2_with fail
        go_ret
        exact ⟨by first | rfl | (rw [hv]; rfl), rfl⟩
    · by_cases h : (32 : Int) < n
      · go_wp2_with fail
        exact ⟨⟨6, by go_num, by decide, by decide, Or.inr (by show ((2 ^ 5 : Nat) : Int) < n; omega), trivial⟩, by simp [intOf]⟩
      · have hv : bitsV n = 5 := by
          have h2 := HB.out
          simp at h2
          unfold bitsV
          repeat (first | rw [if_pos (by omega)] | rw [if_neg (by omega)])
        go_wp2_with fail
        go_ret
        exact ⟨by first | rfl | (rw [hv]; rfl), rfl⟩
    · by_cases h : (64 : Int) < n
      · go_wp2_with fail
        exact ⟨⟨7, by go_num, by decide, by decide, Or.inr (by show ((2 ^ 6 : Nat) : Int) < n; omega), trivial⟩, by simp [intOf]⟩
      · have hv : bitsV n = 6 := by
          have h2 := HB.out
          simp at h2
          unfold bitsV
          repeat (first | rw [if_pos (by omega)] | rw [if_neg (by omega)])
        go_wp2_with fail
        go_ret
        exact ⟨by first | rfl | (rw [hv]; rfl), rfl⟩
    · by_cases h : (128 : Int) < n
      · go_wp2_with fail
        exact ⟨⟨8, by go_num, by decide, by decide, Or.inr (by show ((2 ^ 7 : Nat) : Int) < n; omega), trivial⟩, by simp [intOf]⟩
      · have hv : bitsV n = 7 := by
          have h2 := HB.out
          simp at h2
          unfold bitsV
          repeat (first | rw [if_pos (by omega)] | rw [if_neg (by omega)])
        go_wp2_with fail
        go_ret
        exact ⟨by first | rfl | (rw [hv]; rfl), rfl⟩
    · have hv : bitsV n = 8 := by
        have h2 := HB.out
        simp at h2
        unfold bitsV
        repeat (first | rw [if_pos (by omega)] | rw [if_neg (by omega)])
      go_wp2_with fail
      go_ret
      exact ⟨by first | rfl | (rw [hv]; rfl), rfl⟩

end Go.Proofs.Ythdilabmajaehaa
