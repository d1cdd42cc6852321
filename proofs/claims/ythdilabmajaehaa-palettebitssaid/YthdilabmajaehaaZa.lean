/-
  palette: PaletteBits.
-/
import Derived.Test.YthdilabmajaehaaYh
namespace Go.Proofs.Ythdilabmajaehaa
open Go.RowKit

theorem bits_facts {k : Int} (h1 : 1 ≤ k) (h2 : k ≤ 256) : (bitsV k = 1 ∧ k ≤ 2) ∨ (bitsV k = 2 ∧ (2 : Int) < k ∧ k ≤ 4) ∨ (bitsV k = 3 ∧ (4 : Int) < k ∧ k ≤ 8) ∨ (bitsV k = 4 ∧ (8 : Int) < k ∧ k ≤ 16) ∨ (bitsV k = 5 ∧ (16 : Int) < k ∧ k ≤ 32) ∨ (bitsV k = 6 ∧ (32 : Int) < k ∧ k ≤ 64) ∨ (bitsV k = 7 ∧ (64 : Int) < k ∧ k ≤ 128) ∨ (bitsV k = 8 ∧ (128 : Int) < k ∧ k ≤ 256) := by
  unfold bitsV
  repeat' split
  all_goals omega

set_option maxHeartbeats 1000000 in
set_option maxRecDepth 100000 in
theorem bits_law (n : Nat) (w : World) (hn : n < 65536) : Calls Try.prog 11 #[.int .u16 (n : Int)] w fun e w' => e = .returned (.bool true) ∧ Fr (fun _ => False) w w' := by
  have HA := hide (awake10_c w)
  obtain ⟨r, hr⟩ : ∃ r, r = n % 256 := ⟨_, rfl⟩
  have ex : (n : Int).tmod 256 = (r : Int) := by rw [Int.tmod_eq_emod_of_nonneg (by omega), hr]; omega
  have hr2 : r < 256 := by rw [hr]; exact Nat.mod_lt _ (by decide)
  obtain ⟨k, hk⟩ : ∃ k : Int, k = 1 + (r : Int) := ⟨_, rfl⟩
  have ek : 1 + (r : Int) = k := hk.symm
  have hf := bits_facts (k := k) (by omega) (by omega)
  have HB := hide fun w : World => bits_c k w
  have hk1 : 1 ≤ k := by omega
  have hk2 : k ≤ 256 := by omega
  clear hr hk
  go_enter Try.func11, Try.ntmps11
  go_wp2_with fail
  refine HA.out.mono ?_
  rintro e w1 ⟨rfl, hF⟩
  have HF := hide hF
  clear hF
  go_wp2_with fail
  refine (HB.out w1).mono ?_
  rintro e w2 ⟨rfl, rfl⟩
  clear ex ek hr2
  rcases hf with ⟨hb, h2⟩ | ⟨hb, h1, h2⟩ | ⟨hb, h1, h2⟩ | ⟨hb, h1, h2⟩ | ⟨hb, h1, h2⟩ | ⟨hb, h1, h2⟩ | ⟨hb, h1, h2⟩ | ⟨hb, h1, h2⟩
  · rw [hb]
    clear hb
    go_wp2_with fail
    go_ret
    exact ⟨rfl, HF.out⟩
  · rw [hb]
    clear hb
    go_wp2_with fail
    go_ret
    exact ⟨rfl, HF.out⟩
  · rw [hb]
    clear hb
    go_wp2_with fail
    go_ret
    exact ⟨rfl, HF.out⟩
  · rw [hb]
    clear hb
    go_wp2_with fail
    go_ret
    exact ⟨rfl, HF.out⟩
  · rw [hb]
    clear hb
    go_wp2_with fail
    go_ret
    exact ⟨rfl, HF.out⟩
  · rw [hb]
    clear hb
    go_wp2_with fail
    go_ret
    exact ⟨rfl, HF.out⟩
  · rw [hb]
    clear hb
    go_wp2_with fail
    go_ret
    exact ⟨rfl, HF.out⟩
  · rw [hb]
    clear hb
    go_wp2_with fail
    go_ret
    exact ⟨rfl, HF.out⟩
end Go.Proofs.Ythdilabmajaehaa
