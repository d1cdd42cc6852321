/-
  adam: rows and their bytes, both ways.
-/
import Derived.Test.YtdnhndiaiejkoaaDoorRb
namespace Go.Proofs.YtdnhndiaiejkoaaDoor
open Go.RowKit
set_option linter.unusedVariables false

def sideB (n : Int) : Bool := decide (0 ≤ n ∧ n ≤ 256)
def depB (n : Int) : Bool := decide (0 ≤ n ∧ n ≤ 64)
def rowV (w b : Int) : Int := if sideB w = true ∧ depB b = true then (w * b + 7) / 8 else 0

theorem sideB_iff (n : Int) : sideB n = true ↔ 0 ≤ n ∧ n ≤ 256 := by simp [sideB]
theorem depB_iff (n : Int) : depB n = true ↔ 0 ≤ n ∧ n ≤ 64 := by simp [depB]

theorem side_c (n : Int) (w : World) : Calls Tryd.prog 23 #[.int .i64 n] w fun e w' => e = .returned (.bool (sideB n)) ∧ w' = w := by
  by_cases h0 : 0 ≤ n
  · by_cases h1 : n ≤ 256
    · rw [(sideB_iff n).2 ⟨h0, h1⟩]
      go_enter Tryd.func23, Tryd.ntmps23
      go_wp2
      go_ret
      exact ⟨rfl, rfl⟩
    · rw [show sideB n = false by simp [sideB]; omega]
      go_enter Tryd.func23, Tryd.ntmps23
      go_wp2
      go_ret
      exact ⟨rfl, rfl⟩
  · rw [show sideB n = false by simp [sideB]; omega]
    go_enter Tryd.func23, Tryd.ntmps23
    go_wp2
    go_ret
    exact ⟨rfl, rfl⟩
theorem depth_c (n : Int) (w : World) : Calls Tryd.prog 22 #[.int .i64 n] w fun e w' => e = .returned (.bool (depB n)) ∧ w' = w := by
  by_cases h0 : 0 ≤ n
  · by_cases h1 : n ≤ 64
    · rw [(depB_iff n).2 ⟨h0, h1⟩]
      go_enter Tryd.func22, Tryd.ntmps22
      go_wp2
      go_ret
      exact ⟨rfl, rfl⟩
    · rw [show depB n = false by simp [depB]; omega]
      go_enter Tryd.func22, Tryd.ntmps22
      go_wp2
      go_ret
      exact ⟨rfl, rfl⟩
  · rw [show depB n = false by simp [depB]; omega]
    go_enter Tryd.func22, Tryd.ntmps22
    go_wp2
    go_ret
    exact ⟨rfl, rfl⟩

theorem mul_facts {w b : Int} (hw : 0 ≤ w ∧ w ≤ 256) (hb : 0 ≤ b ∧ b ≤ 64) : 0 ≤ w * b ∧ w * b ≤ 16384 := by
  refine ⟨Int.mul_nonneg hw.1 hb.1, ?_⟩
  have h1 : w * b ≤ 256 * b := Int.mul_le_mul_of_nonneg_right hw.2 hb.1
  omega
theorem rowV_facts (w b : Int) : 0 ≤ rowV w b ∧ rowV w b ≤ 2048 := by
  unfold rowV
  split
  · next h =>
    obtain ⟨h1, h2⟩ := mul_facts ((sideB_iff w).1 h.1) ((depB_iff b).1 h.2)
    omega
  · omega

theorem row_c (x b : Int) (w : World) : Calls Tryd.prog 17 #[.int .i64 x, .int .i64 b] w fun e w' => e = .returned (.int .i64 (rowV x b)) ∧ w' = w := by
  cases hs : sideB x with
  | false =>
    rw [show rowV x b = 0 by simp [rowV, hs]]
    go_enter Tryd.func17, Tryd.ntmps17
    go_wp2_with (first | (refine (side_c _ _).mono ?_; rintro e w' ⟨rfl, rfl⟩; rw [hs]) | fail)
    go_ret
    exact ⟨rfl, rfl⟩
  | true =>
    cases hb : depB b with
    | false =>
      rw [show rowV x b = 0 by simp [rowV, hb]]
      go_enter Tryd.func17, Tryd.ntmps17
      go_wp2_with (first | (refine (calls_args (side_c x _) (by rfl)).mono ?_; rintro e w' ⟨rfl, rfl⟩; rw [hs]) | (refine (calls_args (depth_c b _) (by rfl)).mono ?_; rintro e w' ⟨rfl, rfl⟩; rw [hb]))
      go_ret
      exact ⟨rfl, rfl⟩
    | true =>
      obtain ⟨h1, h2⟩ := mul_facts ((sideB_iff x).1 hs) ((depB_iff b).1 hb)
      have hm : wrap64 (x * b) = x * b := wrap64_id _ (by omega) (by omega)
      have hm2 : IntKind.i64.wrap (x * b) = x * b := wrap_i64_id _ (by omega) (by omega)
      have hr : rowV x b = (x * b + 7) / 8 := by simp [rowV, hs, hb]
      rw [hr]
      go_enter Tryd.func17, Tryd.ntmps17
      go_wp2_with (first | (refine (calls_args (side_c x _) (by rfl)).mono ?_; rintro e w' ⟨rfl, rfl⟩; rw [hs]) | (refine (calls_args (depth_c b _) (by rfl)).mono ?_; rintro e w' ⟨rfl, rfl⟩; rw [hb]))
      go_ret
      exact ⟨rfl, rfl⟩

theorem rrow_c (x b : Int) (w : World) : Calls Tryd.prog 18 #[.int .i64 x, .int .i64 b] w fun e w' => e = .returned (.int .i64 (rowV x b)) ∧ w' = w := by
  have no : ¬ (0 ≤ x ∧ x ≤ 256 ∧ 0 ≤ b ∧ b ≤ 64) → rowV x b = 0 := fun h => by
    unfold rowV
    rw [if_neg fun hh => h ⟨((sideB_iff x).1 hh.1).1, ((sideB_iff x).1 hh.1).2, (depB_iff b).1 hh.2⟩]
  by_cases a1 : x < 0
  · rw [no (by omega)]
    go_enter Tryd.func18, Tryd.ntmps18
    go_wp2
    go_ret
    exact ⟨rfl, rfl⟩
  by_cases a2 : b < 0
  · rw [no (by omega)]
    go_enter Tryd.func18, Tryd.ntmps18
    go_wp2
    go_ret
    exact ⟨rfl, rfl⟩
  by_cases a3 : 64 < b
  · rw [no (by omega)]
    go_enter Tryd.func18, Tryd.ntmps18
    go_wp2
    go_ret
    exact ⟨rfl, rfl⟩
  by_cases a4 : 256 < x
  · rw [no (by omega)]
    go_enter Tryd.func18, Tryd.ntmps18
    go_wp2
    go_ret
    exact ⟨rfl, rfl⟩
  have hs : sideB x = true := (sideB_iff x).2 (by omega)
  have hb : depB b = true := (depB_iff b).2 (by omega)
  obtain ⟨h1, h2⟩ := mul_facts ((sideB_iff x).1 hs) ((depB_iff b).1 hb)
  have hm : wrap64 (x * b) = x * b := wrap64_id _ (by omega) (by omega)
  have hm2 : IntKind.i64.wrap (x * b) = x * b := wrap_i64_id _ (by omega) (by omega)
  have hr : rowV x b = (x * b + 7) / 8 := by simp [rowV, hs, hb]
  rw [hr]
  go_enter Tryd.func18, Tryd.ntmps18
  go_wp2
  go_ret
  exact ⟨rfl, rfl⟩
end Go.Proofs.YtdnhndiaiejkoaaDoor
