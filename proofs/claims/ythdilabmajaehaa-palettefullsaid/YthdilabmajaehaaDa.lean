/-
  depth: Up, Mask, Eight of both.
-/
import Derived.Test.YthdilabmajaehaaSa
namespace Go.Proofs.Ythdilabmajaehaa
open Go.RowKit

/-- The greatest number of so many bits; -1 where there are none such. -/
def topU (b : Int) : Int := if b = 1 then 1 else if b = 2 then 3 else if b = 4 then 15 else if b = 8 then 255 else if b = 16 then 65535 else -1
def upOk (v b : Int) : Bool := decide (0 ≤ v ∧ v ≤ topU b)
def upV (v b : Int) : Int := if 0 ≤ v ∧ v ≤ topU b then v * (65535 / topU b) else 0

def topM (b : Int) : Int := if b = 1 then 1 else if b = 2 then 3 else if b = 3 then 7 else if b = 4 then 15 else if b = 5 then 31 else if b = 6 then 63 else if b = 7 then 127 else if b = 8 then 255 else -1
def maskOk (v b : Int) : Bool := decide (0 ≤ v ∧ v ≤ topM b)
def maskV (v b : Int) : Int := if 0 ≤ v ∧ v ≤ topM b then (v * 255 + topM b / 2) / topM b * 257 else 0

theorem ret_pair {k : IntKind} {a b : Int} {p q : Bool} (h : a = b) (h2 : p = q) : Ending.returned (.tuple #[.int k a, .bool p]) = .returned (.tuple #[.int k b, .bool q]) := by rw [h, h2]

theorem greatest_1 (w : World) : Calls Try.prog 54 #[.int .i64 1] w fun e w' => e = .returned (.int .i64 1) ∧ w' = w := by
  go_enter Try.func54, Try.ntmps54
  go_wp2_with fail
  go_ret
  exact ⟨rfl, rfl⟩
theorem greatest_2 (w : World) : Calls Try.prog 54 #[.int .i64 2] w fun e w' => e = .returned (.int .i64 3) ∧ w' = w := by
  go_enter Try.func54, Try.ntmps54
  go_wp2_with fail
  go_ret
  exact ⟨rfl, rfl⟩
theorem greatest_3 (w : World) : Calls Try.prog 54 #[.int .i64 3] w fun e w' => e = .returned (.int .i64 7) ∧ w' = w := by
  go_enter Try.func54, Try.ntmps54
  go_wp2_with fail
  go_ret
  exact ⟨rfl, rfl⟩
theorem greatest_4 (w : World) : Calls Try.prog 54 #[.int .i64 4] w fun e w' => e = .returned (.int .i64 15) ∧ w' = w := by
  go_enter Try.func54, Try.ntmps54
  go_wp2_with fail
  go_ret
  exact ⟨rfl, rfl⟩
theorem greatest_5 (w : World) : Calls Try.prog 54 #[.int .i64 5] w fun e w' => e = .returned (.int .i64 31) ∧ w' = w := by
  go_enter Try.func54, Try.ntmps54
  go_wp2_with fail
  go_ret
  exact ⟨rfl, rfl⟩
theorem greatest_6 (w : World) : Calls Try.prog 54 #[.int .i64 6] w fun e w' => e = .returned (.int .i64 63) ∧ w' = w := by
  go_enter Try.func54, Try.ntmps54
  go_wp2_with fail
  go_ret
  exact ⟨rfl, rfl⟩
theorem greatest_7 (w : World) : Calls Try.prog 54 #[.int .i64 7] w fun e w' => e = .returned (.int .i64 127) ∧ w' = w := by
  go_enter Try.func54, Try.ntmps54
  go_wp2_with fail
  go_ret
  exact ⟨rfl, rfl⟩
theorem greatest_8 (w : World) : Calls Try.prog 54 #[.int .i64 8] w fun e w' => e = .returned (.int .i64 255) ∧ w' = w := by
  go_enter Try.func54, Try.ntmps54
  go_wp2_with fail
  go_ret
  exact ⟨rfl, rfl⟩
theorem greatest_16 (w : World) : Calls Try.prog 54 #[.int .i64 16] w fun e w' => e = .returned (.int .i64 65535) ∧ w' = w := by
  go_enter Try.func54, Try.ntmps54
  go_wp2_with fail
  go_ret
  exact ⟨rfl, rfl⟩

set_option maxHeartbeats 400000 in
set_option maxRecDepth 100000 in
theorem up_c (v b : Int) (w : World) : Calls Try.prog 41 #[.int .i64 v, .int .i64 b] w fun e w' => e = .returned (.tuple #[.int .u16 (upV v b), .bool (upOk v b)]) ∧ w' = w := by
  by_cases h1 : b = 1
  · subst h1
    have et : topU 1 = 1 := by decide
    by_cases hn : v < 0
    · have e1 : upV v 1 = 0 := by unfold upV; rw [if_neg (by omega)]
      have e2 : upOk v 1 = false := by unfold upOk; exact decide_eq_false (by omega)
      rw [e1, e2]
      clear e1 e2 et
      go_enter Try.func41, Try.ntmps41
      go_wp2_with fail
      refine (greatest_1 w).mono ?_
      rintro e w2 ⟨rfl, rfl⟩
      go_wp2_with fail
      go_ret2
      exact ⟨rfl, rfl⟩
    by_cases hg : 1 < v
    · have e1 : upV v 1 = 0 := by unfold upV; rw [if_neg (by rw [et]; omega)]
      have e2 : upOk v 1 = false := by unfold upOk; exact decide_eq_false (by rw [et]; omega)
      rw [e1, e2]
      clear e1 e2 et
      go_enter Try.func41, Try.ntmps41
      go_wp2_with fail
      refine (greatest_1 w).mono ?_
      rintro e w2 ⟨rfl, rfl⟩
      go_wp2_with fail
      go_ret2
      exact ⟨rfl, rfl⟩
    obtain ⟨X, hX⟩ : ∃ X, X = upV v 1 := ⟨_, rfl⟩
    have e2 : upOk v 1 = true := by unfold upOk; exact decide_eq_true (by rw [et]; omega)
    have hX2 : X = v * (65535 / 1) := by rw [hX]; unfold upV; rw [if_pos (by rw [et]; omega), et]; try rfl
    rw [← hX, e2]
    have HX := hide hX2
    have hv0 : 0 ≤ v := by omega
    have hv1 : v ≤ 1 := by omega
    clear hX hX2 e2 et hn hg
    go_enter Try.func41, Try.ntmps41
    go_wp2_with fail
    refine (greatest_1 w).mono ?_
    rintro e w2 ⟨rfl, rfl⟩
    go_wp2_with fail
    go_ret2
    refine ⟨ret_pair ?_ rfl, rfl⟩
    rw [HX.out]
    try omega
  by_cases h2 : b = 2
  · subst h2
    have et : topU 2 = 3 := by decide
    by_cases hn : v < 0
    · have e1 : upV v 2 = 0 := by unfold upV; rw [if_neg (by omega)]
      have e2 : upOk v 2 = false := by unfold upOk; exact decide_eq_false (by omega)
      rw [e1, e2]
      clear e1 e2 et
      go_enter Try.func41, Try.ntmps41
      go_wp2_with fail
      refine (greatest_2 w).mono ?_
      rintro e w2 ⟨rfl, rfl⟩
      go_wp2_with fail
      go_ret2
      exact ⟨rfl, rfl⟩
    by_cases hg : 3 < v
    · have e1 : upV v 2 = 0 := by unfold upV; rw [if_neg (by rw [et]; omega)]
      have e2 : upOk v 2 = false := by unfold upOk; exact decide_eq_false (by rw [et]; omega)
      rw [e1, e2]
      clear e1 e2 et
      go_enter Try.func41, Try.ntmps41
      go_wp2_with fail
      refine (greatest_2 w).mono ?_
      rintro e w2 ⟨rfl, rfl⟩
      go_wp2_with fail
      go_ret2
      exact ⟨rfl, rfl⟩
    obtain ⟨X, hX⟩ : ∃ X, X = upV v 2 := ⟨_, rfl⟩
    have e2 : upOk v 2 = true := by unfold upOk; exact decide_eq_true (by rw [et]; omega)
    have hX2 : X = v * (65535 / 3) := by rw [hX]; unfold upV; rw [if_pos (by rw [et]; omega), et]; try rfl
    rw [← hX, e2]
    have HX := hide hX2
    have hv0 : 0 ≤ v := by omega
    have hv1 : v ≤ 3 := by omega
    clear hX hX2 e2 et hn hg
    go_enter Try.func41, Try.ntmps41
    go_wp2_with fail
    refine (greatest_2 w).mono ?_
    rintro e w2 ⟨rfl, rfl⟩
    go_wp2_with fail
    go_ret2
    refine ⟨ret_pair ?_ rfl, rfl⟩
    rw [HX.out]
    try omega
  by_cases h4 : b = 4
  · subst h4
    have et : topU 4 = 15 := by decide
    by_cases hn : v < 0
    · have e1 : upV v 4 = 0 := by unfold upV; rw [if_neg (by omega)]
      have e2 : upOk v 4 = false := by unfold upOk; exact decide_eq_false (by omega)
      rw [e1, e2]
      clear e1 e2 et
      go_enter Try.func41, Try.ntmps41
      go_wp2_with fail
      refine (greatest_4 w).mono ?_
      rintro e w2 ⟨rfl, rfl⟩
      go_wp2_with fail
      go_ret2
      exact ⟨rfl, rfl⟩
    by_cases hg : 15 < v
    · have e1 : upV v 4 = 0 := by unfold upV; rw [if_neg (by rw [et]; omega)]
      have e2 : upOk v 4 = false := by unfold upOk; exact decide_eq_false (by rw [et]; omega)
      rw [e1, e2]
      clear e1 e2 et
      go_enter Try.func41, Try.ntmps41
      go_wp2_with fail
      refine (greatest_4 w).mono ?_
      rintro e w2 ⟨rfl, rfl⟩
      go_wp2_with fail
      go_ret2
      exact ⟨rfl, rfl⟩
    obtain ⟨X, hX⟩ : ∃ X, X = upV v 4 := ⟨_, rfl⟩
    have e2 : upOk v 4 = true := by unfold upOk; exact decide_eq_true (by rw [et]; omega)
    have hX2 : X = v * (65535 / 15) := by rw [hX]; unfold upV; rw [if_pos (by rw [et]; omega), et]; try rfl
    rw [← hX, e2]
    have HX := hide hX2
    have hv0 : 0 ≤ v := by omega
    have hv1 : v ≤ 15 := by omega
    clear hX hX2 e2 et hn hg
    go_enter Try.func41, Try.ntmps41
    go_wp2_with fail
    refine (greatest_4 w).mono ?_
    rintro e w2 ⟨rfl, rfl⟩
    go_wp2_with fail
    go_ret2
    refine ⟨ret_pair ?_ rfl, rfl⟩
    rw [HX.out]
    try omega
  by_cases h8 : b = 8
  · subst h8
    have et : topU 8 = 255 := by decide
    by_cases hn : v < 0
    · have e1 : upV v 8 = 0 := by unfold upV; rw [if_neg (by omega)]
      have e2 : upOk v 8 = false := by unfold upOk; exact decide_eq_false (by omega)
      rw [e1, e2]
      clear e1 e2 et
      go_enter Try.func41, Try.ntmps41
      go_wp2_with fail
      refine (greatest_8 w).mono ?_
      rintro e w2 ⟨rfl, rfl⟩
      go_wp2_with fail
      go_ret2
      exact ⟨rfl, rfl⟩
    by_cases hg : 255 < v
    · have e1 : upV v 8 = 0 := by unfold upV; rw [if_neg (by rw [et]; omega)]
      have e2 : upOk v 8 = false := by unfold upOk; exact decide_eq_false (by rw [et]; omega)
      rw [e1, e2]
      clear e1 e2 et
      go_enter Try.func41, Try.ntmps41
      go_wp2_with fail
      refine (greatest_8 w).mono ?_
      rintro e w2 ⟨rfl, rfl⟩
      go_wp2_with fail
      go_ret2
      exact ⟨rfl, rfl⟩
    obtain ⟨X, hX⟩ : ∃ X, X = upV v 8 := ⟨_, rfl⟩
    have e2 : upOk v 8 = true := by unfold upOk; exact decide_eq_true (by rw [et]; omega)
    have hX2 : X = v * (65535 / 255) := by rw [hX]; unfold upV; rw [if_pos (by rw [et]; omega), et]; try rfl
    rw [← hX, e2]
    have HX := hide hX2
    have hv0 : 0 ≤ v := by omega
    have hv1 : v ≤ 255 := by omega
    clear hX hX2 e2 et hn hg
    go_enter Try.func41, Try.ntmps41
    go_wp2_with fail
    refine (greatest_8 w).mono ?_
    rintro e w2 ⟨rfl, rfl⟩
    go_wp2_with fail
    go_ret2
    refine ⟨ret_pair ?_ rfl, rfl⟩
    rw [HX.out]
    try omega
  by_cases h16 : b = 16
  · subst h16
    have et : topU 16 = 65535 := by decide
    by_cases hn : v < 0
    · have e1 : upV v 16 = 0 := by unfold upV; rw [if_neg (by omega)]
      have e2 : upOk v 16 = false := by unfold upOk; exact decide_eq_false (by omega)
      rw [e1, e2]
      clear e1 e2 et
      go_enter Try.func41, Try.ntmps41
      go_wp2_with fail
      refine (greatest_16 w).mono ?_
      rintro e w2 ⟨rfl, rfl⟩
      go_wp2_with fail
      go_ret2
      exact ⟨rfl, rfl⟩
    by_cases hg : 65535 < v
    · have e1 : upV v 16 = 0 := by unfold upV; rw [if_neg (by rw [et]; omega)]
      have e2 : upOk v 16 = false := by unfold upOk; exact decide_eq_false (by rw [et]; omega)
      rw [e1, e2]
      clear e1 e2 et
      go_enter Try.func41, Try.ntmps41
      go_wp2_with fail
      refine (greatest_16 w).mono ?_
      rintro e w2 ⟨rfl, rfl⟩
      go_wp2_with fail
      go_ret2
      exact ⟨rfl, rfl⟩
    obtain ⟨X, hX⟩ : ∃ X, X = upV v 16 := ⟨_, rfl⟩
    have e2 : upOk v 16 = true := by unfold upOk; exact decide_eq_true (by rw [et]; omega)
    have hX2 : X = v * (65535 / 65535) := by rw [hX]; unfold upV; rw [if_pos (by rw [et]; omega), et]; try rfl
    rw [← hX, e2]
    have HX := hide hX2
    have hv0 : 0 ≤ v := by omega
    have hv1 : v ≤ 65535 := by omega
    clear hX hX2 e2 et hn hg
    go_enter Try.func41, Try.ntmps41
    go_wp2_with fail
    refine (greatest_16 w).mono ?_
    rintro e w2 ⟨rfl, rfl⟩
    go_wp2_with fail
    go_ret2
    refine ⟨ret_pair ?_ rfl, rfl⟩
    rw [HX.out]
    try omega
  have et : topU b = -1 := by unfold topU; rw [if_neg h1, if_neg h2, if_neg h4, if_neg h8, if_neg h16]
  have e1 : upV v b = 0 := by unfold upV; rw [if_neg (by rw [et]; omega)]
  have e2 : upOk v b = false := by unfold upOk; exact decide_eq_false (by rw [et]; omega)
  rw [e1, e2]
  clear e1 e2 et
  have n1 : (b == 1) = false := beq_false_of_ne h1
  have n2 : (b == 2) = false := beq_false_of_ne h2
  have n4 : (b == 4) = false := beq_false_of_ne h4
  have n8 : (b == 8) = false := beq_false_of_ne h8
  have n16 : (b == 16) = false := beq_false_of_ne h16
  go_enter Try.func41, Try.ntmps41
  go_wp2_with fail
  go_ret2
  exact ⟨rfl, rfl⟩

set_option maxHeartbeats 400000 in
set_option maxRecDepth 100000 in
theorem mask_c (v b : Int) (w : World) : Calls Try.prog 42 #[.int .i64 v, .int .i64 b] w fun e w' => e = .returned (.tuple #[.int .u16 (maskV v b), .bool (maskOk v b)]) ∧ w' = w := by
  by_cases h1 : b = 1
  · subst h1
    have et : topM 1 = 1 := by decide
    by_cases hn : v < 0
    · have e1 : maskV v 1 = 0 := by unfold maskV; rw [if_neg (by omega)]
      have e2 : maskOk v 1 = false := by unfold maskOk; exact decide_eq_false (by omega)
      rw [e1, e2]
      clear e1 e2 et
      go_enter Try.func42, Try.ntmps42
      go_wp2_with fail
      refine (greatest_1 w).mono ?_
      rintro e w2 ⟨rfl, rfl⟩
      go_wp2_with fail
      go_ret2
      exact ⟨rfl, rfl⟩
    by_cases hg : 1 < v
    · have e1 : maskV v 1 = 0 := by unfold maskV; rw [if_neg (by rw [et]; omega)]
      have e2 : maskOk v 1 = false := by unfold maskOk; exact decide_eq_false (by rw [et]; omega)
      rw [e1, e2]
      clear e1 e2 et
      go_enter Try.func42, Try.ntmps42
      go_wp2_with fail
      refine (greatest_1 w).mono ?_
      rintro e w2 ⟨rfl, rfl⟩
      go_wp2_with fail
      go_ret2
      exact ⟨rfl, rfl⟩
    obtain ⟨X, hX⟩ : ∃ X, X = maskV v 1 := ⟨_, rfl⟩
    have e2 : maskOk v 1 = true := by unfold maskOk; exact decide_eq_true (by rw [et]; omega)
    have hX2 : X = (v * 255 + 1 / 2) / 1 * 257 := by rw [hX]; unfold maskV; rw [if_pos (by rw [et]; omega), et]; try rfl
    rw [← hX, e2]
    have HX := hide hX2
    have hv0 : 0 ≤ v := by omega
    have hv1 : v ≤ 1 := by omega
    clear hX hX2 e2 et hn hg
    go_enter Try.func42, Try.ntmps42
    go_wp2_with fail
    refine (greatest_1 w).mono ?_
    rintro e w2 ⟨rfl, rfl⟩
    go_wp2_with fail
    go_ret2
    refine ⟨ret_pair ?_ rfl, rfl⟩
    rw [HX.out]
    try omega
  by_cases h2 : b = 2
  · subst h2
    have et : topM 2 = 3 := by decide
    by_cases hn : v < 0
    · have e1 : maskV v 2 = 0 := by unfold maskV; rw [if_neg (by omega)]
      have e2 : maskOk v 2 = false := by unfold maskOk; exact decide_eq_false (by omega)
      rw [e1, e2]
      clear e1 e2 et
      go_enter Try.func42, Try.ntmps42
      go_wp2_with fail
      refine (greatest_2 w).mono ?_
      rintro e w2 ⟨rfl, rfl⟩
      go_wp2_with fail
      go_ret2
      exact ⟨rfl, rfl⟩
    by_cases hg : 3 < v
    · have e1 : maskV v 2 = 0 := by unfold maskV; rw [if_neg (by rw [et]; omega)]
      have e2 : maskOk v 2 = false := by unfold maskOk; exact decide_eq_false (by rw [et]; omega)
      rw [e1, e2]
      clear e1 e2 et
      go_enter Try.func42, Try.ntmps42
      go_wp2_with fail
      refine (greatest_2 w).mono ?_
      rintro e w2 ⟨rfl, rfl⟩
      go_wp2_with fail
      go_ret2
      exact ⟨rfl, rfl⟩
    obtain ⟨X, hX⟩ : ∃ X, X = maskV v 2 := ⟨_, rfl⟩
    have e2 : maskOk v 2 = true := by unfold maskOk; exact decide_eq_true (by rw [et]; omega)
    have hX2 : X = (v * 255 + 3 / 2) / 3 * 257 := by rw [hX]; unfold maskV; rw [if_pos (by rw [et]; omega), et]; try rfl
    rw [← hX, e2]
    have HX := hide hX2
    have hv0 : 0 ≤ v := by omega
    have hv1 : v ≤ 3 := by omega
    clear hX hX2 e2 et hn hg
    go_enter Try.func42, Try.ntmps42
    go_wp2_with fail
    refine (greatest_2 w).mono ?_
    rintro e w2 ⟨rfl, rfl⟩
    go_wp2_with fail
    go_ret2
    refine ⟨ret_pair ?_ rfl, rfl⟩
    rw [HX.out]
    try omega
  by_cases h3 : b = 3
  · subst h3
    have et : topM 3 = 7 := by decide
    by_cases hn : v < 0
    · have e1 : maskV v 3 = 0 := by unfold maskV; rw [if_neg (by omega)]
      have e2 : maskOk v 3 = false := by unfold maskOk; exact decide_eq_false (by omega)
      rw [e1, e2]
      clear e1 e2 et
      go_enter Try.func42, Try.ntmps42
      go_wp2_with fail
      refine (greatest_3 w).mono ?_
      rintro e w2 ⟨rfl, rfl⟩
      go_wp2_with fail
      go_ret2
      exact ⟨rfl, rfl⟩
    by_cases hg : 7 < v
    · have e1 : maskV v 3 = 0 := by unfold maskV; rw [if_neg (by rw [et]; omega)]
      have e2 : maskOk v 3 = false := by unfold maskOk; exact decide_eq_false (by rw [et]; omega)
      rw [e1, e2]
      clear e1 e2 et
      go_enter Try.func42, Try.ntmps42
      go_wp2_with fail
      refine (greatest_3 w).mono ?_
      rintro e w2 ⟨rfl, rfl⟩
      go_wp2_with fail
      go_ret2
      exact ⟨rfl, rfl⟩
    obtain ⟨X, hX⟩ : ∃ X, X = maskV v 3 := ⟨_, rfl⟩
    have e2 : maskOk v 3 = true := by unfold maskOk; exact decide_eq_true (by rw [et]; omega)
    have hX2 : X = (v * 255 + 7 / 2) / 7 * 257 := by rw [hX]; unfold maskV; rw [if_pos (by rw [et]; omega), et]; try rfl
    rw [← hX, e2]
    have HX := hide hX2
    have hv0 : 0 ≤ v := by omega
    have hv1 : v ≤ 7 := by omega
    clear hX hX2 e2 et hn hg
    go_enter Try.func42, Try.ntmps42
    go_wp2_with fail
    refine (greatest_3 w).mono ?_
    rintro e w2 ⟨rfl, rfl⟩
    go_wp2_with fail
    go_ret2
    refine ⟨ret_pair ?_ rfl, rfl⟩
    rw [HX.out]
    try omega
  by_cases h4 : b = 4
  · subst h4
    have et : topM 4 = 15 := by decide
    by_cases hn : v < 0
    · have e1 : maskV v 4 = 0 := by unfold maskV; rw [if_neg (by omega)]
      have e2 : maskOk v 4 = false := by unfold maskOk; exact decide_eq_false (by omega)
      rw [e1, e2]
      clear e1 e2 et
      go_enter Try.func42, Try.ntmps42
      go_wp2_with fail
      refine (greatest_4 w).mono ?_
      rintro e w2 ⟨rfl, rfl⟩
      go_wp2_with fail
      go_ret2
      exact ⟨rfl, rfl⟩
    by_cases hg : 15 < v
    · have e1 : maskV v 4 = 0 := by unfold maskV; rw [if_neg (by rw [et]; omega)]
      have e2 : maskOk v 4 = false := by unfold maskOk; exact decide_eq_false (by rw [et]; omega)
      rw [e1, e2]
      clear e1 e2 et
      go_enter Try.func42, Try.ntmps42
      go_wp2_with fail
      refine (greatest_4 w).mono ?_
      rintro e w2 ⟨rfl, rfl⟩
      go_wp2_with fail
      go_ret2
      exact ⟨rfl, rfl⟩
    obtain ⟨X, hX⟩ : ∃ X, X = maskV v 4 := ⟨_, rfl⟩
    have e2 : maskOk v 4 = true := by unfold maskOk; exact decide_eq_true (by rw [et]; omega)
    have hX2 : X = (v * 255 + 15 / 2) / 15 * 257 := by rw [hX]; unfold maskV; rw [if_pos (by rw [et]; omega), et]; try rfl
    rw [← hX, e2]
    have HX := hide hX2
    have hv0 : 0 ≤ v := by omega
    have hv1 : v ≤ 15 := by omega
    clear hX hX2 e2 et hn hg
    go_enter Try.func42, Try.ntmps42
    go_wp2_with fail
    refine (greatest_4 w).mono ?_
    rintro e w2 ⟨rfl, rfl⟩
    go_wp2_with fail
    go_ret2
    refine ⟨ret_pair ?_ rfl, rfl⟩
    rw [HX.out]
    try omega
  by_cases h5 : b = 5
  · subst h5
    have et : topM 5 = 31 := by decide
    by_cases hn : v < 0
    · have e1 : maskV v 5 = 0 := by unfold maskV; rw [if_neg (by omega)]
      have e2 : maskOk v 5 = false := by unfold maskOk; exact decide_eq_false (by omega)
      rw [e1, e2]
      clear e1 e2 et
      go_enter Try.func42, Try.ntmps42
      go_wp2_with fail
      refine (greatest_5 w).mono ?_
      rintro e w2 ⟨rfl, rfl⟩
      go_wp2_with fail
      go_ret2
      exact ⟨rfl, rfl⟩
    by_cases hg : 31 < v
    · have e1 : maskV v 5 = 0 := by unfold maskV; rw [if_neg (by rw [et]; omega)]
      have e2 : maskOk v 5 = false := by unfold maskOk; exact decide_eq_false (by rw [et]; omega)
      rw [e1, e2]
      clear e1 e2 et
      go_enter Try.func42, Try.ntmps42
      go_wp2_with fail
      refine (greatest_5 w).mono ?_
      rintro e w2 ⟨rfl, rfl⟩
      go_wp2_with fail
      go_ret2
      exact ⟨rfl, rfl⟩
    obtain ⟨X, hX⟩ : ∃ X, X = maskV v 5 := ⟨_, rfl⟩
    have e2 : maskOk v 5 = true := by unfold maskOk; exact decide_eq_true (by rw [et]; omega)
    have hX2 : X = (v * 255 + 31 / 2) / 31 * 257 := by rw [hX]; unfold maskV; rw [if_pos (by rw [et]; omega), et]; try rfl
    rw [← hX, e2]
    have HX := hide hX2
    have hv0 : 0 ≤ v := by omega
    have hv1 : v ≤ 31 := by omega
    clear hX hX2 e2 et hn hg
    go_enter Try.func42, Try.ntmps42
    go_wp2_with fail
    refine (greatest_5 w).mono ?_
    rintro e w2 ⟨rfl, rfl⟩
    go_wp2_with fail
    go_ret2
    refine ⟨ret_pair ?_ rfl, rfl⟩
    rw [HX.out]
    try omega
  by_cases h6 : b = 6
  · subst h6
    have et : topM 6 = 63 := by decide
    by_cases hn : v < 0
    · have e1 : maskV v 6 = 0 := by unfold maskV; rw [if_neg (by omega)]
      have e2 : maskOk v 6 = false := by unfold maskOk; exact decide_eq_false (by omega)
      rw [e1, e2]
      clear e1 e2 et
      go_enter Try.func42, Try.ntmps42
      go_wp2_with fail
      refine (greatest_6 w).mono ?_
      rintro e w2 ⟨rfl, rfl⟩
      go_wp2_with fail
      go_ret2
      exact ⟨rfl, rfl⟩
    by_cases hg : 63 < v
    · have e1 : maskV v 6 = 0 := by unfold maskV; rw [if_neg (by rw [et]; omega)]
      have e2 : maskOk v 6 = false := by unfold maskOk; exact decide_eq_false (by rw [et]; omega)
      rw [e1, e2]
      clear e1 e2 et
      go_enter Try.func42, Try.ntmps42
      go_wp2_with fail
      refine (greatest_6 w).mono ?_
      rintro e w2 ⟨rfl, rfl⟩
      go_wp2_with fail
      go_ret2
      exact ⟨rfl, rfl⟩
    obtain ⟨X, hX⟩ : ∃ X, X = maskV v 6 := ⟨_, rfl⟩
    have e2 : maskOk v 6 = true := by unfold maskOk; exact decide_eq_true (by rw [et]; omega)
    have hX2 : X = (v * 255 + 63 / 2) / 63 * 257 := by rw [hX]; unfold maskV; rw [if_pos (by rw [et]; omega), et]; try rfl
    rw [← hX, e2]
    have HX := hide hX2
    have hv0 : 0 ≤ v := by omega
    have hv1 : v ≤ 63 := by omega
    clear hX hX2 e2 et hn hg
    go_enter Try.func42, Try.ntmps42
    go_wp2_with fail
    refine (greatest_6 w).mono ?_
    rintro e w2 ⟨rfl, rfl⟩
    go_wp2_with fail
    go_ret2
    refine ⟨ret_pair ?_ rfl, rfl⟩
    rw [HX.out]
    try omega
  by_cases h7 : b = 7
  · subst h7
    have et : topM 7 = 127 := by decide
    by_cases hn : v < 0
    · have e1 : maskV v 7 = 0 := by unfold maskV; rw [if_neg (by omega)]
      have e2 : maskOk v 7 = false := by unfold maskOk; exact decide_eq_false (by omega)
      rw [e1, e2]
      clear e1 e2 et
      go_enter Try.func42, Try.ntmps42
      go_wp2_with fail
      refine (greatest_7 w).mono ?_
      rintro e w2 ⟨rfl, rfl⟩
      go_wp2_with fail
      go_ret2
      exact ⟨rfl, rfl⟩
    by_cases hg : 127 < v
    · have e1 : maskV v 7 = 0 := by unfold maskV; rw [if_neg (by rw [et]; omega)]
      have e2 : maskOk v 7 = false := by unfold maskOk; exact decide_eq_false (by rw [et]; omega)
      rw [e1, e2]
      clear e1 e2 et
      go_enter Try.func42, Try.ntmps42
      go_wp2_with fail
      refine (greatest_7 w).mono ?_
      rintro e w2 ⟨rfl, rfl⟩
      go_wp2_with fail
      go_ret2
      exact ⟨rfl, rfl⟩
    obtain ⟨X, hX⟩ : ∃ X, X = maskV v 7 := ⟨_, rfl⟩
    have e2 : maskOk v 7 = true := by unfold maskOk; exact decide_eq_true (by rw [et]; omega)
    have hX2 : X = (v * 255 + 127 / 2) / 127 * 257 := by rw [hX]; unfold maskV; rw [if_pos (by rw [et]; omega), et]; try rfl
    rw [← hX, e2]
    have HX := hide hX2
    have hv0 : 0 ≤ v := by omega
    have hv1 : v ≤ 127 := by omega
    clear hX hX2 e2 et hn hg
    go_enter Try.func42, Try.ntmps42
    go_wp2_with fail
    refine (greatest_7 w).mono ?_
    rintro e w2 ⟨rfl, rfl⟩
    go_wp2_with fail
    go_ret2
    refine ⟨ret_pair ?_ rfl, rfl⟩
    rw [HX.out]
    try omega
  by_cases h8 : b = 8
  · subst h8
    have et : topM 8 = 255 := by decide
    by_cases hn : v < 0
    · have e1 : maskV v 8 = 0 := by unfold maskV; rw [if_neg (by omega)]
      have e2 : maskOk v 8 = false := by unfold maskOk; exact decide_eq_false (by omega)
      rw [e1, e2]
      clear e1 e2 et
      go_enter Try.func42, Try.ntmps42
      go_wp2_with fail
      refine (greatest_8 w).mono ?_
      rintro e w2 ⟨rfl, rfl⟩
      go_wp2_with fail
      go_ret2
      exact ⟨rfl, rfl⟩
    by_cases hg : 255 < v
    · have e1 : maskV v 8 = 0 := by unfold maskV; rw [if_neg (by rw [et]; omega)]
      have e2 : maskOk v 8 = false := by unfold maskOk; exact decide_eq_false (by rw [et]; omega)
      rw [e1, e2]
      clear e1 e2 et
      go_enter Try.func42, Try.ntmps42
      go_wp2_with fail
      refine (greatest_8 w).mono ?_
      rintro e w2 ⟨rfl, rfl⟩
      go_wp2_with fail
      go_ret2
      exact ⟨rfl, rfl⟩
    obtain ⟨X, hX⟩ : ∃ X, X = maskV v 8 := ⟨_, rfl⟩
    have e2 : maskOk v 8 = true := by unfold maskOk; exact decide_eq_true (by rw [et]; omega)
    have hX2 : X = (v * 255 + 255 / 2) / 255 * 257 := by rw [hX]; unfold maskV; rw [if_pos (by rw [et]; omega), et]; try rfl
    rw [← hX, e2]
    have HX := hide hX2
    have hv0 : 0 ≤ v := by omega
    have hv1 : v ≤ 255 := by omega
    clear hX hX2 e2 et hn hg
    go_enter Try.func42, Try.ntmps42
    go_wp2_with fail
    refine (greatest_8 w).mono ?_
    rintro e w2 ⟨rfl, rfl⟩
    go_wp2_with fail
    go_ret2
    refine ⟨ret_pair ?_ rfl, rfl⟩
    rw [HX.out]
    try omega
  have et : topM b = -1 := by unfold topM; rw [if_neg h1, if_neg h2, if_neg h3, if_neg h4, if_neg h5, if_neg h6, if_neg h7, if_neg h8]
  have e1 : maskV v b = 0 := by unfold maskV; rw [if_neg (by rw [et]; omega)]
  have e2 : maskOk v b = false := by unfold maskOk; exact decide_eq_false (by rw [et]; omega)
  rw [e1, e2]
  clear e1 e2 et
  by_cases hlo : b < 1
  · go_enter Try.func42, Try.ntmps42
    go_wp2_with fail
    go_ret2
    exact ⟨rfl, rfl⟩
  have hhi : 8 < b := by omega
  go_enter Try.func42, Try.ntmps42
  go_wp2_with fail
  go_ret2
  exact ⟨rfl, rfl⟩

def eightOk (s : Nat) : Bool := decide (s % 257 = 0)
def eightV (s : Nat) : Int := if s % 257 = 0 then ((s / 257 : Nat) : Int) else 0

theorem eight_c (s : Nat) (w : World) (hs : s < 65536) : Calls Try.prog 43 #[.int .u16 (s : Int)] w fun e w' => e = .returned (.tuple #[.int .u8 (eightV s), .bool (eightOk s)]) ∧ w' = w := by
  obtain ⟨r, hr⟩ : ∃ r, r = s % 257 := ⟨_, rfl⟩
  obtain ⟨q, hq⟩ : ∃ q, q = s / 257 := ⟨_, rfl⟩
  have h1 : (s : Int).tmod 257 = (r : Int) := by rw [Int.tmod_eq_emod_of_nonneg (by omega), hr]; omega
  have h2 : (s : Int).tdiv 257 = (q : Int) := by rw [Int.tdiv_eq_ediv_of_nonneg (by omega), hq]; omega
  have h3 : (s : Int) % 257 = (r : Int) := by rw [hr]; omega
  have h4 : (s : Int) / 257 = (q : Int) := by rw [hq]; omega
  have hrb : r < 257 := by rw [hr]; exact Nat.mod_lt _ (by decide)
  have hqb : q < 256 := by omega
  by_cases h0 : r = 0
  · have e1 : eightV s = (q : Int) := by unfold eightV; rw [← hr, if_pos h0, hq]
    have e2 : eightOk s = true := by unfold eightOk; rw [← hr]; exact decide_eq_true h0
    rw [e1, e2]
    have hq1 : IntKind.u8.wrap (q : Int) = (q : Int) := by simp [IntKind.wrap, IntKind.bits, IntKind.signed]; omega
    have hr0 : (r : Int) = 0 := by omega
    clear e1 e2 hr hq
    go_enter Try.func43, Try.ntmps43
    go_wp2_with fail
    go_ret2
    exact ⟨rfl, rfl⟩
  · have e1 : eightV s = 0 := by unfold eightV; rw [← hr, if_neg h0]
    have e2 : eightOk s = false := by unfold eightOk; rw [← hr]; exact decide_eq_false h0
    rw [e1, e2]
    have hr0 : ¬ (r : Int) = 0 := by omega
    clear e1 e2 hr hq
    go_enter Try.func43, Try.ntmps43
    go_wp2_with fail
    go_ret2
    exact ⟨rfl, rfl⟩

end Go.Proofs.Ythdilabmajaehaa
