/-
  raster: May and New.
-/
import Derived.Test.YthdilabmajaehaaRa
namespace Go.Proofs.Ythdilabmajaehaa
open Go.RowKit

/-- Whether a raster may be. -/
def mayB (W H : Int) (n : Nat) : Bool := decide (sizeE W H = 0 ∧ (n : Int) = 4 * W * H)

abbrev rasV (W H : Int) (a : Option Addr) (n c : Nat) : Value := .agg #[.int .i64 W, .int .i64 H, .slice a n c]

theorem may_c (W H : Int) (a : Option Addr) (n c : Nat) (w : World) : Calls Try.prog 17 #[rasV W H a n c] w fun e w' => e = .returned (.bool (mayB W H n)) ∧ Fr (fun _ => False) w w' := by
  obtain ⟨w1, hw1⟩ : ∃ w1, w1 = w.alloc (.cells #[.int .i64 W, .int .i64 H, .slice a n c] 24) := ⟨_, rfl⟩
  have hb1 : w1.heap[w.heap.size]? = some (.cells #[.int .i64 W, .int .i64 H, .slice a n c] 24 (0, 0)) := by rw [hw1]; exact heap_alloc_at rfl
  have hF1 : Fr (fun _ => False) w w1 := by rw [hw1]; exact Fr.of_alloc _ _
  have k0 := cell_of (o := 0) hb1 rfl
  have k1 := cell_of (o := 1) hb1 rfl
  have k2 := cell_of (o := 2) hb1 rfl
  have HF1 := hide hF1
  have Hw1 := hide hw1
  clear hb1 hF1 hw1
  by_cases hs : sizeE W H = 0
  · obtain ⟨h1, h2, h3, h4, h5⟩ := size_ok hs
    have hm : 0 ≤ W * H := Int.mul_nonneg (by omega) (by omega)
    have q1 : wrap64 (4 * W) = 4 * W := wrap64_id _ (by omega) (by omega)
    have e4 : 4 * W * H = 4 * (W * H) := Int.mul_assoc _ _ _
    have q2 : wrap64 (4 * W * H) = 4 * W * H := wrap64_id _ (by omega) (by omega)
    have Hs := hide hs
    have em : mayB W H n = ((n : Int) == 4 * W * H) := by
      unfold mayB
      rw [hs]
      by_cases h : (n : Int) = 4 * W * H
      · simp [h]
      · simp [h]
    rw [em]
    have HS := hide (size_c W H w1)
    rw [hs] at HS
    clear hs e4 hm h5 em
    go_enter Try.func17, Try.ntmps17
    go_wp2_with fail
    rw [← Hw1.out]
    refine HS.out.mono ?_
    rintro e w2 ⟨rfl, rfl⟩
    go_wp2
    go_ret
    exact ⟨rfl, HF1.out⟩
  · have em : mayB W H n = false := by unfold mayB; simp [hs]
    rw [em]
    have hs2 : (sizeE W H == 0) = false := by rw [beq_eq_false_iff_ne]; exact hs
    have HS := hide (size_c W H w1)
    obtain ⟨E, hE⟩ : ∃ E, E = sizeE W H := ⟨_, rfl⟩
    rw [← hE] at HS hs2
    clear hs hE em
    go_enter Try.func17, Try.ntmps17
    go_wp2_with fail
    rw [← Hw1.out]
    refine HS.out.mono ?_
    rintro e w2 ⟨rfl, rfl⟩
    go_wp2
    go_ret
    exact ⟨rfl, HF1.out⟩
theorem rmay_c (W H : Int) (a : Option Addr) (n c : Nat) (w : World) : Calls Try.prog 23 #[rasV W H a n c] w fun e w' => e = .returned (.bool (mayB W H n)) ∧ Fr (fun _ => False) w w' := by
  obtain ⟨w1, hw1⟩ : ∃ w1, w1 = w.alloc (.cells #[.int .i64 W, .int .i64 H, .slice a n c] 24) := ⟨_, rfl⟩
  have hb1 : w1.heap[w.heap.size]? = some (.cells #[.int .i64 W, .int .i64 H, .slice a n c] 24 (0, 0)) := by rw [hw1]; exact heap_alloc_at rfl
  have hF1 : Fr (fun _ => False) w w1 := by rw [hw1]; exact Fr.of_alloc _ _
  have k0 := cell_of (o := 0) hb1 rfl
  have k1 := cell_of (o := 1) hb1 rfl
  have k2 := cell_of (o := 2) hb1 rfl
  have HF1 := hide hF1
  have Hw1 := hide hw1
  clear hb1 hF1 hw1
  by_cases hs : sizeE W H = 0
  · obtain ⟨h1, h2, h3, h4, h5⟩ := size_ok hs
    have hm : 0 ≤ W * H := Int.mul_nonneg (by omega) (by omega)
    have q1 : wrap64 (4 * W) = 4 * W := wrap64_id _ (by omega) (by omega)
    have e4 : 4 * W * H = 4 * (W * H) := Int.mul_assoc _ _ _
    have q2 : wrap64 (4 * W * H) = 4 * W * H := wrap64_id _ (by omega) (by omega)
    have Hs := hide hs
    have em : mayB W H n = ((n : Int) == 4 * W * H) := by
      unfold mayB
      rw [hs]
      by_cases h : (n : Int) = 4 * W * H
      · simp [h]
      · simp [h]
    rw [em]
    have HS := hide (rsize_c W H w1)
    rw [hs] at HS
    clear hs e4 hm h5 em
    go_enter Try.func23, Try.ntmps23
    go_wp2_with fail
    rw [← Hw1.out]
    refine HS.out.mono ?_
    rintro e w2 ⟨rfl, rfl⟩
    go_wp2
    go_ret
    exact ⟨rfl, HF1.out⟩
  · have em : mayB W H n = false := by unfold mayB; simp [hs]
    rw [em]
    have hs2 : (sizeE W H == 0) = false := by rw [beq_eq_false_iff_ne]; exact hs
    have HS := hide (rsize_c W H w1)
    obtain ⟨E, hE⟩ : ∃ E, E = sizeE W H := ⟨_, rfl⟩
    rw [← hE] at HS hs2
    clear hs hE em
    go_enter Try.func23, Try.ntmps23
    go_wp2_with fail
    rw [← Hw1.out]
    refine HS.out.mono ?_
    rintro e w2 ⟨rfl, rfl⟩
    go_wp2
    go_ret
    exact ⟨rfl, HF1.out⟩

end Go.Proofs.Ythdilabmajaehaa
