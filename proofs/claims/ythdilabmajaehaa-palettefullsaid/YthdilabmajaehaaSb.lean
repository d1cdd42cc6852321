/-
  raster: where no pixel lies; At of both.
-/
import Derived.Test.YthdilabmajaehaaSa
namespace Go.Proofs.Ythdilabmajaehaa
open Go.RowKit

/-- Whether a raster has such a pixel. -/
def inB (W H : Int) (n : Nat) (x y : Int) : Bool := mayB W H n && (decide (0 ≤ x) && decide (x < W) && decide (0 ≤ y) && decide (y < H))

theorem inB_true {W H x y : Int} {n : Nat} (h : inB W H n x y = true) : mayB W H n = true ∧ (0 ≤ x ∧ x < W) ∧ (0 ≤ y ∧ y < H) := by
  simp [inB] at h
  exact ⟨h.1, by omega, by omega⟩

theorem inB_false {W H x y : Int} {n : Nat} (h : inB W H n x y = false) : mayB W H n = false ∨ mayB W H n = true ∧ (x < 0 ∨ ¬ x < 0 ∧ (W ≤ x ∨ ¬ W ≤ x ∧ (y < 0 ∨ ¬ y < 0 ∧ H ≤ y))) := by
  cases hm : mayB W H n with
  | false => exact Or.inl rfl
  | true =>
    right
    simp [inB, hm] at h
    refine ⟨rfl, ?_⟩
    by_cases h1 : x < 0
    · exact Or.inl h1
    by_cases h2 : W ≤ x
    · exact Or.inr ⟨h1, Or.inl h2⟩
    by_cases h3 : y < 0
    · exact Or.inr ⟨h1, Or.inr ⟨h2, Or.inl h3⟩⟩
    exact Or.inr ⟨h1, Or.inr ⟨h2, Or.inr ⟨h3, h (by omega) (by omega) (by omega)⟩⟩⟩

theorem mayB_true {W H : Int} {n : Nat} (h : mayB W H n = true) : sizeE W H = 0 ∧ (n : Int) = 4 * W * H := by
  simpa [mayB] using h

/-- Where a pixel's samples begin. -/
theorem pixel_at {W H x y : Int} {n : Nat} (h : inB W H n x y = true) : ∃ k : Nat, (k : Int) = 4 * (y * W + x) ∧ k + 4 ≤ n := by
  obtain ⟨hm, hx, hy⟩ := inB_true h
  obtain ⟨hs, hn⟩ := mayB_true hm
  obtain ⟨h1, h2, h3, h4, h5⟩ := size_ok hs
  have hm : 0 ≤ y * W := Int.mul_nonneg (by omega) (by omega)
  have hle : y * W ≤ (H - 1) * W := Int.mul_le_mul_of_nonneg_right (by omega) (by omega)
  have e1 : (H - 1) * W = W * H - W := by rw [Int.sub_mul, Int.one_mul, Int.mul_comm]
  have e4 : 4 * W * H = 4 * (W * H) := Int.mul_assoc _ _ _
  exact ⟨(4 * (y * W + x)).toNat, by omega, by omega⟩

theorem pixel_no (W H x y : Int) (a : Option Addr) (n c : Nat) (w : World) (h : inB W H n x y = false) :
    Calls Try.prog 40 #[rasV W H a n c, .int .i64 x, .int .i64 y] w fun e w' => e = .returned (.tuple #[.slice none 0 0, .bool false]) ∧ Fr (fun _ => False) w w' := by
  obtain ⟨w1, hw1⟩ : ∃ w1, w1 = w.alloc (.cells #[.int .i64 W, .int .i64 H, .slice a n c] 24) := ⟨_, rfl⟩
  have hb1 : w1.heap[w.heap.size]? = some (.cells #[.int .i64 W, .int .i64 H, .slice a n c] 24 (0, 0)) := by rw [hw1]; exact heap_alloc_at rfl
  have hF1 : Fr (fun _ => False) w w1 := by rw [hw1]; exact Fr.of_alloc _ _
  have HM := hide (may_c W H a n c w1)
  have Hb1 := hide hb1
  have HF1 := hide hF1
  have Hw1 := hide hw1
  clear hb1 hF1 hw1
  rcases inB_false h with hm | ⟨hm, h1 | ⟨h1, h2 | ⟨h2, h3 | ⟨h3, h4⟩⟩⟩⟩
  all_goals
    rw [hm] at HM
    clear h hm
    go_enter Try.func40, Try.ntmps40
    go_wp2_with fail
    rw [← Hw1.out]
    refine HM.out.mono ?_
    rintro e w2 ⟨rfl, hF2⟩
    have hb2 := cells_at Hb1.out hF2 (fun e => e)
    have k0 := cell_of (o := 0) hb2 rfl
    have k1 := cell_of (o := 1) hb2 rfl
    have k2 := cell_of (o := 2) hb2 rfl
    have HF2 := hide (HF1.out.join hF2)
    clear hb2 hF2
    go_wp2_with fail
    go_ret2
    exact ⟨rfl, HF2.out⟩

set_option maxHeartbeats 100000 in
theorem at_no (W H x y : Int) (a : Option Addr) (n c : Nat) (w : World) (h : inB W H n x y = false) :
    Calls Try.prog 19 #[rasV W H a n c, .int .i64 x, .int .i64 y] w fun e w' => e = .returned (.tuple #[.agg #[.int .u16 0, .int .u16 0, .int .u16 0, .int .u16 0], .bool false]) ∧ Fr (fun _ => False) w w' := by
  obtain ⟨w1, hw1⟩ : ∃ w1, w1 = (w.alloc (.cells #[.int .i64 W, .int .i64 H, .slice a n c] 24)).alloc (.cells #[.int .u16 0, .int .u16 0, .int .u16 0, .int .u16 0] 36) := ⟨_, rfl⟩
  have HP := hide (pixel_no W H x y a n c w1 h)
  have hb : w1.heap[w.heap.size + 1]? = some (.cells #[.int .u16 0, .int .u16 0, .int .u16 0, .int .u16 0] 36 (0, 0)) := by rw [hw1]; exact heap_alloc_at (by simp)
  have hF : Fr (fun _ => False) w w1 := by rw [hw1]; exact (Fr.of_alloc _ _).join (Fr.of_alloc _ _)
  have Hb := hide hb
  have HF := hide hF
  have Hw1 := hide hw1
  clear hb hF hw1 h
  go_enter Try.func19, Try.ntmps19
  go_wp2_with fail
  rw [← Hw1.out]
  refine HP.out.mono ?_
  rintro e w2 ⟨rfl, hF2⟩
  have HF2 := hide (HF.out.join hF2)
  have hb2 := cells_at Hb.out hF2 (fun e => e)
  have d0 := cell_of (o := 0) hb2 rfl
  have f0 := frozen_of (o := 0) hb2
  have d1 := cell_of (o := 1) hb2 rfl
  have f1 := frozen_of (o := 1) hb2
  have d2 := cell_of (o := 2) hb2 rfl
  have f2 := frozen_of (o := 2) hb2
  have d3 := cell_of (o := 3) hb2 rfl
  have f3 := frozen_of (o := 3) hb2
  have HB2 := hide hb2
  clear hF2 hb2
  go_wp2_with fail
  obtain ⟨d, u1, u2, u3⟩ := Try.und36
  obtain ⟨B, hB⟩ : ∃ B, B = w.heap.size + 1 := ⟨_, rfl⟩
  have hb0 := HB2.out
  rw [← hB] at hb0 ⊢
  have e1 := heap_setCell_own (o := 3) (.int .u16 0) (heap_setCell_own (o := 2) (.int .u16 0) (heap_setCell_own (o := 1) (.int .u16 0) (heap_setCell_own (o := 0) (.int .u16 0) hb0)))
  have hf9 := (((Fr.of_setCell w2 ⟨B, 0, none⟩ (.int .u16 0)).join (Fr.of_setCell _ ⟨B, 1, none⟩ (.int .u16 0))).join (Fr.of_setCell _ ⟨B, 2, none⟩ (.int .u16 0))).join (Fr.of_setCell _ ⟨B, 3, none⟩ (.int .u16 0))
  obtain ⟨w9, hw9⟩ : ∃ w9, w9 = (((w2.setCell ⟨B, 0, none⟩ (.int .u16 0)).setCell ⟨B, 1, none⟩ (.int .u16 0)).setCell ⟨B, 2, none⟩ (.int .u16 0)).setCell ⟨B, 3, none⟩ (.int .u16 0) := ⟨_, rfl⟩
  rw [← hw9] at e1 hf9 ⊢
  have hb9 : w9.heap[B]? = some (.cells [.int .u16 0, .int .u16 0, .int .u16 0, .int .u16 0].toArray 36 (0, 0)) := e1
  have hld := run_loadVar_mid (P := Try.prog) w9 B 0 36 [.int .u16 0, .int .u16 0, .int .u16 0, .int .u16 0] d (rangeAt_cells hb9) u1 u2 u3
  have hfin : Fr (fun _ => False) w w9 := frJ HF2.out hf9 fun j hj => by
    have e : j = B := hj
    omega
  exact bodyPost_ret (results_two (t := 6) (s := 7) Try.results19 rfl hld rfl) rfl ⟨rfl, hfin⟩
end Go.Proofs.Ythdilabmajaehaa
