/-
  raster: where a pixel lies.
-/
import Derived.Test.YthdilabmajaehaaRc
namespace Go.Proofs.Ythdilabmajaehaa
open Go.RowKit

set_option maxHeartbeats 60000 in
theorem pixel_c (W H x y : Int) (ad : Addr) (n c k : Nat) (w : World) (hs : sizeE W H = 0) (hn : (n : Int) = 4 * W * H) (hc : n ≤ c) (hx : 0 ≤ x ∧ x < W) (hy : 0 ≤ y ∧ y < H) (hk : (k : Int) = 4 * (y * W + x)) (hk4 : k + 4 ≤ n) :
    Calls Try.prog 40 #[rasV W H (some ad) n c, .int .i64 x, .int .i64 y] w fun e w' => e = .returned (.tuple #[.slice (some (ad.add k)) 4 (c - k), .bool true]) ∧ Fr (fun _ => False) w w' := by
  obtain ⟨h1, h2, h3, h4, h5⟩ := size_ok hs
  have hm : 0 ≤ y * W := Int.mul_nonneg (by omega) (by omega)
  have hkb : k ≤ 65536 := by
    have e4 : 4 * W * H = 4 * (W * H) := Int.mul_assoc _ _ _
    omega
  obtain ⟨m, hym⟩ : ∃ m, y * W = m := ⟨_, rfl⟩
  rw [hym] at hm hk
  obtain ⟨j, hmj⟩ : ∃ j, m + x = j := ⟨_, rfl⟩
  rw [hmj] at hk
  have hmb : m ≤ 65536 := by omega
  have hjb : 0 ≤ j ∧ j ≤ 65536 := by omega
  obtain ⟨hj0, hj1⟩ := hjb
  have h4j : 4 * j = (k : Int) := hk.symm
  have q1 : wrap64 m = m := wrap64_id _ (by omega) (by omega)
  have q2 : wrap64 j = j := wrap64_id _ (by omega) (by omega)
  have q3 : wrap64 (k : Int) = (k : Int) := wrap64_id _ (by omega) (by omega)
  have q4 : wrap64 ((k : Int) + 4) = (k : Int) + 4 := wrap64_id _ (by omega) (by omega)
  have hmay : mayB W H n = true := by unfold mayB; rw [hs, hn]; simp
  obtain ⟨w1, hw1⟩ : ∃ w1, w1 = w.alloc (.cells #[.int .i64 W, .int .i64 H, .slice (some ad) n c] 24) := ⟨_, rfl⟩
  have hb1 : w1.heap[w.heap.size]? = some (.cells #[.int .i64 W, .int .i64 H, .slice (some ad) n c] 24 (0, 0)) := by rw [hw1]; exact heap_alloc_at rfl
  have hF1 : Fr (fun _ => False) w w1 := by rw [hw1]; exact Fr.of_alloc _ _
  have HM := hide (may_c W H (some ad) n c w1)
  rw [hmay] at HM
  have Hb1 := hide hb1
  have HF1 := hide hF1
  have Hw1 := hide hw1
  have hxl : ¬ x < 0 := by omega
  have hyl : ¬ y < 0 := by omega
  have hxg : ¬ W ≤ x := by omega
  have hyg : ¬ H ≤ y := by omega
  have hki : (k : Int) + 4 ≤ (c : Int) := by omega
  clear hk hmay hb1 hF1 hw1 hs hn h5 h1 h2 h3 h4
  go_enter Try.func40, Try.ntmps40
  go_wp2_with fail
  rw [← Hw1.out]
  refine HM.out.mono ?_
  rintro e w2 ⟨rfl, hF2⟩
  have hb2 := cells_at Hb1.out hF2 (fun e => e)
  have k0 := cell_of (o := 0) hb2 rfl
  have k1 := cell_of (o := 1) hb2 rfl
  have k2 := cell_of (o := 2) hb2 rfl
  have HF2 := hide (HF1.out.join hF2)
  clear hb2 hF2
  go_wp2_with fail
  have e4 : k + 4 - k = 4 := by omega
  rw [e4]
  go_ret2
  exact ⟨rfl, HF2.out⟩

set_option maxHeartbeats 60000 in
theorem isNaN_c (x : Int) (w : World) : Calls Try.prog 76 #[.int .u64 x] w fun e w' => e = .returned (.bool false) ∧ w' = w := by
  go_enter Try.func76, Try.ntmps76
  go_wp2
  go_ret
  exact ⟨by simp, rfl⟩

set_option maxHeartbeats 60000 in
theorem less_c (x y : Int) (w : World) : Calls Try.prog 64 #[.int .u64 x, .int .u64 y] w fun e w' => e = .returned (.bool (decide (x < y))) ∧ w' = w := by
  have H1 := hide (isNaN_c x w)
  go_enter Try.func64, Try.ntmps64
  go_wp2_with fail
  refine H1.out.mono ?_
  rintro e w2 ⟨rfl, rfl⟩
  go_wp2
  go_ret
  exact ⟨by simp, rfl⟩
end Go.Proofs.Ythdilabmajaehaa
