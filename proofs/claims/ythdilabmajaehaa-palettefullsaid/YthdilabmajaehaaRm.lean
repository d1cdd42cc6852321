/-
  raster: what each law wakes with.
-/
import Derived.Test.YthdilabmajaehaaRl
namespace Go.Proofs.Ythdilabmajaehaa
open Go.RowKit

theorem wake_set : setL (cellsU (List.replicate 24 0)) 20 (pixC 1 2 3 4) = cellsU wakePx := by rfl

theorem eq_wake (W : World) : (Op.equalIn 10000 36 (.agg #[.int .u16 1, .int .u16 2, .int .u16 3, .int .u16 4]) (.agg #[.int .u16 1, .int .u16 2, .int .u16 3, .int .u16 4])).run Try.prog W = .ok true W := by kernel_rfl

set_option maxHeartbeats 400000 in
set_option maxRecDepth 100000 in
theorem awake_c (w : World) : Calls Try.prog 13 #[] w fun e w' => e = .returned (.bool true) ∧ Fr (fun _ => False) w w' := by
  have HN := hide (new_c 2 3 w)
  go_enter Try.func13, Try.ntmps13
  go_wp2_with fail
  refine HN.out.mono ?_
  rintro e w1 ⟨v, er, rfl, hN⟩
  have hz : sizeE 2 3 = 0 := by decide +kernel
  rcases hN.out with ⟨h, _⟩ | ⟨_, rfl, n, g, hn, rfl, hgl, hg⟩
  · exact absurd hz h
  obtain rfl : n = 24 := by omega
  have HF1 := hide hN.fr
  obtain ⟨w2, hw2⟩ : ∃ w2, w2 = w1.alloc (.cells #[.int .i64 2, .int .i64 3, .slice (some ⟨g, 0, none⟩) 24 24] 24) := ⟨_, rfl⟩
  have hF2 : Fr (fun _ => False) w1 w2 := by rw [hw2]; exact Fr.of_alloc _ _
  have hb2 : w2.heap[w1.heap.size]? = some (.cells #[.int .i64 2, .int .i64 3, .slice (some ⟨g, 0, none⟩) 24 24] 24 (0, 0)) := by rw [hw2]; exact heap_alloc_at rfl
  have hg2 := cells_at hg hF2 (fun e => e)
  have HSt := hide (set_c 2 3 1 2 g (cellsU (List.replicate 24 0)) 24 20 1 2 3 4 w2 hz (by decide) (by decide) (by decide) (by decide) (by decide) hg2 (by simp [cellsU]))
  rw [wake_set] at HSt
  have k0 := cell_of (o := 0) hb2 rfl
  have k1 := cell_of (o := 1) hb2 rfl
  have k2 := cell_of (o := 2) hb2 rfl
  have hgb : g < w1.heap.size := lt_of hg
  have Hgb : Hid (g < w1.heap.size) := hgb
  have Hgl := hide hgl
  have Hb2 := hide hb2
  have HF2 := hide (HF1.out.join hF2)
  have Hw2 := hide hw2
  clear hN hg hF2 hb2 hg2 hw2 hgb hgl hz hn
  go_wp2_with fail
  rw [← Hw2.out]
  refine HSt.out.mono ?_
  rintro e w3 ⟨rfl, hF3, hg3⟩
  have hb3 := cells_at Hb2.out hF3 (fun e => by have e2 : w1.heap.size = g := e; have := Hgb.out; omega)
  have HF3 : Hid (Fr (fun _ => False) w w3) := frJ HF2.out hF3 fun j hj => by
    have e : j = g := hj
    rw [e]
    exact Hgl.out
  have HAt := hide (at_c 2 3 1 2 g (cellsU wakePx) 24 20 1 2 3 4 w3 (by decide +kernel) (by decide) (by decide) (by decide) (by decide) (by decide) hg3 rfl rfl rfl rfl)
  clear k0 k1 k2
  have k0 := cell_of (o := 0) hb3 rfl
  have k1 := cell_of (o := 1) hb3 rfl
  have k2 := cell_of (o := 2) hb3 rfl
  have Hb3 := hide hb3
  have Hg3 := hide hg3
  clear hF3 hb3 hg3
  go_wp2_with fail
  refine HAt.out.mono ?_
  rintro e w4 ⟨rfl, hF4⟩
  have HF4 := hide (HF3.out.join hF4)
  have Hb4 := hide (cells_at Hb3.out hF4 (fun e => e))
  have Hg4 := hide (cells_at Hg3.out hF4 (fun e => e))
  obtain ⟨w5, hw5⟩ : ∃ w5, w5 = w4.alloc (.cells #[.int .u16 1, .int .u16 2, .int .u16 3, .int .u16 4] 36) := ⟨_, rfl⟩
  have hF5 : Fr (fun _ => False) w4 w5 := by rw [hw5]; exact Fr.of_alloc _ _
  have Hb5 := hide (cells_at Hb4.out hF5 (fun e => e))
  have Hg5 := hide (cells_at Hg4.out hF5 (fun e => e))
  have Hp5 : Hid (w5.heap[w4.heap.size]? = some (.cells #[.int .u16 1, .int .u16 2, .int .u16 3, .int .u16 4] 36 (0, 0))) := by rw [hw5]; exact heap_alloc_at rfl
  have HF5 := hide (HF4.out.join hF5)
  have HCo := hide (colours_wake g w5 Hg5.out)
  have Hw5 := hide hw5
  clear k0 k1 k2 hF4 hF5
  have k0 := cell_of (o := 0) Hb5.out rfl
  have k1 := cell_of (o := 1) Hb5.out rfl
  have k2 := cell_of (o := 2) Hb5.out rfl
  rw [hw5] at k0 k1 k2
  clear hw5
  go_wp2_with fail
  rw [← Hw5.out]
  refine HCo.out.mono ?_
  rintro e w6 ⟨rfl, hF6⟩
  have HF6 := hide (HF5.out.join hF6)
  have Hb6 := hide (cells_at Hb5.out hF6 (fun e => e))
  have Hp6 := hide (cells_at Hp5.out hF6 (fun e => e))
  have HM := hide (may_c 2 3 (some ⟨g, 0, none⟩) 24 24 w6)
  have hmay : mayB 2 3 24 = true := by decide +kernel
  rw [hmay] at HM
  clear k0 k1 k2 hF6 hmay
  have k0 := cell_of (o := 0) Hb6.out rfl
  have k1 := cell_of (o := 1) Hb6.out rfl
  have k2 := cell_of (o := 2) Hb6.out rfl
  have p0 := cell_of (o := 0) Hp6.out rfl
  have p1 := cell_of (o := 1) Hp6.out rfl
  have p2 := cell_of (o := 2) Hp6.out rfl
  have p3 := cell_of (o := 3) Hp6.out rfl
  have hE := eq_wake
  go_wp2_with fail
  refine HM.out.mono ?_
  rintro e w7 ⟨rfl, hF7⟩
  go_wp2_with fail
  go_ret
  exact ⟨rfl, HF6.out.join hF7⟩
end Go.Proofs.Ythdilabmajaehaa
