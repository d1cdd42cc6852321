/-
  palette: awake.
-/
import Derived.Test.YthdilabmajaehaaYg
namespace Go.Proofs.Ythdilabmajaehaa
open Go.RowKit

set_option maxHeartbeats 1000000 in
set_option maxRecDepth 100000 in
theorem awake10_c (w : World) : Calls Try.prog 25 #[] w fun e w' => e = .returned (.bool true) ∧ Fr (fun _ => False) w w' := by
  obtain ⟨f1, f2, f3, f4, f5, f6, f7, f8, f9, f10⟩ := ex_facts
  have HN := hide (rnew_c 2 1 w)
  have F1 := hide f1
  have F2 := hide f2
  have F3 := hide f3
  have F4 := hide f4
  have F5 := hide f5
  have F6 := hide f6
  have F8 := hide f8
  have F9 := hide f9
  have F10 := hide f10
  have F7 := hide f7
  clear f1 f2 f3 f4 f5 f6 f7 f8 f9 f10
  go_enter Try.func25, Try.ntmps25
  go_wp2_with fail
  refine HN.out.mono ?_
  rintro e w1 ⟨v, er, rfl, hD⟩
  have hF1 := hD.fr
  rcases hD.out with ⟨h, _⟩ | ⟨_, rfl, n, g, hn, rfl, hgl, hg⟩
  · exact absurd F7.out h
  obtain rfl : n = 8 := by omega
  clear hD hn
  obtain ⟨R, hR⟩ : ∃ R, R = w1.heap.size := ⟨_, rfl⟩
  obtain ⟨w2, hw2⟩ : ∃ w2, w2 = w1.alloc (.cells #[.int .i64 2, .int .i64 1, .slice (some ⟨g, 0, none⟩) 8 8] 24) := ⟨_, rfl⟩
  have hF2 : Fr (fun _ => False) w1 w2 := by rw [hw2]; exact Fr.of_alloc _ _
  have hb2 : w2.heap[R]? = some (.cells #[.int .i64 2, .int .i64 1, .slice (some ⟨g, 0, none⟩) 8 8] 24 (0, 0)) := by rw [hw2]; exact heap_alloc_at hR
  have hO2 : Own w2 w.heap.size (some ⟨g, 0, none⟩) 8 8 (List.replicate 8 0) := by
    refine ⟨⟨by simp [cellsU], Or.inr ⟨g, 8, _, rfl, hgl, cells_at hg hF2 (fun e => e), Nat.le_refl _, by decide, by simp [cellsU], ?_⟩⟩, fun b hb => ?_⟩
    · rw [Nat.mul_one, List.take_of_length_le (by simp [cellsU])]
    · rw [(List.mem_replicate.1 hb).2]; decide
  have hgR : g < R := by rw [hR]; exact lt_of hg
  have k2 := cell_of (o := 2) hb2 rfl
  have z0 := hO2.lies.cell (j := 3) (by simp)
  have z1 : w2.frozen? ⟨g, 3, none⟩ = false := frozen_of (cells_at hg hF2 (fun e => e))
  rw [hw2, hR] at k2
  rw [Nat.zero_add, hw2] at z0
  rw [hw2] at z1
  obtain ⟨w3, hw3⟩ : ∃ w3, w3 = w2.setCell ⟨g, 3, none⟩ (.int .u16 65535) := ⟨_, rfl⟩
  have hO3 : Own w3 w.heap.size (some ⟨g, 0, none⟩) 8 8 exP := by rw [hw3]; exact hO2.set1 (v := 65535) (by decide)
  have hF3 : Fr (fun j => j = g) w2 w3 := by rw [hw3]; exact Fr.of_setCell w2 ⟨g, 3, none⟩ _
  have hb3 := cells_at hb2 hF3 (fun e => by have e2 : R = g := e; omega)
  have HF3 := hide (frJ (hF1.join hF2) hF3 (fun j hj => by have e : j = g := hj; omega))
  have HO3 := hide hO3
  have Hb3 := hide hb3
  have HR := hide hR
  have HMk := hide (make_yes 2 1 g 0 8 8 2 exP w3 hO3.lies rfl (Nat.le_refl _) F9.out rfl F1.out hO3.lt.2)
  have j2 := cell_of (o := 2) hb3 rfl
  have j0 := cell_of (o := 0) hb3 rfl
  have j1 := cell_of (o := 1) hb3 rfl
  have Hw3 := hide hw3
  have Hw2 := hide hw2
  rw [hw3, hw2, hR] at j0 j1 j2
  clear hF1 hgl hg hF2 hb2 hO2 hgR hO3 hF3 hb3 hR hw2 hw3
  go_wp2_with fail
  rw [← Hw2.out, ← Hw3.out, ← HR.out]
  refine HMk.out.mono ?_
  rintro e w4 ⟨hF4, v1, v2, rfl, ho7, ho8⟩
  clear k2 z0 z1 j0 j1 j2
  obtain ⟨a7, c7, rfl⟩ := ownsRow_shape ho7.own
  obtain ⟨a8, c8, rfl⟩ := ownsRow_shape ho8
  have hg7 := uniq_good HO3.out.small 2
  rw [F4.out]
  rw [F2.out] at ho7 hg7 ⊢
  rw [F3.out] at ho8 ⊢
  have hcol := ho7.cols hg7
  have hbys := ho8.bys (by decide)
  have HF4 := hide (HF3.out.join hF4)
  have HO4 := hide (HO3.out.keep hF4 fun _ _ h => h)
  have Hb4 := hide (cells_at Hb3.out hF4 (fun e => e))
  obtain ⟨w5, hw5⟩ : ∃ w5, w5 = w4.alloc (.cells #[.slice a7 2 c7, .int .i64 1] 44) := ⟨_, rfl⟩
  obtain ⟨PB, hPB⟩ : ∃ R, R = w4.heap.size := ⟨_, rfl⟩
  have hF5 : Fr (fun _ => False) w4 w5 := by rw [hw5]; exact Fr.of_alloc _ _
  have hP5 : w5.heap[PB]? = some (.cells #[.slice a7 2 c7, .int .i64 1] 44 (0, 0)) := by rw [hw5]; exact heap_alloc_at hPB
  have HF5 := hide (HF4.out.join hF5)
  have HO5 := hide (HO4.out.keep hF5 fun _ _ h => h)
  have Hb5 := hide (cells_at Hb4.out hF5 (fun e => e))
  have HC5 := hide (Cols.fr hcol hF5 (fun _ _ _ h => h))
  have HB5 := hide (Bys.fr hbys hF5 (fun _ _ _ h => h))
  have HD5 := hide (draw_c 2 1 1 a7 2 c7 [[0, 0, 0, 65535], [0, 0, 0, 0]] a8 2 c8 [0, 1] w5 HC5.out HB5.out (by decide))
  have HP5 := hide hP5
  have Hw5 := hide hw5
  have HPB := hide hPB
  have p0 := cell_of (o := 0) hP5 rfl
  have p1 := cell_of (o := 1) hP5 rfl
  rw [hw5, hPB] at p0 p1
  clear hF4 ho7 ho8 hg7 hcol hbys hF5 hP5 hw5 hPB
  go_wp2_with fail
  rw [← Hw5.out, ← HPB.out]
  refine HD5.out.mono ?_
  rintro e w6 ⟨hF6, ⟨h, _⟩ | ⟨_, g6, rfl, hO6⟩⟩
  · exact absurd F5.out h
  clear p0 p1
  rw [F6.out] at hO6
  obtain ⟨w7, hw7⟩ : ∃ w7, w7 = w6.alloc (.cells #[.int .i64 2, .int .i64 1, .slice (some ⟨g6, 0, none⟩) 8 8] 24) := ⟨_, rfl⟩
  obtain ⟨Q, hQ⟩ : ∃ R, R = w6.heap.size := ⟨_, rfl⟩
  have hF7 : Fr (fun _ => False) w6 w7 := by rw [hw7]; exact Fr.of_alloc _ _
  have hQ7 : w7.heap[Q]? = some (.cells #[.int .i64 2, .int .i64 1, .slice (some ⟨g6, 0, none⟩) 8 8] 24 (0, 0)) := by rw [hw7]; exact heap_alloc_at hQ
  have hF57 := hF6.join hF7
  have HF7 := hide (HF5.out.join hF57)
  have HO7 := hide (HO5.out.keep hF57 fun _ _ h => h)
  have hO67 := hO6.keep hF7 fun _ _ h => h
  have hb7 := cells_at Hb5.out hF57 (fun e => e)
  have hP7 := cells_at HP5.out hF57 (fun e => e)
  have hconv := str_bys (c := c8) (Bys.fr HB5.out hF57 (fun _ _ _ h => h)) (by decide)
  have hconv2 : (convert 45 9 (.slice a8 2 c8)).run Try.prog w7 = .ok (.string ⟨#[0, 1]⟩) w7 := hconv
  have HS7 := hide (rsame_c 2 1 (some ⟨g6, 0, none⟩) 8 8 exP 2 1 (some ⟨g, 0, none⟩) 8 8 exP w7 hO67.lies rfl HO7.out.lies rfl)
  rw [F8.out] at HS7
  have p0 := cell_of (o := 0) hP7 rfl
  have p1 := cell_of (o := 1) hP7 rfl
  have j0 := cell_of (o := 0) hb7 rfl
  have j1 := cell_of (o := 1) hb7 rfl
  have j2 := cell_of (o := 2) hb7 rfl
  have x0 := cell_of (o := 0) hQ7 rfl
  have x1 := cell_of (o := 1) hQ7 rfl
  have x2 := cell_of (o := 2) hQ7 rfl
  have Hw7 := hide hw7
  have HQ := hide hQ
  rw [hw7] at hconv2 p0 p1 j0 j1 j2
  rw [hw7, hQ] at x0 x1 x2
  clear hF6 hO6 hF7 hQ7 hF57 hO67 hb7 hP7 hconv hw7 hQ
  go_wp2_with fail
  rw [← Hw7.out]
  refine HS7.out.mono ?_
  rintro e w8 ⟨rfl, hF8⟩
  have HF8 := hide (HF7.out.join hF8)
  have HBt := hide (bits_c 3 w8)
  rw [F10.out] at HBt
  clear hF8 p0 p1 j0 j1 j2 x0 x1 x2 hconv2
  go_wp2_with fail
  refine HBt.out.mono ?_
  rintro e w9 ⟨rfl, rfl⟩
  go_wp2_with fail
  go_ret
  exact ⟨rfl, HF8.out⟩
end Go.Proofs.Ythdilabmajaehaa
