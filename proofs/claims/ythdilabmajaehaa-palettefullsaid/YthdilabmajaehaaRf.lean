/-
  raster: At.
-/
import Derived.Test.YthdilabmajaehaaRe
import Derived.Laws.Cover3
namespace Go.Proofs.Ythdilabmajaehaa
open Go.RowKit

theorem Try.und36 : ∃ d, Try.prog.underlying 36 = some d ∧ d.isRow = true ∧ (Try.prog.info? 36).map (·.size) = some 4 := by
  obtain ⟨d, h1, h2⟩ := row_of (P := Try.prog) (ty := 36) (by kernel_rfl)
  exact ⟨d, h1, h2, by kernel_rfl⟩

set_option maxHeartbeats 100000 in
theorem at_c (W H x y : Int) (g : Nat) (cur : List Value) (n k : Nat) (p0 p1 p2 p3 : Int) (w : World) (hs : sizeE W H = 0) (hn : (n : Int) = 4 * W * H) (hx : 0 ≤ x ∧ x < W) (hy : 0 ≤ y ∧ y < H) (hk : (k : Int) = 4 * (y * W + x)) (hk4 : k + 4 ≤ n)
    (hg : w.heap[g]? = some (.cells cur.toArray 29 (0, 0))) (h0 : cur[k]? = some (.int .u16 p0)) (h1 : cur[k + 1]? = some (.int .u16 p1)) (h2 : cur[k + 2]? = some (.int .u16 p2)) (h3 : cur[k + 3]? = some (.int .u16 p3)) :
    Calls Try.prog 19 #[rasV W H (some ⟨g, 0, none⟩) n n, .int .i64 x, .int .i64 y] w fun e w' => e = .returned (.tuple #[.agg #[.int .u16 p0, .int .u16 p1, .int .u16 p2, .int .u16 p3], .bool true]) ∧ Fr (fun _ => False) w w' := by
  obtain ⟨w1, hw1⟩ : ∃ w1, w1 = (w.alloc (.cells #[.int .i64 W, .int .i64 H, .slice (some ⟨g, 0, none⟩) n n] 24)).alloc (.cells #[.int .u16 0, .int .u16 0, .int .u16 0, .int .u16 0] 36) := ⟨_, rfl⟩
  have HP := hide (pixel_c W H x y ⟨g, 0, none⟩ n n k w1 hs hn (Nat.le_refl _) hx hy hk hk4)
  rw [add_none, Nat.zero_add] at HP
  have hb : w1.heap[w.heap.size + 1]? = some (.cells #[.int .u16 0, .int .u16 0, .int .u16 0, .int .u16 0] 36 (0, 0)) := by rw [hw1]; exact heap_alloc_at (by simp)
  have hF : Fr (fun _ => False) w w1 := by rw [hw1]; exact (Fr.of_alloc _ _).join (Fr.of_alloc _ _)
  have Hb := hide hb
  have HF := hide hF
  have Hw1 := hide hw1
  have Hg := hide hg
  have H0 := hide (And.intro h0 (And.intro h1 (And.intro h2 h3)))
  clear hs hn hx hy hk hb hF hw1 hg hk4 h0 h1 h2 h3
  go_enter Try.func19, Try.ntmps19
  go_wp2_with fail
  rw [← Hw1.out]
  refine HP.out.mono ?_
  rintro e w2 ⟨rfl, hF2⟩
  have HF2 := hide (HF.out.join hF2)
  have hb2 := cells_at Hb.out hF2 (fun e => e)
  have hg2 := cells_at Hg.out HF2.out (fun e => e)
  have c0 : w2.cell? ⟨g, k, none⟩ = some (.int .u16 p0) := cell_of hg2 (by rw [← Array.getElem?_toList]; exact H0.out.1)
  have c1 : w2.cell? ⟨g, k + 1, none⟩ = some (.int .u16 p1) := cell_of hg2 (by rw [← Array.getElem?_toList]; exact H0.out.2.1)
  have c2 : w2.cell? ⟨g, k + 2, none⟩ = some (.int .u16 p2) := cell_of hg2 (by rw [← Array.getElem?_toList]; exact H0.out.2.2.1)
  have c3 : w2.cell? ⟨g, k + 3, none⟩ = some (.int .u16 p3) := cell_of hg2 (by rw [← Array.getElem?_toList]; exact H0.out.2.2.2)
  have d0 := cell_of (o := 0) hb2 rfl
  have f0 := frozen_of (o := 0) hb2
  have d1 := cell_of (o := 1) hb2 rfl
  have f1 := frozen_of (o := 1) hb2
  have d2 := cell_of (o := 2) hb2 rfl
  have f2 := frozen_of (o := 2) hb2
  have d3 := cell_of (o := 3) hb2 rfl
  have f3 := frozen_of (o := 3) hb2
  have HB2 := hide hb2
  clear hF2 hb2 hg2
  have hA : ∀ W : World, (Instr.arrayAt 36 (.slice (some ⟨g, k, none⟩) 4 (n - k))).run Try.prog W = .ok (.pointer (some ⟨g, k, none⟩)) W := fun W => run_arrayAt (P := Try.prog) (w := W) 36 29 4 (some ⟨g, k, none⟩) 4 (n - k) (by kernel_rfl) (by decide)
  go_wp2_with fail
  obtain ⟨d, u1, u2, u3⟩ := Try.und36
  obtain ⟨B, hB⟩ : ∃ B, B = w.heap.size + 1 := ⟨_, rfl⟩
  have hb0 := HB2.out
  rw [← hB] at hb0 ⊢
  have e1 := heap_setCell_own (o := 3) (.int .u16 p3) (heap_setCell_own (o := 2) (.int .u16 p2) (heap_setCell_own (o := 1) (.int .u16 p1) (heap_setCell_own (o := 0) (.int .u16 p0) hb0)))
  have hf9 := (((Fr.of_setCell w2 ⟨B, 0, none⟩ (.int .u16 p0)).join (Fr.of_setCell _ ⟨B, 1, none⟩ (.int .u16 p1))).join (Fr.of_setCell _ ⟨B, 2, none⟩ (.int .u16 p2))).join (Fr.of_setCell _ ⟨B, 3, none⟩ (.int .u16 p3))
  obtain ⟨w9, hw9⟩ : ∃ w9, w9 = (((w2.setCell ⟨B, 0, none⟩ (.int .u16 p0)).setCell ⟨B, 1, none⟩ (.int .u16 p1)).setCell ⟨B, 2, none⟩ (.int .u16 p2)).setCell ⟨B, 3, none⟩ (.int .u16 p3) := ⟨_, rfl⟩
  rw [← hw9] at e1 hf9 ⊢
  have hb9 : w9.heap[B]? = some (.cells [.int .u16 p0, .int .u16 p1, .int .u16 p2, .int .u16 p3].toArray 36 (0, 0)) := e1
  have hld := run_loadVar_mid (P := Try.prog) w9 B 0 36 [.int .u16 p0, .int .u16 p1, .int .u16 p2, .int .u16 p3] d (rangeAt_cells hb9) u1 u2 u3
  have hfin : Fr (fun _ => False) w w9 := frJ HF2.out hf9 fun j hj => by
    have e : j = B := hj
    omega
  exact bodyPost_ret (results_two (t := 6) (s := 7) Try.results19 rfl hld rfl) rfl ⟨rfl, hfin⟩
end Go.Proofs.Ythdilabmajaehaa
