/-
  raster: keys.
-/
import Derived.Test.YthdilabmajaehaaRi
namespace Go.Proofs.Ythdilabmajaehaa
open Go.RowKit

/-- The keys behind j samples. -/
def keyF (m : Nat) (px : List Nat) : Nat → List Int
  | 0 => List.replicate m 0
  | j + 1 => (keyF m px j).set (j / 4) (bits .or .u64 (IntKind.u64.wrap ((keyF m px j).getD (j / 4) 0 * 65536)) (IntKind.u64.wrap ((px.getD j 0 : Nat) : Int)))

theorem keyF_length (m : Nat) (px : List Nat) (j : Nat) : (keyF m px j).length = m := by
  induction j with
  | zero => simp [keyF]
  | succ j ih => simp [keyF, ih]

set_option maxHeartbeats 200000 in
set_option maxRecDepth 100000 in
theorem keys_c (W H : Int) (g n m : Nat) (px : List Nat) (w : World) (hs : sizeE W H = 0) (hn : (n : Int) = 4 * W * H) (hm : (m : Int) = W * H) (hg : w.heap[g]? = some (.cells (cellsU px).toArray 29 (0, 0))) (hpx : px.length = n) :
    Calls Try.prog 35 #[rasV W H (some ⟨g, 0, none⟩) n n] w fun e w' => ∃ h, e = .returned (.slice (some ⟨h, 0, none⟩) m m) ∧ w'.heap[h]? = some (.cells (cellsQ (keyF m px n)).toArray 65 (0, 0)) ∧ w.heap.size ≤ h ∧ Fr (fun _ => False) w w' := by
  obtain ⟨h1, h2, h3, h4, h5⟩ := size_ok hs
  have e4 : 4 * W * H = 4 * (W * H) := Int.mul_assoc _ _ _
  have hnm : n = 4 * m := by omega
  have hmb : m ≤ 16384 := by omega
  have q1 : wrap64 (m : Int) = (m : Int) := wrap64_id _ (by omega) (by omega)
  have hm2 : W * H = (m : Int) := hm.symm
  have hmk := makeQ m (by omega)
  obtain ⟨w1, hw1⟩ : ∃ w1, w1 = w.alloc (.cells #[.int .i64 W, .int .i64 H, .slice (some ⟨g, 0, none⟩) n n] 24) := ⟨_, rfl⟩
  have hb1 : w1.heap[w.heap.size]? = some (.cells #[.int .i64 W, .int .i64 H, .slice (some ⟨g, 0, none⟩) n n] 24 (0, 0)) := by rw [hw1]; exact heap_alloc_at rfl
  have hF1 : Fr (fun _ => False) w w1 := by rw [hw1]; exact Fr.of_alloc _ _
  have hsz1 : w1.heap.size = w.heap.size + 1 := by rw [hw1]; simp
  obtain ⟨w2, hw2⟩ : ∃ w2, w2 = w1.alloc (.cells (cellsQ (List.replicate m 0)).toArray 65) := ⟨_, rfl⟩
  have hF2 : Fr (fun _ => False) w1 w2 := by rw [hw2]; exact Fr.of_alloc _ _
  obtain ⟨h, hh⟩ : ∃ h, h = w.heap.size + 1 := ⟨_, rfl⟩
  have hb2 : w2.heap[h]? = some (.cells (cellsQ (keyF m px 0)).toArray 65 (0, 0)) := by rw [hw2]; exact heap_alloc_at (by omega)
  have hbr := cells_at hb1 hF2 (fun e => e)
  have k0 := cell_of (o := 0) hb1 rfl
  have k1 := cell_of (o := 1) hb1 rfl
  have k2 := cell_of (o := 2) hbr rfl
  have Hnm := hide hnm
  have hgl := lt_of hg
  have Hgh : Hid (g ≠ h) := by show _ ≠ _; omega
  have hn5 : n ≤ 65536 := by omega
  have hni : (n : Int) ≤ 65536 := by omega
  have Hg := hide hg
  have Hpx := hide hpx
  have Hb2 := hide hb2
  have HF := hide (hF1.join hF2)
  have Hw1 := hide hw1
  have Hw2 := hide hw2
  have Hh := hide hh
  have Hsz := hide hsz1
  have Hbr := hide hbr
  clear hs hn hm e4 h5 hg hpx hb1 hF1 hw1 hF2 hw2 hb2 hbr hh hsz1 h1 h2 h3 h4 hnm hgl
  go_enter Try.func35, Try.ntmps35
  go_wp2_with fail
  rw [← Hw1.out, ← Hw2.out, ← Hh.out]
  go_loopw [4, 5, 15] (fun _ _ v15 wr => ∃ j : Nat, v15 = .int .i64 (j : Int) ∧ j ≤ n ∧ Hid (wr.heap[h]? = some (.cells (cellsQ (keyF m px j)).toArray 65 (0, 0))) ∧ Hid (Fr (fun i => i = h) w2 wr)) (fun _ _ v15 _ => n - (intOf v15).toNat)
  case atStart => exact ⟨0, rfl, Nat.zero_le _, Hb2.out, Fr.refl _ _⟩
  case round =>
    obtain ⟨j, rfl, hj, HB, HFr⟩ := hrel
    by_cases hlt : j < n
    · have hji : (j : Int) < (n : Int) := by omega
      obtain ⟨s, hsd⟩ : ∃ s, s = px.getD j 0 := ⟨_, rfl⟩
      have hgr := cells_at (cells_at Hg.out HF.out (fun e => e)) HFr.out (fun e => Hgh.out e)
      have cs : wr.cell? ⟨g, j, none⟩ = some (.int .u16 (s : Int)) := cell_of hgr (by
        rw [← Array.getElem?_toList, hsd]
        simp [cellsU, List.getElem?_eq_getElem (show j < px.length by have := Hpx.out; omega), List.getD_eq_getElem?_getD])
      obtain ⟨q, hq⟩ : ∃ q, q = j / 4 := ⟨_, rfl⟩
      have hqt : (j : Int).tdiv 4 = (q : Int) := by rw [Int.tdiv_eq_ediv_of_nonneg (by omega), hq]; simp
      have hqm : q < m := by have := Hnm.out; omega
      have hqmi : (q : Int) < (m : Int) := by omega
      have qq : wrap64 (q : Int) = (q : Int) := wrap64_id _ (by omega) (by omega)
      obtain ⟨A, hA⟩ : ∃ A, A = (keyF m px j).getD q 0 := ⟨_, rfl⟩
      have hbq := HB.out
      have cq : wr.cell? ⟨h, q, none⟩ = some (.int .u64 A) := cell_of hbq (by
        rw [← Array.getElem?_toList, hA]
        simp [cellsQ, List.getElem?_eq_getElem (show q < (keyF m px j).length by rw [keyF_length]; exact hqm), List.getD_eq_getElem?_getD])
      have fq := frozen_of (o := q) hbq
      have Hsd := hide hsd
      have HA := hide hA
      have Hq := hide hq
      clear hgr hbq hsd hA hq
      go_wp2_with fail
      refine ⟨⟨j + 1, by go_num, by omega, ?_, HFr.out.join (Fr.of_setCell wr ⟨h, q, none⟩ _)⟩, by simp [intOf]; omega⟩
      have e1 := heap_setCell_own (o := q) (.int .u64 (bits .or .u64 (IntKind.u64.wrap (A * 65536)) (IntKind.u64.wrap (s : Int)))) HB.out
      show _ = _
      rw [e1]
      have e2 : keyF m px (j + 1) = (keyF m px j).set q (bits .or .u64 (IntKind.u64.wrap (A * 65536)) (IntKind.u64.wrap (s : Int))) := by rw [HA.out, Hsd.out, Hq.out]; rfl
      rw [e2]
      simp [cellsQ, List.map_set]
    · have hji : ¬ (j : Int) < (n : Int) := by omega
      have e : j = n := by omega
      go_wp2_with fail
      go_ret
      refine ⟨h, rfl, by rw [← e]; exact HB.out, by rw [Hh.out]; exact Nat.le_succ _, frJ HF.out HFr.out fun i hi => ?_⟩
      have e2 : i = h := hi
      rw [e2, Hh.out]
      exact Nat.le_succ _
end Go.Proofs.Ythdilabmajaehaa
