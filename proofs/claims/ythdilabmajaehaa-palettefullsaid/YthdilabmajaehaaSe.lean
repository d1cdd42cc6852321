/-
  raster: Set of both.
-/
import Derived.Test.YthdilabmajaehaaSd
namespace Go.Proofs.Ythdilabmajaehaa
open Go.RowKit

/-- The samples with those of one pixel in their place. -/
def setP (px : List Nat) (k : Nat) (q : List Nat) : List Nat := px.take k ++ (q ++ px.drop (k + q.length))

theorem setP_length {px : List Nat} {k : Nat} {q : List Nat} (h : k + q.length ≤ px.length) : (setP px k q).length = px.length := by
  simp [setP]; omega

theorem Own.set {w : World} {lo g n c k : Nat} {px q : List Nat} {cur : Array Value} (h : Own w lo (some ⟨g, 0, none⟩) n c px) (hg : w.heap[g]? = some (.cells cur 29 (0, 0))) (hk : k + q.length ≤ n) (hq : ∀ b ∈ q, b < 65536) (h0 : 0 < n) :
    Own (w.setRow g (cur.toList.take k ++ (cellsU q ++ cur.toList.drop (k + q.length))).toArray) lo (some ⟨g, 0, none⟩) n c (setP px k q) := by
  have hl := h.len
  obtain ⟨g', cur', e, hlo, hh, hc, hs, ht⟩ := h.form h0
  cases e
  rw [hg] at hh
  cases hh
  have hm : n ≤ c ∧ c ≤ maxLen := by
    rcases h.own.2 with ⟨e, _⟩ | ⟨g', cap, cur', hv, hg', hh, hc, hm, hs, ht⟩
    · cases e
    · cases hv; exact ⟨hc, hm⟩
  refine ⟨⟨by rw [cellsU_length, setP_length (by omega)]; omega, Or.inr ⟨g, c, _, rfl, hlo, setRow_heap w g _ _ 29 _ hg, hm.1, hm.2, by simp [cellsU_length]; omega, ?_⟩⟩, ?_⟩
  · have e1 : cur.toList = cellsU px ++ cur.toList.drop n := by rw [← ht]; exact (List.take_append_drop n _).symm
    have e2 : (cellsU px).length = n := by rw [cellsU_length]; exact hl
    rw [Nat.mul_one]
    show List.take n (List.take k cur.toList ++ (cellsU q ++ List.drop (k + q.length) cur.toList)) = _
    have t1 : List.take k (cellsU px ++ List.drop n cur.toList) = List.take k (cellsU px) := List.take_append_of_le_length (by omega)
    have t2 : List.drop (k + q.length) (cellsU px ++ List.drop n cur.toList) = List.drop (k + q.length) (cellsU px) ++ List.drop n cur.toList := List.drop_append_of_le_length (by omega)
    have t3 : List.take k cur.toList = List.take k (cellsU px) := by rw [← t1, ← e1]
    have t4 : List.drop (k + q.length) cur.toList = List.drop (k + q.length) (cellsU px) ++ List.drop n cur.toList := by rw [← t2, ← e1]
    rw [t3, t4]
    have e3 : List.take k (cellsU px) ++ (cellsU q ++ (List.drop (k + q.length) (cellsU px) ++ List.drop n cur.toList)) = cellsU (setP px k q) ++ List.drop n cur.toList := by
      simp [cellsU, setP, List.map_take, List.map_drop]
    rw [e3]
    have e4 : (cellsU (setP px k q)).length = n := by rw [cellsU_length, setP_length (by omega)]; exact hl
    rw [List.take_append_of_le_length (by omega), List.take_of_length_le (by omega)]
  · intro b hb
    simp only [setP, List.mem_append] at hb
    rcases hb with hb | hb | hb
    · exact h.small b (List.mem_of_mem_take hb)
    · exact hq b hb
    · exact h.small b (List.mem_of_mem_drop hb)

/-- A pixel as cells. -/
abbrev pxV (q0 q1 q2 q3 : Nat) : Array Value := #[.int .u16 (q0 : Int), .int .u16 (q1 : Int), .int .u16 (q2 : Int), .int .u16 (q3 : Int)]

set_option maxHeartbeats 100000 in
theorem set_no (W H x y : Int) (a : Option Addr) (n c : Nat) (q0 q1 q2 q3 : Nat) (w : World) (h : inB W H n x y = false) :
    Calls Try.prog 18 #[rasV W H a n c, .int .i64 x, .int .i64 y, .agg (pxV q0 q1 q2 q3)] w fun e w' => e = .returned (.bool false) ∧ Fr (fun _ => False) w w' := by
  obtain ⟨w1, hw1⟩ : ∃ w1, w1 = (w.alloc (.cells #[.int .i64 W, .int .i64 H, .slice a n c] 24)).alloc (.cells (pxV q0 q1 q2 q3) 36) := ⟨_, rfl⟩
  have HP := hide (pixel_no W H x y a n c w1 h)
  have hF : Fr (fun _ => False) w w1 := by rw [hw1]; exact (Fr.of_alloc _ _).join (Fr.of_alloc _ _)
  have HF := hide hF
  have Hw1 := hide hw1
  clear hF hw1 h
  go_enter Try.func18, Try.ntmps18
  go_wp2_with fail
  rw [← Hw1.out]
  refine HP.out.mono ?_
  rintro e w2 ⟨rfl, hF2⟩
  have HF2 := hide (HF.out.join hF2)
  clear hF2
  go_wp2_with fail
  go_ret
  exact ⟨rfl, HF2.out⟩

set_option maxHeartbeats 100000 in
theorem set_yes (W H x y : Int) (lo g : Nat) (px : List Nat) (n c k : Nat) (q0 q1 q2 q3 : Nat) (w : World) (h : inB W H n x y = true) (hk : (k : Int) = 4 * (y * W + x)) (hk4 : k + 4 ≤ n) (hl : Own w lo (some ⟨g, 0, none⟩) n c px) (hq : ∀ b ∈ [q0, q1, q2, q3], b < 65536) :
    Calls Try.prog 18 #[rasV W H (some ⟨g, 0, none⟩) n c, .int .i64 x, .int .i64 y, .agg (pxV q0 q1 q2 q3)] w fun e w' => e = .returned (.bool true) ∧ Fr (fun j => j = g) w w' ∧ Own w' lo (some ⟨g, 0, none⟩) n c (setP px k [q0, q1, q2, q3]) := by
  obtain ⟨hm, hx, hy⟩ := inB_true h
  obtain ⟨hs, hn⟩ := mayB_true hm
  obtain ⟨g', cur, e, hlo, hg, hc, hcs, ht⟩ := hl.form (by omega)
  cases e
  obtain ⟨w1, hw1⟩ : ∃ w1, w1 = (w.alloc (.cells #[.int .i64 W, .int .i64 H, .slice (some ⟨g, 0, none⟩) n c] 24)).alloc (.cells (pxV q0 q1 q2 q3) 36) := ⟨_, rfl⟩
  have HP := hide (pixel_c W H x y ⟨g, 0, none⟩ n c k w1 hs hn hc hx hy hk hk4)
  rw [add_none, Nat.zero_add] at HP
  have hb : w1.heap[w.heap.size + 1]? = some (.cells (cellsU [q0, q1, q2, q3]).toArray 36 (0, 0)) := by rw [hw1]; exact heap_alloc_at (by simp)
  have hF : Fr (fun _ => False) w w1 := by rw [hw1]; exact (Fr.of_alloc _ _).join (Fr.of_alloc _ _)
  have Hb := hide hb
  have HF := hide hF
  have Hw1 := hide hw1
  have Hg := hide hg
  have Hl := hide hl
  have Hq := hide hq
  have Hk := hide hk4
  have Hcs := hide hcs
  have Hc := hide hc
  clear hs hn hx hy hk hb hF hw1 hg hk4 hl hq hcs ht hm h hc
  go_enter Try.func18, Try.ntmps18
  go_wp2_with fail
  rw [← Hw1.out]
  refine HP.out.mono ?_
  rintro e w2 ⟨rfl, hF2⟩
  have HF2 := hide (HF.out.join hF2)
  have Hb2 := hide (cells_at Hb.out hF2 (fun e => e))
  have Hg2 := hide (cells_at Hg.out HF2.out (fun e => e))
  have Hl2 := hide (Hl.out.keep HF2.out fun _ _ e => e)
  clear hF2
  have hmin : Nat.min 4 4 = 4 := rfl
  have HSrc : Hid (∀ j v, (cellsU [q0, q1, q2, q3])[j]? = some v → w2.cell? ((⟨w.heap.size + 1, 0, none⟩ : Addr).add j) = some v) := fun j v hj => by
    rw [add_none, Nat.zero_add]
    exact cell_of Hb2.out (by rw [← Array.getElem?_toList]; exact hj)
  have HQ : Hid (∀ w3, w3 = w2.setRow g (cur.toList.take k ++ (cellsU [q0, q1, q2, q3] ++ cur.toList.drop (k + 4))).toArray → Fr (fun j => j = g) w w3 ∧ Own w3 lo (some ⟨g, 0, none⟩) n c (setP px k [q0, q1, q2, q3])) := by
    rintro w3 rfl
    exact ⟨(HF2.out.mono fun _ _ e => e.elim).join (setRow_fr _ _ _), Hl2.out.set Hg2.out Hk.out Hq.out (by have := Hk.out; omega)⟩
  go_wp2_with (refine wpList_copy_own rfl (.tmp 20) (.tmp 21) 22 22 rfl 29 Try.underlying22 (by kernel_rfl) g k 4 (c - k) ⟨w.heap.size + 1, 0, none⟩ 4 4 rfl rfl cur 29 Hg2.out (cellsU [q0, q1, q2, q3]) rfl HSrc.out (by have h1 := Hk.out; have h2 := Hcs.out; have h3 := Hc.out; show k + 4 ≤ cur.size; omega) (cellsU_one _) ?_
               obtain ⟨w3, hw3⟩ : ∃ w3, w3 = w2.setRow g (cur.toList.take k ++ (cellsU [q0, q1, q2, q3] ++ cur.toList.drop (k + 4))).toArray := ⟨_, rfl⟩
               have h3 := HQ.out w3 hw3
               have H3 := hide h3
               show wpList _ _ _ _ _ (w2.setRow g (cur.toList.take k ++ (cellsU [q0, q1, q2, q3] ++ cur.toList.drop (k + 4))).toArray)
               rw [← hw3]
               clear h3 hw3)
  go_ret
  exact ⟨rfl, H3.out⟩

end Go.Proofs.Ythdilabmajaehaa
