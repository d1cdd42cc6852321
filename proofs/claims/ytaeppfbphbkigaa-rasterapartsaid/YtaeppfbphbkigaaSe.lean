/-
  raster: Set of both.
-/
import Derived.Test.YtaeppfbphbkigaaSd
namespace Go.Proofs.Ytaeppfbphbkigaa
open Go.RowKit

/-- The samples with those of one pixel in their place. -/
def setP (px : List Nat) (k : Nat) (q : List Nat) : List Nat := px.take k ++ (q ++ px.drop (k + q.length))

theorem setP_length {px : List Nat} {k : Nat} {q : List Nat} (h : k + q.length ≤ px.length) : (setP px k q).length = px.length := by
  simp [setP]; omega

theorem Own.set {w : World} {lo g n c k : Nat} {px q : List Nat} {cur : Array Value} (h : Own w lo (some ⟨g, 0, none⟩) n c px) (hg : w.heap[g]? = some (.cells cur 26 (0, 0))) (hk : k + q.length ≤ n) (hq : ∀ b ∈ q, b < 65536) (h0 : 0 < n) :
    Own (w.setRow g (cur.toList.take k ++ (cellsU q ++ cur.toList.drop (k + q.length))).toArray) lo (some ⟨g, 0, none⟩) n c (setP px k q) := by
  have hl := h.len
  obtain ⟨g', cur', e, hlo, hh, hc, hs, ht⟩ := h.form h0
  cases e
  rw [hg] at hh
  cases hh
  have hm : n ≤ c ∧ c ≤ maxLen := by
    rcases h.own.2 with ⟨e, _⟩ | ⟨g', cap, cur', hv, hg', hh, hc, hm, hs, ht⟩
    · cases e
    · cases hv; exact ⟨hc, hm⟩
  refine ⟨⟨by rw [cellsU_length, setP_length (by omega)]; omega, Or.inr ⟨g, c, _, rfl, hlo, setRow_heap w g _ _ 26 _ hg, hm.1, hm.2, by simp [cellsU_length]; omega, ?_⟩⟩, ?_⟩
  · have e1 : cur.toList = cellsU px ++ cur.toList.drop n := by rw [← ht]; exact (List.take_append_drop n _).symm
    have e2 : (cellsU px).length = n := by rw [cellsU_length]; exact hl
    rw [Nat.mul_one]
    show List.take n (List.take k cur.toList ++ (cellsU q ++ List.drop (k + q.length) cur.toList)) = _
    have t1 : List.take k (cellsU px ++ List.drop n cur.toList) = List.take k (cellsU px) := List.take_append_of_le_length (by omega)
    have t2 : List.drop (k + q.length) (cellsU px ++ List.drop n cur.toList) = List.drop (k + q.length) (cellsU px) ++ List.drop n cur.toList := List.drop_append_of_le_length (by omega)
    have t3 : List.take k cur.toList = List.take k (cellsU px) := by rw [← t1, ← e1]
    have t4 : List.drop (k + q.length) cur.toList = List.drop (k + q.length) (cellsU px) ++ List.drop n cur.toList := by rw [← t2, ← e1]
    rw [t3, t4]
    have e3 : List.take k (cellsU px) ++ (cellsU q ++ (List.drop (k + q.length) (cellsU px) ++ List.drop n cur.toList)) = cellsU (setP px k q) ++ List.drop n cur.toList := by
      simp [cellsU, setP, List.map_take, List.map_drop]
    rw [e3]
    have e4 : (cellsU (setP px k q)).length = n := by rw [cellsU_length, setP_length (by omega)]; exact hl
    rw [List.take_append_of_le_length (by omega), List.take_of_length_le (by omega)]
  · intro b hb
    simp only [setP, List.mem_append] at hb
    rcases hb with hb | hb | hb
    · exact h.small b (List.mem_of_mem_take hb)
    · exact hq b hb
    · exact h.small b (List.mem_of_mem_drop hb)

/-- A pixel as cells. -/
abbrev pxV (q0 q1 q2 q3 : Nat) : Array Value := #[.int .u16 (q0 : Int), .int .u16 (q1 : Int), .int .u16 (q2 : Int), .int .u16 (q3 : Int)]

set_option maxHeartbeats 100000 in
theorem set_no (W H x y : Int) (a : Option Addr) (n c : Nat) (q0 q1 q2 q3 : Nat) (w : World) (h : inB W H n x y = false) :
    Calls Try.prog 17 #[rasV W H a n c, .int .i64 x, .int .i64 y, .agg (pxV q0 q1 q2 q3)] w fun e w' => e = .returned (.bool false) ∧ Fr (fun _ => False) w w' := by
  obtain ⟨w1, hw1⟩ : ∃ w1, w1 = (w.alloc (.cells #[.int .i64 W, .int .i64 H, .slice a n c] 24)).alloc (.cells (pxV q0 q1 q2 q3) 27) := ⟨_, rfl⟩
  have HP := hide (pixel_no W H x y a n c w1 h)
  have hF : Fr (fun _ => False) w w1 := by rw [hw1]; exact (Fr.of_alloc _ _).join (Fr.of_alloc _ _)
  have HF := hide hF
  have Hw1 := hide hw1
  clear hF hw1 h
  go_enter Try.func17, Try.ntmps17
  go_wp2_with fail
  rw [← Hw1.out]
  refine HP.out.mono ?_
  rintro e w2 ⟨rfl, hF2⟩
  have HF2 := hide (HF.out.join hF2)
  clear hF2
  go_wp2_with fail
  go_ret
  exact ⟨rfl, HF2.out⟩

set_option maxHeartbeats 100000 in
theorem set_yes (W H x y : Int) (lo g : Nat) (px : List Nat) (n c k : Nat) (q0 q1 q2 q3 : Nat) (w : World) (h : inB W H n x y = true) (hk : (k : Int) = 4 * (y * W + x)) (hk4 : k + 4 ≤ n) (hl : Own w lo (some ⟨g, 0, none⟩) n c px) (hq : ∀ b ∈ [q0, q1, q2, q3], b < 65536) :
    Calls Try.prog 17 #[rasV W H (some ⟨g, 0, none⟩) n c, .int .i64 x, .int .i64 y, .agg (pxV q0 q1 q2 q3)] w fun e w' => e = .returned (.bool true) ∧ Fr (fun j => j = g) w w' ∧ Own w' lo (some ⟨g, 0, none⟩) n c (setP px k [q0, q1, q2, q3]) := by
  obtain ⟨hm, hx, hy⟩ := inB_true h
  obtain ⟨hs, hn⟩ := mayB_true hm
  obtain ⟨g', cur, e, hlo, hg, hc, hcs, ht⟩ := hl.form (by omega)
  cases e
  obtain ⟨w1, hw1⟩ : ∃ w1, w1 = (w.alloc (.cells #[.int .i64 W, .int .i64 H, .slice (some ⟨g, 0, none⟩) n c] 24)).alloc (.cells (pxV q0 q1 q2 q3) 27) := ⟨_, rfl⟩
  have HP := hide (pixel_c W H x y ⟨g, 0, none⟩ n c k w1 hs hn hc hx hy hk hk4)
  rw [add_none, Nat.zero_add] at HP
  have hb : w1.heap[w.heap.size + 1]? = some (.cells (cellsU [q0, q1, q2, q3]).toArray 27 (0, 0)) := by rw [hw1]; exact heap_alloc_at (by simp)
  have hF : Fr (fun _ => False) w w1 := by rw [hw1]; exact (Fr.of_alloc _ _).join (Fr.of_alloc _ _)
  have Hb := hide hb
  have HF := hide hF
  have Hw1 := hide hw1
  have Hg := hide hg
  have Hl := hide hl
  have Hq := hide hq
  have Hk := hide hk4
  have Hcs := hide hcs
  have Hc := hide hc
  clear hs hn hx hy hk hb hF hw1 hg hk4 hl hq hcs ht hm h hc
  go_enter Try.func17, Try.ntmps17
  go_wp2_with fail
  rw [← Hw1.out]
  refine HP.out.mono ?_
  rintro e w2 ⟨rfl, hF2⟩
  have HF2 := hide (HF.out.join hF2)
  have Hb2 := hide (cells_at Hb.out hF2 (fun e => e))
  have Hg2 := hide (cells_at Hg.out HF2.out (fun e => e))
  have Hl2 := hide (Hl.out.keep HF2.out fun _ _ e => e)
  clear hF2
  have hmin : Nat.min 4 4 = 4 := rfl
  have HSrc : Hid (∀ j v, (cellsU [q0, q1, q2, q3])[j]? = some v → w2.cell? ((⟨w.heap.size + 1, 0, none⟩ : Addr).add j) = some v) := fun j v hj => by
    rw [add_none, Nat.zero_add]
    exact cell_of Hb2.out (by rw [← Array.getElem?_toList]; exact hj)
  have HQ : Hid (∀ w3, w3 = w2.setRow g (cur.toList.take k ++ (cellsU [q0, q1, q2, q3] ++ cur.toList.drop (k + 4))).toArray → Fr (fun j => j = g) w w3 ∧ Own w3 lo (some ⟨g, 0, none⟩) n c (setP px k [q0, q1, q2, q3])) := by
    rintro w3 rfl
    exact ⟨(HF2.out.mono fun _ _ e => e.elim).join (setRow_fr _ _ _), Hl2.out.set Hg2.out Hk.out Hq.out (by have := Hk.out; omega)⟩
  go_wp2_with (refine wpList_copy_own rfl (.tmp 20) (.tmp 21) 22 22 rfl 26 Try.underlying22 (by kernel_rfl) g k 4 (c - k) ⟨w.heap.size + 1, 0, none⟩ 4 4 rfl rfl cur 26 Hg2.out (cellsU [q0, q1, q2, q3]) rfl HSrc.out (by have h1 := Hk.out; have h2 := Hcs.out; have h3 := Hc.out; show k + 4 ≤ cur.size; omega) (cellsU_one _) ?_
               obtain ⟨w3, hw3⟩ : ∃ w3, w3 = w2.setRow g (cur.toList.take k ++ (cellsU [q0, q1, q2, q3] ++ cur.toList.drop (k + 4))).toArray := ⟨_, rfl⟩
               have h3 := HQ.out w3 hw3
               have H3 := hide h3
               show wpList _ _ _ _ _ (w2.setRow g (cur.toList.take k ++ (cellsU [q0, q1, q2, q3] ++ cur.toList.drop (k + 4))).toArray)
               rw [← hw3]
               clear h3 hw3)
  go_ret
  exact ⟨rfl, H3.out⟩

set_option maxHeartbeats 200000 in
theorem rset_no (W H x y : Int) (a : Option Addr) (n c : Nat) (q0 q1 q2 q3 : Nat) (w : World) (h : inB W H n x y = false) :
    Calls Try.prog 18 #[rasV W H a n c, .int .i64 x, .int .i64 y, .agg (pxV q0 q1 q2 q3)] w fun e w' => e = .returned (.bool false) ∧ Fr (fun _ => False) w w' := by
  obtain ⟨w1, hw1⟩ : ∃ w1, w1 = (w.alloc (.cells #[.int .i64 W, .int .i64 H, .slice a n c] 24)).alloc (.cells (pxV q0 q1 q2 q3) 27) := ⟨_, rfl⟩
  have hba : w1.heap[w.heap.size]? = some (.cells #[.int .i64 W, .int .i64 H, .slice a n c] 24 (0, 0)) := by rw [hw1]; exact (Below.heap_alloc _ _ _ (by simp)).trans (heap_alloc_at rfl)
  have hF : Fr (fun _ => False) w w1 := by rw [hw1]; exact (Fr.of_alloc _ _).join (Fr.of_alloc _ _)
  have HM := hide (rmay_c W H a n c w1)
  have Ha := hide hba
  have HF := hide hF
  have Hw1 := hide hw1
  clear hba hF hw1
  rcases inB_false h with hm | ⟨hm, h1 | ⟨h1, h2 | ⟨h2, h3 | ⟨h3, h4⟩⟩⟩⟩
  · rw [hm] at HM
    clear h hm
    go_enter Try.func18, Try.ntmps18
    go_wp2_with fail
    rw [← Hw1.out]
    refine HM.out.mono ?_
    rintro e w2 ⟨rfl, hF2⟩
    have hb2 := cells_at Ha.out hF2 (fun e => e)
    have k0 := cell_of (o := 0) hb2 rfl
    have k1 := cell_of (o := 1) hb2 rfl
    have k2 := cell_of (o := 2) hb2 rfl
    have HF2 := hide (HF.out.join hF2)
    clear hb2 hF2
    go_wp2_with fail
    go_ret
    exact ⟨rfl, HF2.out⟩
  · rw [hm] at HM
    clear h hm
    go_enter Try.func18, Try.ntmps18
    go_wp2_with fail
    rw [← Hw1.out]
    refine HM.out.mono ?_
    rintro e w2 ⟨rfl, hF2⟩
    have hb2 := cells_at Ha.out hF2 (fun e => e)
    have k0 := cell_of (o := 0) hb2 rfl
    have k1 := cell_of (o := 1) hb2 rfl
    have k2 := cell_of (o := 2) hb2 rfl
    have HF2 := hide (HF.out.join hF2)
    clear hb2 hF2
    go_wp2_with fail
    go_ret
    exact ⟨rfl, HF2.out⟩
  · rw [hm] at HM
    clear h hm
    by_cases h3 : y < 0
    · skip
      go_enter Try.func18, Try.ntmps18
      go_wp2_with fail
      rw [← Hw1.out]
      refine HM.out.mono ?_
      rintro e w2 ⟨rfl, hF2⟩
      have hb2 := cells_at Ha.out hF2 (fun e => e)
      have k0 := cell_of (o := 0) hb2 rfl
      have k1 := cell_of (o := 1) hb2 rfl
      have k2 := cell_of (o := 2) hb2 rfl
      have HF2 := hide (HF.out.join hF2)
      clear hb2 hF2
      go_wp2_with fail
      go_ret
      exact ⟨rfl, HF2.out⟩
    · skip
      go_enter Try.func18, Try.ntmps18
      go_wp2_with fail
      rw [← Hw1.out]
      refine HM.out.mono ?_
      rintro e w2 ⟨rfl, hF2⟩
      have hb2 := cells_at Ha.out hF2 (fun e => e)
      have k0 := cell_of (o := 0) hb2 rfl
      have k1 := cell_of (o := 1) hb2 rfl
      have k2 := cell_of (o := 2) hb2 rfl
      have HF2 := hide (HF.out.join hF2)
      clear hb2 hF2
      go_wp2_with fail
      go_ret
      exact ⟨rfl, HF2.out⟩
  · rw [hm] at HM
    clear h hm
    go_enter Try.func18, Try.ntmps18
    go_wp2_with fail
    rw [← Hw1.out]
    refine HM.out.mono ?_
    rintro e w2 ⟨rfl, hF2⟩
    have hb2 := cells_at Ha.out hF2 (fun e => e)
    have k0 := cell_of (o := 0) hb2 rfl
    have k1 := cell_of (o := 1) hb2 rfl
    have k2 := cell_of (o := 2) hb2 rfl
    have HF2 := hide (HF.out.join hF2)
    clear hb2 hF2
    go_wp2_with fail
    go_ret
    exact ⟨rfl, HF2.out⟩
  · rw [hm] at HM
    clear h hm
    go_enter Try.func18, Try.ntmps18
    go_wp2_with fail
    rw [← Hw1.out]
    refine HM.out.mono ?_
    rintro e w2 ⟨rfl, hF2⟩
    have hb2 := cells_at Ha.out hF2 (fun e => e)
    have k0 := cell_of (o := 0) hb2 rfl
    have k1 := cell_of (o := 1) hb2 rfl
    have k2 := cell_of (o := 2) hb2 rfl
    have HF2 := hide (HF.out.join hF2)
    clear hb2 hF2
    go_wp2_with fail
    go_ret
    exact ⟨rfl, HF2.out⟩

set_option maxHeartbeats 200000 in
set_option maxRecDepth 100000 in
theorem rset_yes (W H x y : Int) (lo g : Nat) (px : List Nat) (n c k : Nat) (q0 q1 q2 q3 : Nat) (w : World) (h : inB W H n x y = true) (hk : (k : Int) = 4 * (y * W + x)) (hk4 : k + 4 ≤ n) (hl : Own w lo (some ⟨g, 0, none⟩) n c px) (hq : ∀ b ∈ [q0, q1, q2, q3], b < 65536) :
    Calls Try.prog 18 #[rasV W H (some ⟨g, 0, none⟩) n c, .int .i64 x, .int .i64 y, .agg (pxV q0 q1 q2 q3)] w fun e w' => e = .returned (.bool true) ∧ Fr (fun j => j = g) w w' ∧ Own w' lo (some ⟨g, 0, none⟩) n c (setP px k [q0, q1, q2, q3]) := by
  obtain ⟨hm, hx, hy⟩ := inB_true h
  obtain ⟨hs, hn⟩ := mayB_true hm
  obtain ⟨h1, h2, h3, h4, h5⟩ := size_ok hs
  have hm0 : 0 ≤ y * W := Int.mul_nonneg (by omega) (by omega)
  have hkb : k ≤ 65536 := by
    have e4 : 4 * W * H = 4 * (W * H) := Int.mul_assoc _ _ _
    omega
  obtain ⟨m, hym⟩ : ∃ m, y * W = m := ⟨_, rfl⟩
  rw [hym] at hm0 hk
  obtain ⟨j, hmj⟩ : ∃ j, m + x = j := ⟨_, rfl⟩
  rw [hmj] at hk
  have hmb : m ≤ 65536 := by omega
  have hj0 : 0 ≤ j := by omega
  have hj1 : j ≤ 65536 := by omega
  have h4j : 4 * j = (k : Int) := hk.symm
  have q1' : wrap64 m = m := wrap64_id _ (by omega) (by omega)
  have q2' : wrap64 j = j := wrap64_id _ (by omega) (by omega)
  have q3' : wrap64 (k : Int) = (k : Int) := wrap64_id _ (by omega) (by omega)
  have r1 : IntKind.i64.wrap m = m := wrap_i64_id _ (by omega) (by omega)
  have r2 : IntKind.i64.wrap j = j := wrap_i64_id _ (by omega) (by omega)
  have r3 : IntKind.i64.wrap (k : Int) = (k : Int) := wrap_i64_id _ (by omega) (by omega)
  obtain ⟨K4, hK4⟩ : ∃ K4, K4 = k + 4 := ⟨_, rfl⟩
  have hK4i : (k : Int) + 4 = (K4 : Int) := by omega
  have r4 : IntKind.i64.wrap (K4 : Int) = (K4 : Int) := wrap_i64_id _ (by omega) (by omega)
  have hKd : K4 - k = 4 := by omega
  have hKk : k ≤ K4 := by omega
  have hxl : ¬ x < 0 := by omega
  have hyl : ¬ y < 0 := by omega
  have hxg : ¬ W ≤ x := by omega
  have hyg : ¬ H ≤ y := by omega
  obtain ⟨g', cur, e, hlo, hg, hc, hcs, ht⟩ := hl.form (by omega)
  cases e
  have hck : ¬ c = k := by omega
  have hki : (K4 : Int) ≤ (c : Int) := by omega
  have hkc : K4 ≤ c := by omega
  clear hK4
  obtain ⟨w1, hw1⟩ : ∃ w1, w1 = (w.alloc (.cells #[.int .i64 W, .int .i64 H, .slice (some ⟨g, 0, none⟩) n c] 24)).alloc (.cells (pxV q0 q1 q2 q3) 27) := ⟨_, rfl⟩
  have hba : w1.heap[w.heap.size]? = some (.cells #[.int .i64 W, .int .i64 H, .slice (some ⟨g, 0, none⟩) n c] 24 (0, 0)) := by rw [hw1]; exact (Below.heap_alloc _ _ _ (by simp)).trans (heap_alloc_at rfl)
  have hb : w1.heap[w.heap.size + 1]? = some (.cells (cellsU [q0, q1, q2, q3]).toArray 27 (0, 0)) := by rw [hw1]; exact heap_alloc_at (by simp)
  have hF : Fr (fun _ => False) w w1 := by rw [hw1]; exact (Fr.of_alloc _ _).join (Fr.of_alloc _ _)
  have HM := hide (rmay_c W H (some ⟨g, 0, none⟩) n c w1)
  rw [hm] at HM
  have Ha := hide hba
  have Hb := hide hb
  have HF := hide hF
  have Hw1 := hide hw1
  have Hg := hide hg
  have Hgl := hide (lt_of hg)
  have Hl := hide hl
  have Hq := hide hq
  have Hk := hide hk4
  have Hcs := hide hcs
  have Hc := hide hc
  clear hs hn hx hy hk hba hb hF hw1 hg hl hq hcs ht hm h hc h1 h2 h3 h4 h5 hk4 hlo
  go_enter Try.func18, Try.ntmps18
  go_wp2_with fail
  rw [← Hw1.out]
  refine HM.out.mono ?_
  rintro e w2 ⟨rfl, hF2⟩
  have hb2 := cells_at Ha.out hF2 (fun e => e)
  have k0 := cell_of (o := 0) hb2 rfl
  have k1 := cell_of (o := 1) hb2 rfl
  have k2 := cell_of (o := 2) hb2 rfl
  have HA2 := hide hb2
  have Hb2 := hide (cells_at Hb.out hF2 (fun e => e))
  have HF2 := hide (HF.out.join hF2)
  have Hg2 := hide (cells_at Hg.out HF2.out (fun e => e))
  have Hl2 := hide (Hl.out.keep HF2.out fun _ _ e => e)
  clear hb2 hF2
  go_upto_region 3 with fail
  clear k0 k1 k2
  have HSrc : Hid (∀ j v, (cellsU [q0, q1, q2, q3])[j]? = some v → w2.drew.cell? ((⟨w.heap.size + 1, 0, none⟩ : Addr).add j) = some v) := fun j v hj => by
    rw [add_none, Nat.zero_add]
    exact cell_of (w := w2.drew) Hb2.out (by rw [← Array.getElem?_toList]; exact hj)
  refine wp_region_held_drew (S := fun w' => Fr (fun i => i = g) w2 w') (by kernel_rfl) (by exact Fr.drew1 _ w2) (fun hHeld => ?_)
  refine wpAnyH_take (i := 0) (v := ?v0) rfl (by kernel_rfl) (by kernel_rfl) (by kernel_rfl) (fun _ _ _ h => h) (Or.inl ⟨by rfl, ?hy0⟩) hHeld ?rest0
  case hy0 => (intro W hSw; (try dsimp only at hSw); have hcs := cells_at HA2.out hSw (fun e => absurd e (by have := Hgl.out; omega)); have k0 := cell_of (o := 0) hcs rfl; have k1 := cell_of (o := 1) hcs rfl; have k2 := cell_of (o := 2) hcs rfl; have he := add_none g 0 k; go_simp; all_goals (with_reducible rfl))
  change wpAnyH _ _ _ _ _ _ _ (Act.put _ (some 32) _) _
  simp only [Act.put, List.setIfInBounds_toArray, List.set_cons_zero, List.set_cons_succ]
  refine wpAnyH_take (i := 2) (v := ?v2) rfl (by kernel_rfl) (by kernel_rfl) (by kernel_rfl) (fun _ _ _ h => h) (Or.inl ⟨by rfl, ?hy2⟩) hHeld ?rest2
  case hy2 => (intro W hSw; (try dsimp only at hSw); have hcs := cells_at HA2.out hSw (fun e => absurd e (by have := Hgl.out; omega)); have k0 := cell_of (o := 0) hcs rfl; have k1 := cell_of (o := 1) hcs rfl; have k2 := cell_of (o := 2) hcs rfl; have he := add_none g 0 k; go_simp; all_goals (with_reducible rfl))
  change wpAnyH _ _ _ _ _ _ _ (Act.put _ (some 34) _) _
  simp only [Act.put, List.setIfInBounds_toArray, List.set_cons_zero, List.set_cons_succ]
  refine wpAnyH_take (i := 3) (v := ?v3) rfl (by kernel_rfl) (by kernel_rfl) (by kernel_rfl) (fun _ _ _ h => h) (Or.inl ⟨by rfl, ?hy3⟩) hHeld ?rest3
  case hy3 => (intro W hSw; (try dsimp only at hSw); have hcs := cells_at HA2.out hSw (fun e => absurd e (by have := Hgl.out; omega)); have k0 := cell_of (o := 0) hcs rfl; have k1 := cell_of (o := 1) hcs rfl; have k2 := cell_of (o := 2) hcs rfl; have he := add_none g 0 k; go_simp; all_goals (with_reducible rfl))
  change wpAnyH _ _ _ _ _ _ _ (Act.put _ (some 35) _) _
  simp only [Act.put, List.setIfInBounds_toArray, List.set_cons_zero, List.set_cons_succ]
  refine wpAnyH_take (i := 6) (v := ?v6) rfl (by kernel_rfl) (by kernel_rfl) (by kernel_rfl) (fun _ _ _ h => h) (Or.inl ⟨by rfl, ?hy6⟩) hHeld ?rest6
  case hy6 => (intro W hSw; (try dsimp only at hSw); have hcs := cells_at HA2.out hSw (fun e => absurd e (by have := Hgl.out; omega)); have k0 := cell_of (o := 0) hcs rfl; have k1 := cell_of (o := 1) hcs rfl; have k2 := cell_of (o := 2) hcs rfl; have he := add_none g 0 k; go_simp; all_goals (with_reducible rfl))
  change wpAnyH _ _ _ _ _ _ _ (Act.put _ (some 38) _) _
  simp only [Act.put, List.setIfInBounds_toArray, List.set_cons_zero, List.set_cons_succ]
  refine wpAnyH_take (i := 9) (v := ?v9) rfl (by kernel_rfl) (by kernel_rfl) (by kernel_rfl) (fun _ _ _ h => h) (Or.inl ⟨by rfl, ?hy9⟩) hHeld ?rest9
  case hy9 => (intro W hSw; (try dsimp only at hSw); have hcs := cells_at HA2.out hSw (fun e => absurd e (by have := Hgl.out; omega)); have k0 := cell_of (o := 0) hcs rfl; have k1 := cell_of (o := 1) hcs rfl; have k2 := cell_of (o := 2) hcs rfl; have he := add_none g 0 k; go_simp; all_goals (with_reducible rfl))
  change wpAnyH _ _ _ _ _ _ _ (Act.put _ (some 41) _) _
  simp only [Act.put, List.setIfInBounds_toArray, List.set_cons_zero, List.set_cons_succ]
  refine wpAnyH_take (i := 10) (v := ?v10) rfl (by kernel_rfl) (by kernel_rfl) (by kernel_rfl) (fun _ _ _ h => h) (Or.inl ⟨by rfl, ?hy10⟩) hHeld ?rest10
  case hy10 => (intro W hSw; (try dsimp only at hSw); have hcs := cells_at HA2.out hSw (fun e => absurd e (by have := Hgl.out; omega)); have k0 := cell_of (o := 0) hcs rfl; have k1 := cell_of (o := 1) hcs rfl; have k2 := cell_of (o := 2) hcs rfl; have he := add_none g 0 k; go_simp; all_goals (with_reducible rfl))
  change wpAnyH _ _ _ _ _ _ _ (Act.put _ (some 42) _) _
  simp only [Act.put, List.setIfInBounds_toArray, List.set_cons_zero, List.set_cons_succ]
  refine wpAnyH_take (i := 13) (v := ?v13) rfl (by kernel_rfl) (by kernel_rfl) (by kernel_rfl) (fun _ _ _ h => h) (Or.inl ⟨by rfl, ?hy13⟩) hHeld ?rest13
  case hy13 => (intro W hSw; (try dsimp only at hSw); have hcs := cells_at HA2.out hSw (fun e => absurd e (by have := Hgl.out; omega)); have k0 := cell_of (o := 0) hcs rfl; have k1 := cell_of (o := 1) hcs rfl; have k2 := cell_of (o := 2) hcs rfl; have he := add_none g 0 k; go_simp; all_goals (with_reducible rfl))
  change wpAnyH _ _ _ _ _ _ _ (Act.put _ (some 45) _) _
  simp only [Act.put, List.setIfInBounds_toArray, List.set_cons_zero, List.set_cons_succ]
  refine wpAnyH_take (i := 18) (v := ?v18) rfl (by kernel_rfl) (by kernel_rfl) (by kernel_rfl) (fun _ _ _ h => h) (Or.inl ⟨by rfl, ?hy18⟩) hHeld ?rest18
  case hy18 => (intro W hSw; (try dsimp only at hSw); have hcs := cells_at HA2.out hSw (fun e => absurd e (by have := Hgl.out; omega)); have k0 := cell_of (o := 0) hcs rfl; have k1 := cell_of (o := 1) hcs rfl; have k2 := cell_of (o := 2) hcs rfl; have he := add_none g 0 k; go_simp; all_goals (with_reducible rfl))
  change wpAnyH _ _ _ _ _ _ _ (Act.put _ (some 50) _) _
  simp only [Act.put, List.setIfInBounds_toArray, List.set_cons_zero, List.set_cons_succ]
  refine wpAnyH_take (i := 1) (v := ?v1) rfl (by kernel_rfl) (by kernel_rfl) (by kernel_rfl) (fun _ _ _ h => h) (Or.inl ⟨by rfl, ?hy1⟩) hHeld ?rest1
  case hy1 => (intro W hSw; (try dsimp only at hSw); have hcs := cells_at HA2.out hSw (fun e => absurd e (by have := Hgl.out; omega)); have k0 := cell_of (o := 0) hcs rfl; have k1 := cell_of (o := 1) hcs rfl; have k2 := cell_of (o := 2) hcs rfl; have he := add_none g 0 k; go_simp; all_goals (with_reducible rfl))
  change wpAnyH _ _ _ _ _ _ _ (Act.put _ (some 33) _) _
  simp only [Act.put, List.setIfInBounds_toArray, List.set_cons_zero, List.set_cons_succ]
  refine wpAnyH_take (i := 4) (v := ?v4) rfl (by kernel_rfl) (by kernel_rfl) (by kernel_rfl) (fun _ _ _ h => h) (Or.inl ⟨by rfl, ?hy4⟩) hHeld ?rest4
  case hy4 => (intro W hSw; (try dsimp only at hSw); have hcs := cells_at HA2.out hSw (fun e => absurd e (by have := Hgl.out; omega)); have k0 := cell_of (o := 0) hcs rfl; have k1 := cell_of (o := 1) hcs rfl; have k2 := cell_of (o := 2) hcs rfl; have he := add_none g 0 k; go_simp; all_goals (with_reducible rfl))
  change wpAnyH _ _ _ _ _ _ _ (Act.put _ (some 36) _) _
  simp only [Act.put, List.setIfInBounds_toArray, List.set_cons_zero, List.set_cons_succ]
  refine wpAnyH_take (i := 11) (v := ?v11) rfl (by kernel_rfl) (by kernel_rfl) (by kernel_rfl) (fun _ _ _ h => h) (Or.inl ⟨by rfl, ?hy11⟩) hHeld ?rest11
  case hy11 => (intro W hSw; (try dsimp only at hSw); have hcs := cells_at HA2.out hSw (fun e => absurd e (by have := Hgl.out; omega)); have k0 := cell_of (o := 0) hcs rfl; have k1 := cell_of (o := 1) hcs rfl; have k2 := cell_of (o := 2) hcs rfl; have he := add_none g 0 k; go_simp; all_goals (with_reducible rfl))
  change wpAnyH _ _ _ _ _ _ _ (Act.put _ (some 43) _) _
  simp only [Act.put, List.setIfInBounds_toArray, List.set_cons_zero, List.set_cons_succ]
  refine wpAnyH_take (i := 5) (v := ?v5) rfl (by kernel_rfl) (by kernel_rfl) (by kernel_rfl) (fun _ _ _ h => h) (Or.inl ⟨by rfl, ?hy5⟩) hHeld ?rest5
  case hy5 => (intro W hSw; (try dsimp only at hSw); have hcs := cells_at HA2.out hSw (fun e => absurd e (by have := Hgl.out; omega)); have k0 := cell_of (o := 0) hcs rfl; have k1 := cell_of (o := 1) hcs rfl; have k2 := cell_of (o := 2) hcs rfl; have he := add_none g 0 k; go_simp; all_goals (with_reducible rfl))
  change wpAnyH _ _ _ _ _ _ _ (Act.put _ (some 37) _) _
  simp only [Act.put, List.setIfInBounds_toArray, List.set_cons_zero, List.set_cons_succ]
  refine wpAnyH_take (i := 12) (v := ?v12) rfl (by kernel_rfl) (by kernel_rfl) (by kernel_rfl) (fun _ _ _ h => h) (Or.inl ⟨by rfl, ?hy12⟩) hHeld ?rest12
  case hy12 => (intro W hSw; (try dsimp only at hSw); have hcs := cells_at HA2.out hSw (fun e => absurd e (by have := Hgl.out; omega)); have k0 := cell_of (o := 0) hcs rfl; have k1 := cell_of (o := 1) hcs rfl; have k2 := cell_of (o := 2) hcs rfl; have he := add_none g 0 k; go_simp; all_goals (with_reducible rfl))
  change wpAnyH _ _ _ _ _ _ _ (Act.put _ (some 44) _) _
  simp only [Act.put, List.setIfInBounds_toArray, List.set_cons_zero, List.set_cons_succ]
  refine wpAnyH_take (i := 7) (v := ?v7) rfl (by kernel_rfl) (by kernel_rfl) (by kernel_rfl) (fun _ _ _ h => h) (Or.inl ⟨by rfl, ?hy7⟩) hHeld ?rest7
  case hy7 => (intro W hSw; (try dsimp only at hSw); have hcs := cells_at HA2.out hSw (fun e => absurd e (by have := Hgl.out; omega)); have k0 := cell_of (o := 0) hcs rfl; have k1 := cell_of (o := 1) hcs rfl; have k2 := cell_of (o := 2) hcs rfl; have he := add_none g 0 k; go_simp; all_goals (with_reducible rfl))
  change wpAnyH _ _ _ _ _ _ _ (Act.put _ (some 39) _) _
  simp only [Act.put, List.setIfInBounds_toArray, List.set_cons_zero, List.set_cons_succ]
  refine wpAnyH_take (i := 14) (v := ?v14) rfl (by kernel_rfl) (by kernel_rfl) (by kernel_rfl) (fun _ _ _ h => h) (Or.inl ⟨by rfl, ?hy14⟩) hHeld ?rest14
  case hy14 => (intro W hSw; (try dsimp only at hSw); have hcs := cells_at HA2.out hSw (fun e => absurd e (by have := Hgl.out; omega)); have k0 := cell_of (o := 0) hcs rfl; have k1 := cell_of (o := 1) hcs rfl; have k2 := cell_of (o := 2) hcs rfl; have he := add_none g 0 k; go_simp; all_goals (with_reducible rfl))
  change wpAnyH _ _ _ _ _ _ _ (Act.put _ (some 46) _) _
  simp only [Act.put, List.setIfInBounds_toArray, List.set_cons_zero, List.set_cons_succ]
  refine wpAnyH_take (i := 8) (v := ?v8) rfl (by kernel_rfl) (by kernel_rfl) (by kernel_rfl) (fun _ _ _ h => h) (Or.inl ⟨by rfl, ?hy8⟩) hHeld ?rest8
  case hy8 => (intro W hSw; (try dsimp only at hSw); have hcs := cells_at HA2.out hSw (fun e => absurd e (by have := Hgl.out; omega)); have k0 := cell_of (o := 0) hcs rfl; have k1 := cell_of (o := 1) hcs rfl; have k2 := cell_of (o := 2) hcs rfl; have he := add_none g 0 k; go_simp; all_goals (with_reducible rfl))
  change wpAnyH _ _ _ _ _ _ _ (Act.put _ (some 40) _) _
  simp only [Act.put, List.setIfInBounds_toArray, List.set_cons_zero, List.set_cons_succ]
  refine wpAnyH_take (i := 15) (v := ?v15) rfl (by kernel_rfl) (by kernel_rfl) (by kernel_rfl) (fun _ _ _ h => h) (Or.inl ⟨by rfl, ?hy15⟩) hHeld ?rest15
  case hy15 => (intro W hSw; (try dsimp only at hSw); have hcs := cells_at HA2.out hSw (fun e => absurd e (by have := Hgl.out; omega)); have k0 := cell_of (o := 0) hcs rfl; have k1 := cell_of (o := 1) hcs rfl; have k2 := cell_of (o := 2) hcs rfl; have he := add_none g 0 k; go_simp; all_goals (with_reducible rfl))
  change wpAnyH _ _ _ _ _ _ _ (Act.put _ (some 47) _) _
  simp only [Act.put, List.setIfInBounds_toArray, List.set_cons_zero, List.set_cons_succ]
  refine wpAnyH_take (i := 16) (v := ?v16) rfl (by kernel_rfl) (by kernel_rfl) (by kernel_rfl) (fun _ _ _ h => h) (Or.inl ⟨by rfl, ?hy16⟩) hHeld ?rest16
  case hy16 => (intro W hSw; (try dsimp only at hSw); have hcs := cells_at HA2.out hSw (fun e => absurd e (by have := Hgl.out; omega)); have k0 := cell_of (o := 0) hcs rfl; have k1 := cell_of (o := 1) hcs rfl; have k2 := cell_of (o := 2) hcs rfl; have he := add_none g 0 k; go_simp; all_goals (with_reducible rfl))
  change wpAnyH _ _ _ _ _ _ _ (Act.put _ (some 48) _) _
  simp only [Act.put, List.setIfInBounds_toArray, List.set_cons_zero, List.set_cons_succ]
  refine wpAnyH_take (i := 17) (v := ?v17) rfl (by kernel_rfl) (by kernel_rfl) (by kernel_rfl) (fun _ _ _ h => h) (Or.inl ⟨by rfl, ?hy17⟩) hHeld ?rest17
  case hy17 => (intro W hSw; (try dsimp only at hSw); have hcs := cells_at HA2.out hSw (fun e => absurd e (by have := Hgl.out; omega)); have k0 := cell_of (o := 0) hcs rfl; have k1 := cell_of (o := 1) hcs rfl; have k2 := cell_of (o := 2) hcs rfl; have he := add_none g 0 k; go_simp; all_goals (with_reducible rfl))
  change wpAnyH _ _ _ _ _ _ _ (Act.put _ (some 49) _) _
  simp only [Act.put, List.setIfInBounds_toArray, List.set_cons_zero, List.set_cons_succ]
  refine wpAnyH_ready (rs := [19]) (by kernel_rfl) (by simp) ?_
  refine AllReadyH.cons rfl (fun K hK => ?_) AllReadyH.nil
  try simp only [List.getElem_toArray, List.getElem_cons_succ, List.getElem_cons_zero]
  rw [if_pos (by rfl)]
  refine wp_copy_own _ _ 22 22 rfl 26 Try.underlying22 (by kernel_rfl) g k 4 (c - k) ⟨w.heap.size + 1, 0, none⟩ 4 4 rfl rfl cur 26 (show w2.drew.heap[g]? = _ from Hg2.out) (cellsU [q0, q1, q2, q3]) rfl HSrc.out (by have h1 := Hk.out; have h2 := Hcs.out; have h3 := Hc.out; show k + 4 ≤ cur.size; omega) (cellsU_one _) ?_
  refine hK.out _ _ ((Fr.drew1 _ w2).join (setRow_fr _ _ _)) (fun hHeld => ?_)
  clear hK K
  refine wpAnyH_done (by kernel_rfl) ?_ _
  go_wp2_with fail
  go_ret
  exact ⟨rfl, ((HF2.out.mono fun _ _ e => e.elim).join (Fr.drew1 _ w2)).join (setRow_fr _ _ _), (Hl2.out.keep (S := fun _ => False) (Fr.drew1 _ w2) fun _ _ e => e).set Hg2.out Hk.out Hq.out (by have := Hk.out; omega)⟩
end Go.Proofs.Ytaeppfbphbkigaa
