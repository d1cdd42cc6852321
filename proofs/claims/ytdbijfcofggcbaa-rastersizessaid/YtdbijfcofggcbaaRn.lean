/-
  raster: RasterSizes.
-/
import Derived.Test.YtdbijfcofggcbaaRm
namespace Go.Proofs.Ytdbijfcofggcbaa
open Go.RowKit

/-- What both News leave, in one form. -/
theorem Newd.same {W H : Int} {w w' : World} {v : Value} {er : Int} (h : Newd W H w v er w') : ∃ a, er = sizeE W H ∧ v = rasV (if sizeE W H = 0 then W else 0) (if sizeE W H = 0 then H else 0) a (if sizeE W H = 0 then (4 * W * H).toNat else 0) (if sizeE W H = 0 then (4 * W * H).toNat else 0) := by
  rcases h.out with ⟨h1, h2, h3⟩ | ⟨h1, h2, n, g, hn, h3, _, _⟩
  · exact ⟨none, h2, by rw [h3]; simp [h1]⟩
  · refine ⟨some ⟨g, 0, none⟩, by rw [h1]; exact h2, ?_⟩
    rw [h3]
    have : n = (4 * W * H).toNat := by omega
    simp [h1, this]

theorem mayB_new (W H : Int) : mayB (if sizeE W H = 0 then W else 0) (if sizeE W H = 0 then H else 0) (if sizeE W H = 0 then (4 * W * H).toNat else 0) = (sizeE W H == 0) := by
  by_cases hs : sizeE W H = 0
  · obtain ⟨h1, h2, h3, h4, h5⟩ := size_ok hs
    have hm : 0 ≤ W * H := Int.mul_nonneg (by omega) (by omega)
    have e4 : 4 * W * H = 4 * (W * H) := Int.mul_assoc _ _ _
    simp only [hs]
    unfold mayB
    have : ((4 * W * H).toNat : Int) = 4 * W * H := by omega
    simp [hs, this]
  · simp only [hs, if_false]
    have h0 : mayB 0 0 0 = false := by decide +kernel
    rw [h0]
    exact (beq_eq_false_iff_ne.2 hs).symm

set_option maxHeartbeats 400000 in
set_option maxRecDepth 100000 in
theorem sizes_law (W H : Int) (w : World) : Calls Try.prog 3 #[.int .i64 W, .int .i64 H] w fun e w' => e = .returned (.bool true) ∧ Fr (fun _ => False) w w' := by
  go_enter Try.func3, Try.ntmps3
  go_wp2_with fail
  refine (awake_c w).mono ?_
  rintro e w0 ⟨rfl, hF0⟩
  have HN := hide (new_c W H w0)
  have Hm := mayB_new W H
  obtain ⟨A, hA⟩ : ∃ A, A = (if sizeE W H = 0 then W else 0) := ⟨_, rfl⟩
  obtain ⟨B, hB⟩ : ∃ B, B = (if sizeE W H = 0 then H else 0) := ⟨_, rfl⟩
  obtain ⟨N, hN⟩ : ∃ N, N = (if sizeE W H = 0 then (4 * W * H).toNat else 0) := ⟨_, rfl⟩
  rw [← hA, ← hB, ← hN] at Hm
  have HA := hide hA
  have HB := hide hB
  have HNn := hide hN
  have HF0 := hide hF0
  clear hA hB hN hF0
  go_wp2_with fail
  refine HN.out.mono ?_
  rintro e w1 ⟨v, er, rfl, hn⟩
  obtain ⟨a, rfl, rfl⟩ := hn.same
  rw [← HA.out, ← HB.out, ← HNn.out]
  obtain ⟨E, hE⟩ : ∃ E, E = sizeE W H := ⟨_, rfl⟩
  rw [← hE] at Hm ⊢
  have HE := hide hE
  have HF1 := hide (HF0.out.join hn.fr)
  obtain ⟨w2, hw2⟩ : ∃ w2, w2 = w1.alloc (.cells #[.int .i64 A, .int .i64 B, .slice a N N] 25) := ⟨_, rfl⟩
  have hF2 : Fr (fun _ => False) w1 w2 := by rw [hw2]; exact Fr.of_alloc _ _
  have Hb2 : Hid (w2.heap[w1.heap.size]? = some (.cells #[.int .i64 A, .int .i64 B, .slice a N N] 25 (0, 0))) := by rw [hw2]; exact heap_alloc_at rfl
  have HF2 := hide (HF1.out.join hF2)
  have HR := hide (rnew_c W H w2)
  have Hw2 := hide hw2
  have Hm2 := hide Hm
  clear hn hE hF2 hw2 Hm
  go_wp2_with fail
  rw [← Hw2.out]
  refine HR.out.mono ?_
  rintro e w3 ⟨v, er, rfl, hn⟩
  obtain ⟨b, rfl, rfl⟩ := hn.same
  rw [← HA.out, ← HB.out, ← HNn.out, ← HE.out]
  have HF3 := hide (HF2.out.join hn.fr)
  have Hb3 := hide (cells_at Hb2.out hn.fr (fun e => e))
  obtain ⟨w4, hw4⟩ : ∃ w4, w4 = w3.alloc (.cells #[.int .i64 A, .int .i64 B, .slice b N N] 25) := ⟨_, rfl⟩
  have hF4 : Fr (fun _ => False) w3 w4 := by rw [hw4]; exact Fr.of_alloc _ _
  have Hc4 : Hid (w4.heap[w3.heap.size]? = some (.cells #[.int .i64 A, .int .i64 B, .slice b N N] 25 (0, 0))) := by rw [hw4]; exact heap_alloc_at rfl
  have Hb4 := hide (cells_at Hb3.out hF4 (fun e => e))
  have HF4 := hide (HF3.out.join hF4)
  have HS := hide (size_c W H w4)
  have HT := hide (rsize_c W H w4)
  rw [← HE.out] at HS HT
  have HM := hide (may_c A B a N N w4)
  rw [Hm2.out] at HM
  have Hw4 := hide hw4
  clear hn hF4 hw4
  go_wp2_with fail
  rw [← Hw4.out]
  refine HS.out.mono ?_
  rintro e w5 ⟨rfl, rfl⟩
  go_wp2_with fail
  refine HT.out.mono ?_
  rintro e w6 ⟨rfl, rfl⟩
  have k0 := cell_of (o := 0) Hb4.out rfl
  have k1 := cell_of (o := 1) Hb4.out rfl
  have k2 := cell_of (o := 2) Hb4.out rfl
  have c0 := cell_of (o := 0) Hc4.out rfl
  have c1 := cell_of (o := 1) Hc4.out rfl
  have c2 := cell_of (o := 2) Hc4.out rfl
  go_wp2_with fail
  refine HM.out.mono ?_
  rintro e w7 ⟨rfl, hF7⟩
  go_wp2_with fail
  go_ret
  exact ⟨rfl, HF4.out.join hF7⟩
end Go.Proofs.Ytdbijfcofggcbaa
