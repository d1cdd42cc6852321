/-
  palette: PaletteDraws.
-/
import Derived.Test.YthdilabmajaehaaYj
namespace Go.Proofs.Ythdilabmajaehaa
open Go.RowKit

theorem drawE_may {W H : Int} {L : Nat} {ix : List Nat} (h : drawE W H L ix = 0) : mayB W H (4 * ix.length) = true := by
  unfold drawE at h
  split at h
  · exact absurd h ‹_›
  · rename_i hs
    split at h
    · omega
    · split at h
      · omega
      · rename_i h1 h2
        have e4 : 4 * W * H = 4 * (W * H) := Int.mul_assoc _ _ _
        unfold mayB
        rw [decide_eq_true_eq]
        exact ⟨by omega, by omega⟩

set_option maxHeartbeats 1000000 in
set_option maxRecDepth 100000 in
theorem draws_law (a : Option Addr) (L c : Nat) (u : List (List Nat)) (x y : Int) (b : Option Addr) (n2 c2 : Nat) (ix : List Nat) (w : World) (hu : Cols w a L u) (hx : Bys w b n2 ix) :
    Calls Try.prog 8 #[.slice a L c, .agg #[.int .i64 x, .int .i64 y], .slice b n2 c2] w fun e w' => e = .returned (.bool true) ∧ Fr (fun _ => False) w w' := by
  obtain ⟨w1, hw1⟩ : ∃ w1, w1 = w.alloc (.cells #[.int .i64 x, .int .i64 y] 53) := ⟨_, rfl⟩
  obtain ⟨R, hR⟩ : ∃ R, R = w.heap.size := ⟨_, rfl⟩
  have hb1 : w1.heap[R]? = some (.cells #[.int .i64 x, .int .i64 y] 53 (0, 0)) := by rw [hw1]; exact heap_alloc_at hR
  have hF1 : Fr (fun _ => False) w w1 := by rw [hw1]; exact Fr.of_alloc _ _
  have HA := hide (awake10_c w1)
  have HU := hide (hu.fr hF1 fun _ _ _ h => h)
  have HX := hide (hx.fr hF1 fun _ _ _ h => h)
  have Hb1 := hide hb1
  have HF1 := hide hF1
  have Hw1 := hide hw1
  have HR := hide hR
  clear hu hx hb1 hF1 hw1 hR
  go_enter Try.func8, Try.ntmps8
  go_wp2_with fail
  rw [← Hw1.out, ← HR.out]
  refine HA.out.mono ?_
  rintro e w2 ⟨rfl, hF2⟩
  have hb2 := cells_at Hb1.out hF2 (fun e => e)
  have HF2 := hide (HF1.out.join hF2)
  have hU2 := HU.out.fr hF2 fun _ _ _ h => h
  have hX2 := HX.out.fr hF2 fun _ _ _ h => h
  have HU2 := hide hU2
  have HX2 := hide hX2
  have Hb2 := hide hb2
  have k0 := cell_of (o := 0) hb2 rfl
  have k1 := cell_of (o := 1) hb2 rfl
  clear hF2 hb2 hU2 hX2
  by_cases hL : (300 : Int) < (L : Int)
  · go_wp2_with fail
    go_ret
    exact ⟨rfl, HF2.out⟩
  by_cases hN : (5000 : Int) < (n2 : Int)
  · go_wp2_with fail
    go_ret
    exact ⟨rfl, HF2.out⟩
  have HD := hide (draw_c x y 3 a L c u b n2 c2 ix w2 HU2.out HX2.out (by omega))
  have HE := hide fun w4 (f : Fr (fun _ => False) w2 w4) => rdraw_c x y 3 a L c u b n2 c2 ix w4 (HU2.out.fr f fun _ _ _ h => h) (HX2.out.fr f fun _ _ _ h => h) (by omega)
  go_wp2_with fail
  refine HD.out.mono ?_
  rintro e w3 ⟨hF3, ⟨hE, rfl⟩ | ⟨hE, g, rfl, hO⟩⟩
  · obtain ⟨w4, hw4⟩ : ∃ w4, w4 = w3.alloc (.cells #[.int .i64 0, .int .i64 0, .slice none 0 0] 24) := ⟨_, rfl⟩
    obtain ⟨PB, hPB⟩ : ∃ P, P = w3.heap.size := ⟨_, rfl⟩
    have hF34 : Fr (fun _ => False) w3 w4 := by rw [hw4]; exact Fr.of_alloc _ _
    have hP4 : w4.heap[PB]? = some (.cells #[.int .i64 0, .int .i64 0, .slice none 0 0] 24 (0, 0)) := by rw [hw4]; exact heap_alloc_at hPB
    have hF24 := hF3.join hF34
    have HF4 := hide (HF2.out.join hF24)
    have HE4 := hide (HE.out w4 hF24)
    have HP4 := hide hP4
    have hb4 := cells_at Hb2.out hF24 (fun e => e)
    clear k0 k1
    have k0 := cell_of (o := 0) hb4 rfl
    have k1 := cell_of (o := 1) hb4 rfl
    have Hw4 := hide hw4
    have HPB := hide hPB
    have HE0 := hide hE
    rw [hw4] at k0 k1
    clear hF3 hF34 hP4 hF24 hb4 hw4 hPB hE
    go_wp2_with fail
    rw [← Hw4.out, ← HPB.out]
    refine HE4.out.mono ?_
    rintro e w5 ⟨hF5, ⟨_, rfl⟩ | ⟨h, _⟩⟩
    · obtain ⟨w6, hw6⟩ : ∃ w6, w6 = w5.alloc (.cells #[.int .i64 0, .int .i64 0, .slice none 0 0] 24) := ⟨_, rfl⟩
      obtain ⟨QB, hQB⟩ : ∃ P, P = w5.heap.size := ⟨_, rfl⟩
      have hF56 : Fr (fun _ => False) w5 w6 := by rw [hw6]; exact Fr.of_alloc _ _
      have hF46 := hF5.join hF56
      have HF6 := hide (HF4.out.join hF46)
      have hP6 := cells_at HP4.out hF46 (fun e => e)
      clear k0 k1
      have p0 := cell_of (o := 0) hP6 rfl
      have p2 := cell_of (o := 2) hP6 rfl
      have Hw6 := hide hw6
      rw [hw6] at p0 p2
      have hE := HE0.out
      obtain ⟨E, hEe⟩ : ∃ E, E = drawE x y L ix := ⟨_, rfl⟩
      rw [← hEe] at hE ⊢
      clear hF5 hF56 hF46 hP6 hw6 hEe
      go_wp2_with fail
      go_ret
      rw [← Hw6.out]
      exact ⟨by simp, HF6.out⟩
    · exact absurd h HE0.out
  · have hmay := drawE_may hE
    obtain ⟨M, hM⟩ : ∃ M, M = 4 * ix.length := ⟨_, rfl⟩
    rw [← hM] at hmay hO ⊢
    have HM := hide hM
    clear hM
    obtain ⟨w4, hw4⟩ : ∃ w4, w4 = w3.alloc (.cells #[.int .i64 x, .int .i64 y, .slice (some ⟨g, 0, none⟩) M M] 24) := ⟨_, rfl⟩
    obtain ⟨PB, hPB⟩ : ∃ P, P = w3.heap.size := ⟨_, rfl⟩
    have hF34 : Fr (fun _ => False) w3 w4 := by rw [hw4]; exact Fr.of_alloc _ _
    have hP4 : w4.heap[PB]? = some (.cells #[.int .i64 x, .int .i64 y, .slice (some ⟨g, 0, none⟩) M M] 24 (0, 0)) := by rw [hw4]; exact heap_alloc_at hPB
    have hF24 := hF3.join hF34
    have HF4 := hide (HF2.out.join hF24)
    have HE4 := hide (HE.out w4 hF24)
    have HP4 := hide hP4
    have HO4 := hide (hO.keep hF34 fun _ _ h => h)
    have hb4 := cells_at Hb2.out hF24 (fun e => e)
    clear k0 k1
    have k0 := cell_of (o := 0) hb4 rfl
    have k1 := cell_of (o := 1) hb4 rfl
    have Hw4 := hide hw4
    have HPB := hide hPB
    have HE0 := hide hE
    have Hmay := hide hmay
    rw [hw4] at k0 k1
    clear hF3 hF34 hP4 hF24 hb4 hw4 hPB hE hO hmay
    go_wp2_with fail
    rw [← Hw4.out, ← HPB.out]
    refine HE4.out.mono ?_
    rintro e w5 ⟨hF5, ⟨h, _⟩ | ⟨_, g2, rfl, hO2⟩⟩
    · exact absurd HE0.out h
    · rw [← HM.out] at hO2 ⊢
      obtain ⟨w6, hw6⟩ : ∃ w6, w6 = w5.alloc (.cells #[.int .i64 x, .int .i64 y, .slice (some ⟨g2, 0, none⟩) M M] 24) := ⟨_, rfl⟩
      obtain ⟨QB, hQB⟩ : ∃ P, P = w5.heap.size := ⟨_, rfl⟩
      have hF56 : Fr (fun _ => False) w5 w6 := by rw [hw6]; exact Fr.of_alloc _ _
      have hQ6 : w6.heap[QB]? = some (.cells #[.int .i64 x, .int .i64 y, .slice (some ⟨g2, 0, none⟩) M M] 24 (0, 0)) := by rw [hw6]; exact heap_alloc_at hQB
      have hF46 := hF5.join hF56
      have HF6 := hide (HF4.out.join hF46)
      have hP6 := cells_at HP4.out hF46 (fun e => e)
      have HS6 := hide (rsame_c x y (some ⟨g, 0, none⟩) M M (drawn u ix) x y (some ⟨g2, 0, none⟩) M M (drawn u ix) w6 (HO4.out.keep hF46 fun _ _ h => h).lies (HO4.out.len) (hO2.keep hF56 fun _ _ h => h).lies (hO2.len))
      have hsb : sameB x y M (drawn u ix) x y M (drawn u ix) = true := by unfold sameB; simp [Hmay.out]
      rw [hsb] at HS6
      clear k0 k1
      have p0 := cell_of (o := 0) hP6 rfl
      have p1 := cell_of (o := 1) hP6 rfl
      have p2 := cell_of (o := 2) hP6 rfl
      have q0 := cell_of (o := 0) hQ6 rfl
      have q1 := cell_of (o := 1) hQ6 rfl
      have q2 := cell_of (o := 2) hQ6 rfl
      have Hw6 := hide hw6
      rw [hw6] at p0 p1 p2
      rw [hw6, hQB] at q0 q1 q2
      clear hF5 hF56 hF46 hP6 hw6 hQ6 hQB hO2 hsb
      go_wp2_with fail
      rw [← Hw6.out]
      refine HS6.out.mono ?_
      rintro e w7 ⟨rfl, hF7⟩
      go_wp2_with fail
      go_ret
      exact ⟨by simp, HF6.out.join hF7⟩
end Go.Proofs.Ythdilabmajaehaa
