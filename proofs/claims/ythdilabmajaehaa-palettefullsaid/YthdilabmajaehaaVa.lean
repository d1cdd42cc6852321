/-
  depth: allEight, fewColours.
-/
import Derived.Test.YthdilabmajaehaaUc
import Derived.Test.YthdilabmajaehaaDa
namespace Go.Proofs.Ythdilabmajaehaa
open Go.RowKit

/-- Whether each sample is a byte's. -/
def allE (px : List Nat) : Bool := px.all eightOk

theorem allE_false {px : List Nat} {j : Nat} (hj : j < px.length) (h : eightOk (px.getD j 0) = false) : allE px = false := by
  unfold allE
  rw [List.all_eq_false]
  refine ⟨px[j], List.getElem_mem hj, ?_⟩
  rw [List.getD_eq_getElem?_getD, List.getElem?_eq_getElem hj] at h
  simpa using h

theorem allE_true {px : List Nat} (h : ∀ j, j < px.length → eightOk (px.getD j 0) = true) : allE px = true := by
  unfold allE
  rw [List.all_eq_true]
  intro x hx
  obtain ⟨j, hj, rfl⟩ := List.getElem_of_mem hx
  have := h j hj
  rwa [List.getD_eq_getElem?_getD, List.getElem?_eq_getElem hj] at this

theorem sample_lt {px : List Nat} (h : ∀ b ∈ px, b < 65536) (j : Nat) : px.getD j 0 < 65536 := by
  rw [List.getD_eq_getElem?_getD]
  by_cases hj : j < px.length
  · rw [List.getElem?_eq_getElem hj]
    exact h _ (List.getElem_mem hj)
  · rw [List.getElem?_eq_none (by omega)]
    decide

set_option maxHeartbeats 400000 in
set_option maxRecDepth 100000 in
theorem allEight_c (W H : Int) (g o n c : Nat) (px : List Nat) (w : World) (hl : Lies w (some ⟨g, o, none⟩) px) (hp : px.length = n) (hn : n ≤ 65536) :
    Calls Try.prog 46 #[rasV W H (some ⟨g, o, none⟩) n c] w fun e w' => e = .returned (.bool (allE px)) ∧ Fr (fun _ => False) w w' := by
  obtain ⟨w1, hw1⟩ : ∃ w1, w1 = w.alloc (.cells #[.int .i64 W, .int .i64 H, .slice (some ⟨g, o, none⟩) n c] 24) := ⟨_, rfl⟩
  have hb1 : w1.heap[w.heap.size]? = some (.cells #[.int .i64 W, .int .i64 H, .slice (some ⟨g, o, none⟩) n c] 24 (0, 0)) := by rw [hw1]; exact heap_alloc_at rfl
  have hF1 : Fr (fun _ => False) w w1 := by rw [hw1]; exact Fr.of_alloc _ _
  have k2 := cell_of (o := 2) hb1 rfl
  have HF1 := hide hF1
  have HL := hide (hl.keep0 hF1)
  have Hp := hide hp
  have hni : (n : Int) ≤ 65536 := Int.ofNat_le.2 hn
  have Hw1 := hide hw1
  rw [hw1] at k2
  have HE := hide fun (j : Nat) (w : World) => eight_c (px.getD j 0) w (sample_lt hl.1 j)
  clear hb1 hF1 hl hp hw1
  go_enter Try.func46, Try.ntmps46
  go_wp2_with fail
  rw [← Hw1.out]
  clear k2
  go_loopw [4, 5, 6, 10] (fun _ _ _ v10 wr => ∃ j : Nat, v10 = .int .i64 (j : Int) ∧ j ≤ n ∧ wr = w1 ∧ Hid (∀ i, i < j → eightOk (px.getD i 0) = true)) (fun _ _ _ v10 _ => n - (intOf v10).toNat)
  case atStart => exact ⟨0, rfl, Nat.zero_le _, rfl, fun i hi => absurd hi (Nat.not_lt_zero i)⟩
  case round =>
    obtain ⟨j, rfl, hj, rfl, HA⟩ := hrel
    by_cases hlt : j < n
    · have hji : (j : Int) < (n : Int) := by omega
      obtain ⟨s, hsd⟩ : ∃ s, s = px.getD j 0 := ⟨_, rfl⟩
      have cs : wr.cell? ⟨g, o + j, none⟩ = some (.int .u16 (s : Int)) := by rw [hsd]; exact HL.out.cell (by have := Hp.out; omega)
      have HEj := hide (HE.out j wr)
      rw [← hsd] at HEj
      have Hsd := hide hsd
      clear hsd
      go_wp2_with fail
      refine HEj.out.mono ?_
      rintro e w2 ⟨rfl, rfl⟩
      cases hE : eightOk s with
      | true =>
        have HB : Hid (∀ i, i < j + 1 → eightOk (px.getD i 0) = true) := fun i hi => by
          by_cases h : i = j
          · rw [h, ← Hsd.out]; exact hE
          · exact HA.out i (by omega)
        clear hE
        go_wp2_with fail
        go_roundw
        case rel => exact ⟨j + 1, by go_num, by omega, trivial, HB.out⟩
        case measure => simp [intOf]; omega
      | false =>
        have HB : Hid (allE px = false) := allE_false (j := j) (by have := Hp.out; omega) (by rw [← Hsd.out]; exact hE)
        clear hE
        go_wp2_with fail
        go_ret
        exact ⟨by rw [HB.out]; rfl, HF1.out⟩
    · have hji : ¬ (j : Int) < (n : Int) := by omega
      have HB : Hid (allE px = true) := allE_true fun i hi => HA.out i (by have := Hp.out; omega)
      go_wp2_with fail
      go_ret
      exact ⟨by rw [HB.out]; rfl, HF1.out⟩

set_option maxHeartbeats 400000 in
set_option maxRecDepth 100000 in
theorem fewColours_c (W H : Int) (a : Option Addr) (n c m : Nat) (px : List Nat) (w : World) (hl : Lies w a px) (hp : px.length = n) (hmay : mayB W H n = true) (hm : (m : Int) = W * H) :
    Calls Try.prog 48 #[rasV W H a n c] w fun e w' => Fr (fun _ => False) w w' ∧ ∃ D : List Int, D.Nodup ∧ (∀ x, x ∈ D ↔ x ∈ keyF m px n) ∧ e = .returned (.bool (decide (D.length ≤ 256))) := by
  obtain ⟨w1, hw1⟩ : ∃ w1, w1 = w.alloc (.cells #[.int .i64 W, .int .i64 H, .slice a n c] 24) := ⟨_, rfl⟩
  have hF1 : Fr (fun _ => False) w w1 := by rw [hw1]; exact Fr.of_alloc _ _
  have HC := hide (colours_yes W H 256 a n c m px w1 (hl.keep0 hF1) hp hmay hm)
  have HF1 := hide hF1
  have Hw1 := hide hw1
  clear hF1 hl hp hmay hm hw1
  go_enter Try.func48, Try.ntmps48
  go_wp2_with fail
  rw [← Hw1.out]
  refine HC.out.mono ?_
  rintro e w2 ⟨hF2, D, h1, h2, rfl⟩
  have HF2 := hide (HF1.out.join hF2)
  have HD : Hid (D.Nodup ∧ ∀ x, x ∈ D ↔ x ∈ keyF m px n) := ⟨h1, h2⟩
  clear hF2 h1 h2
  by_cases h : (256 : Int) < (D.length : Int)
  · rw [if_pos h]
    have HB : Hid (decide (D.length ≤ 256) = false) := decide_eq_false (by omega)
    clear h
    go_wp2_with fail
    go_ret
    exact ⟨HF2.out, D, HD.out.1, HD.out.2, by rw [HB.out]; rfl⟩
  · rw [if_neg h]
    have HB : Hid (decide (D.length ≤ 256) = true) := decide_eq_true (by omega)
    clear h
    go_wp2_with fail
    go_ret
    exact ⟨HF2.out, D, HD.out.1, HD.out.2, by rw [HB.out]; rfl⟩
end Go.Proofs.Ythdilabmajaehaa
