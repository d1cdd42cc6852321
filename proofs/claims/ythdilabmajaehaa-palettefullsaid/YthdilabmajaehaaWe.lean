/-
  raster: the document's Colours; RasterCounts.
-/
import Derived.Test.YthdilabmajaehaaWd
namespace Go.Proofs.Ythdilabmajaehaa
open Go.RowKit

/-- What Colours answers of k unlike pixels. -/
abbrev coloursV (most : Int) (k : Nat) : Array Value := if most < (k : Int) then #[.int .i64 0, .bool false] else #[.int .i64 (k : Int), .bool true]

theorem may_nums {W H : Int} {n : Nat} (h : mayB W H n = true) : ∃ m : Nat, (m : Int) = W * H ∧ n = 4 * m ∧ m ≤ 16384 ∧ 1 ≤ m := by
  obtain ⟨hs, hn⟩ := mayB_true h
  obtain ⟨h1, h2, h3, h4, h5⟩ := size_ok hs
  have h0 := (mayB_pos h).1
  have e4 : 4 * W * H = 4 * (W * H) := Int.mul_assoc _ _ _
  have h6 : 0 ≤ W * H := Int.mul_nonneg (by omega) (by omega)
  refine ⟨(W * H).toNat, ?_, ?_, ?_, ?_⟩ <;> omega

set_option maxHeartbeats 400000 in
set_option maxRecDepth 100000 in
theorem rcolours_yes (W H most : Int) (a : Option Addr) (n c m : Nat) (px : List Nat) (w : World) (hl : Lies w a px) (hp : px.length = n) (hc : n ≤ c) (hmay : mayB W H n = true) (hm : (m : Int) = W * H) :
    Calls Try.prog 15 #[rasV W H a n c, .int .i64 most] w fun e w' => Fr (fun _ => False) w w' ∧ e = .returned (.tuple (coloursV most (uniq px m).length)) := by
  obtain ⟨m', hm', hnm, hmb, hm1⟩ := may_nums hmay
  obtain rfl : m = m' := Int.ofNat.inj (hm.trans hm'.symm)
  obtain ⟨g, o, rfl, hgl⟩ := hl.form (by rw [hp]; omega)
  obtain ⟨w1, hw1⟩ : ∃ w1, w1 = w.alloc (.cells #[.int .i64 W, .int .i64 H, .slice (some ⟨g, o, none⟩) n c] 24) := ⟨_, rfl⟩
  have hb1 : w1.heap[w.heap.size]? = some (.cells #[.int .i64 W, .int .i64 H, .slice (some ⟨g, o, none⟩) n c] 24 (0, 0)) := by rw [hw1]; exact heap_alloc_at rfl
  have hF1 : Fr (fun _ => False) w w1 := by rw [hw1]; exact Fr.of_alloc _ _
  have HM := hide (rmay_c W H (some ⟨g, o, none⟩) n c w1)
  rw [hmay] at HM
  have HLc := hide fun (w2 : World) (h : Lies w2 (some ⟨g, o, none⟩) px) => list_c W H most g o n c m px w2 h hp hnm hm hmb hm1 hc
  have HL := hide (hl.keep0 hF1)
  have Hb1 := hide hb1
  have HF1 := hide hF1
  have Hw1 := hide hw1
  clear hl hp hc hmay hm hm' hnm hmb hm1 hgl hb1 hF1 hw1
  go_enter Try.func15, Try.ntmps15
  go_wp2_with fail
  rw [← Hw1.out]
  refine HM.out.mono ?_
  rintro e w2 ⟨rfl, hF2⟩
  have hb2 := cells_at Hb1.out hF2 (fun e => e)
  have HF2 := hide (HF1.out.join hF2)
  have HK := hide (HLc.out w2 (HL.out.keep0 hF2))
  have k0 := cell_of (o := 0) hb2 rfl
  have k1 := cell_of (o := 1) hb2 rfl
  have k2 := cell_of (o := 2) hb2 rfl
  clear hF2 hb2
  go_wp2_with fail
  refine HK.out.mono ?_
  rintro e w3 ⟨hF3, ⟨hlt, rfl⟩ | ⟨hle, v1, v2, rfl, h1, h2⟩⟩
  · have HF3 := hide (HF2.out.join hF3)
    go_wp2_with fail
    go_ret2
    exact ⟨HF3.out, by rw [show coloursV most (uniq px m).length = _ from if_pos hlt]; rfl⟩
  · have HF3 := hide (HF2.out.join hF3)
    obtain ⟨a1, c1, rfl⟩ := ownsRow_shape h1.own
    clear h1 h2 hF3
    go_wp2_with fail
    go_ret2
    have hno : ¬ most < ((uniq px m).length : Int) := by omega
    exact ⟨HF3.out, by rw [show coloursV most (uniq px m).length = _ from if_neg hno]; rfl⟩

set_option maxHeartbeats 400000 in
set_option maxRecDepth 100000 in
theorem rcolours_no (W H most : Int) (a : Option Addr) (n c : Nat) (w : World) (hmay : mayB W H n = false) :
    Calls Try.prog 15 #[rasV W H a n c, .int .i64 most] w fun e w' => Fr (fun _ => False) w w' ∧ e = .returned (.tuple #[.int .i64 0, .bool false]) := by
  obtain ⟨w1, hw1⟩ : ∃ w1, w1 = w.alloc (.cells #[.int .i64 W, .int .i64 H, .slice a n c] 24) := ⟨_, rfl⟩
  have hF1 : Fr (fun _ => False) w w1 := by rw [hw1]; exact Fr.of_alloc _ _
  have HM := hide (rmay_c W H a n c w1)
  rw [hmay] at HM
  have HF1 := hide hF1
  have Hw1 := hide hw1
  clear hF1 hw1 hmay
  go_enter Try.func15, Try.ntmps15
  go_wp2_with fail
  rw [← Hw1.out]
  refine HM.out.mono ?_
  rintro e w2 ⟨rfl, hF2⟩
  have HF2 := hide (HF1.out.join hF2)
  clear hF2
  go_wp2_with fail
  go_ret2
  exact ⟨HF2.out, rfl⟩

/-- Both Colours answer alike. -/
theorem colours_both (W H most : Int) (a : Option Addr) (n c : Nat) (px : List Nat) (hp : px.length = n) (hc : n ≤ c) : ∃ (x : Int) (y : Bool), (∀ w, Lies w a px → Calls Try.prog 14 #[rasV W H a n c, .int .i64 most] w fun e w' => Fr (fun _ => False) w w' ∧ e = .returned (.tuple #[.int .i64 x, .bool y])) ∧ (∀ w, Lies w a px → Calls Try.prog 15 #[rasV W H a n c, .int .i64 most] w fun e w' => Fr (fun _ => False) w w' ∧ e = .returned (.tuple #[.int .i64 x, .bool y])) := by
  cases hmay : mayB W H n with
  | false => exact ⟨0, false, fun w _ => colours_no W H most a n c w hmay, fun w _ => rcolours_no W H most a n c w hmay⟩
  | true =>
    obtain ⟨m, hm, hnm, hmb, hm1⟩ := may_nums hmay
    have key : ∃ (x : Int) (y : Bool), coloursV most (uniq px m).length = #[.int .i64 x, .bool y] := by
      unfold coloursV
      by_cases h : most < ((uniq px m).length : Int)
      · exact ⟨0, false, by rw [if_pos h]⟩
      · exact ⟨_, true, by rw [if_neg h]⟩
    obtain ⟨x, y, hxy⟩ := key
    refine ⟨x, y, fun w hl => (colours_yes W H most a n c m px w hl hp hmay hm).mono ?_, fun w hl => (rcolours_yes W H most a n c m px w hl hp hc hmay hm).mono ?_⟩
    · rintro e w' ⟨hF, D, hD, hDm, rfl⟩
      rw [uniq_count hl.1 hnm hD hDm]
      refine ⟨hF, ?_⟩
      show Ending.returned (.tuple (coloursV most (uniq px m).length)) = _
      rw [hxy]
    · rintro e w' ⟨hF, rfl⟩
      rw [hxy]
      exact ⟨hF, rfl⟩

set_option maxHeartbeats 400000 in
set_option maxRecDepth 100000 in
theorem counts_law (W H : Int) (a : Option Addr) (n c : Nat) (px : List Nat) (most : Int) (w : World) (hl : Lies w a px) (hp : px.length = n) (hc : n ≤ c) :
    Calls Try.prog 3 #[rasV W H a n c, .int .i64 most] w fun e w' => e = .returned (.bool true) ∧ Fr (fun _ => False) w w' := by
  obtain ⟨x, y, hx, hy⟩ := colours_both W H most a n c px hp hc
  obtain ⟨w1, hw1⟩ : ∃ w1, w1 = w.alloc (.cells #[.int .i64 W, .int .i64 H, .slice a n c] 24) := ⟨_, rfl⟩
  have hb1 : w1.heap[w.heap.size]? = some (.cells #[.int .i64 W, .int .i64 H, .slice a n c] 24 (0, 0)) := by rw [hw1]; exact heap_alloc_at rfl
  have hF1 : Fr (fun _ => False) w w1 := by rw [hw1]; exact Fr.of_alloc _ _
  have HA := hide (awake_c w1)
  have HX := hide hx
  have HY := hide hy
  have HL := hide (hl.keep0 hF1)
  have Hb1 := hide hb1
  have HF1 := hide hF1
  have Hw1 := hide hw1
  clear hl hp hc hx hy hb1 hF1 hw1
  go_enter Try.func3, Try.ntmps3
  go_wp2_with fail
  rw [← Hw1.out]
  refine HA.out.mono ?_
  rintro e w2 ⟨rfl, hF2⟩
  have hb2 := cells_at Hb1.out hF2 (fun e => e)
  have HF2 := hide (HF1.out.join hF2)
  have HL2 := hide (HL.out.keep0 hF2)
  have Hb2 := hide hb2
  have k0 := cell_of (o := 0) hb2 rfl
  have k1 := cell_of (o := 1) hb2 rfl
  have k2 := cell_of (o := 2) hb2 rfl
  clear hF2 hb2
  by_cases hbig : (8000 : Int) < (n : Int)
  · go_wp2_with fail
    go_ret
    exact ⟨rfl, HF2.out⟩
  have HC := hide (HX.out w2 HL2.out)
  go_wp2_with fail
  refine HC.out.mono ?_
  rintro e w3 ⟨hF3, rfl⟩
  have HF3 := hide (HF2.out.join hF3)
  have HC2 := hide (HY.out w3 (HL2.out.keep0 hF3))
  have hb3 := cells_at Hb2.out hF3 (fun e => e)
  clear k0 k1 k2
  have k0 := cell_of (o := 0) hb3 rfl
  have k1 := cell_of (o := 1) hb3 rfl
  have k2 := cell_of (o := 2) hb3 rfl
  clear hF3 hb3
  go_wp2_with fail
  refine HC2.out.mono ?_
  rintro e w4 ⟨hF4, rfl⟩
  have HF4 := hide (HF3.out.join hF4)
  clear hF4 k0 k1 k2
  go_wp2_with fail
  go_ret
  exact ⟨by simp, HF4.out⟩
end Go.Proofs.Ythdilabmajaehaa
