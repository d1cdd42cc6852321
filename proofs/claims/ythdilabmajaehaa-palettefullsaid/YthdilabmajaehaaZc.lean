/-
  palette: PaletteMakes.
-/
import Derived.Test.YthdilabmajaehaaZb
namespace Go.Proofs.Ythdilabmajaehaa
open Go.RowKit

/-- What Make answers where there is none. -/
abbrev noneV : Value := .tuple #[.agg #[.slice none 0 0, .int .i64 0], .slice none 0 0, .bool false]

/-- Both Makes. -/
theorem make_cases (W H : Int) (a : Option Addr) (n c : Nat) (px : List Nat) (hp : px.length = n) (hc : n ≤ c) :
    ((∀ w, Lies w a px → Calls Try.prog 26 #[rasV W H a n c] w fun e w' => Fr (fun _ => False) w w' ∧ e = .returned noneV) ∧ (∀ w, Lies w a px → Calls Try.prog 27 #[rasV W H a n c] w fun e w' => Fr (fun _ => False) w w' ∧ e = .returned noneV)) ∨
    ∃ m : Nat, mayB W H n = true ∧ (m : Int) = W * H ∧ n = 4 * m ∧ m ≤ 16384 ∧ 1 ≤ m ∧ fitsG px m = true ∧ (∀ w, Lies w a px → Calls Try.prog 26 #[rasV W H a n c] w fun e w' => Made px m w e w') ∧ (∀ w, Lies w a px → Calls Try.prog 27 #[rasV W H a n c] w fun e w' => Made px m w e w') := by
  cases hmay : mayB W H n with
  | false => exact Or.inl ⟨fun w _ => make_no W H a n c w fun w2 _ => fits_no W H 2 a n c w2 hmay, fun w _ => rmake_no W H a n c w fun w2 _ => rfits_out W H 2 a n c w2 (Or.inl hmay)⟩
  | true =>
    obtain ⟨m, hm, hnm, hmb, hm1⟩ := may_nums hmay
    have hv : fitsV 2 px m = fitsG px m := by unfold fitsV; rw [if_neg (by decide), if_pos rfl]
    cases hfit : fitsG px m with
    | false =>
      refine Or.inl ⟨fun w hl => make_no W H a n c w fun w2 f => ?_, fun w hl => rmake_no W H a n c w fun w2 f => ?_⟩
      · have h := fits_yes W H 2 a n c m px w2 (hl.keep0 f) hp hc hmay hm
        rw [hv, hfit] at h
        exact h
      · have h := rfits_yes W H 2 a n c m px w2 (hl.keep0 f) hp hc hmay hm (by decide) (by decide)
        rw [hv, hfit] at h
        exact h
    | true =>
      refine Or.inr ⟨m, rfl, hm, hnm, hmb, hm1, hfit, fun w hl => ?_, fun w hl => ?_⟩
      · obtain ⟨g, o, rfl, hgl⟩ := hl.form (by rw [hp]; omega)
        exact make_yes W H g o n c m px w hl hp hc hmay hm hfit hgl
      · obtain ⟨g, o, rfl, hgl⟩ := hl.form (by rw [hp]; omega)
        exact rmake_yes W H g o n c m px w hl hp hc hmay hm hfit

theorem conv_nil (w : World) : (convert 45 9 (.slice none 0 0)).run Try.prog w = .ok (.string ⟨#[]⟩) w := by
  rw [run_convert_bytes_string w 45 9 5 none 0 0 Try.underlying45 Try.underlying5 Try.underlying9]
  rfl

set_option maxHeartbeats 1000000 in
set_option maxRecDepth 100000 in
theorem makes_law (W H : Int) (a : Option Addr) (n c : Nat) (px : List Nat) (k : Int) (w : World) (hl : Lies w a px) (hp : px.length = n) (hc : n ≤ c) :
    Calls Try.prog 7 #[rasV W H a n c, .int .i64 k] w fun e w' => e = .returned (.bool true) ∧ Fr (fun _ => False) w w' := by
  have hcs := make_cases W H a n c px hp hc
  obtain ⟨w1, hw1⟩ : ∃ w1, w1 = w.alloc (.cells #[.int .i64 W, .int .i64 H, .slice a n c] 24) := ⟨_, rfl⟩
  obtain ⟨R, hR⟩ : ∃ R, R = w.heap.size := ⟨_, rfl⟩
  have hb1 : w1.heap[R]? = some (.cells #[.int .i64 W, .int .i64 H, .slice a n c] 24 (0, 0)) := by rw [hw1]; exact heap_alloc_at hR
  have hF1 : Fr (fun _ => False) w w1 := by rw [hw1]; exact Fr.of_alloc _ _
  have HA := hide (awake10_c w1)
  have HL := hide (hl.keep0 hF1)
  have Hb1 := hide hb1
  have HF1 := hide hF1
  have Hw1 := hide hw1
  have HR := hide hR
  have Hcs := hide hcs
  have HBt := hide fun w : World => bits_c k w
  have HRb := hide fun w : World => rbits_c k w
  have Hsm := hide hl.1
  clear hl hp hc hb1 hF1 hw1 hR hcs
  go_enter Try.func7, Try.ntmps7
  go_wp2_with fail
  rw [← Hw1.out, ← HR.out]
  refine HA.out.mono ?_
  rintro e w2 ⟨rfl, hF2⟩
  have hb2 := cells_at Hb1.out hF2 (fun e => e)
  have HF2 := hide (HF1.out.join hF2)
  have HL2 := hide (HL.out.keep0 hF2)
  have Hb2 := hide hb2
  have k0 := cell_of (o := 0) hb2 rfl
  have k1 := cell_of (o := 1) hb2 rfl
  have k2 := cell_of (o := 2) hb2 rfl
  clear hF2 hb2
  by_cases hbig : (8000 : Int) < (n : Int)
  · go_wp2_with fail
    go_ret
    exact ⟨rfl, HF2.out⟩
  rcases Hcs.out with ⟨h1, h2⟩ | ⟨m, g1, g2, g3, hmb, hm1, hfit, h1, h2⟩
  · have H1 := hide (h1 w2 HL2.out)
    have H2 := hide h2
    clear h1 h2
    go_wp2_with fail
    refine H1.out.mono ?_
    rintro e w3 ⟨hF3, rfl⟩
    obtain ⟨w4, hw4⟩ : ∃ w4, w4 = w3.alloc (.cells #[.slice none 0 0, .int .i64 0] 44) := ⟨_, rfl⟩
    obtain ⟨PB, hPB⟩ : ∃ P, P = w3.heap.size := ⟨_, rfl⟩
    have hF34 : Fr (fun _ => False) w3 w4 := by rw [hw4]; exact Fr.of_alloc _ _
    have hP4 : w4.heap[PB]? = some (.cells #[.slice none 0 0, .int .i64 0] 44 (0, 0)) := by rw [hw4]; exact heap_alloc_at hPB
    have hF24 := hF3.join hF34
    have HF4 := hide (HF2.out.join hF24)
    have HM4 := hide (H2.out w4 (HL2.out.keep0 hF24))
    have HP4 := hide hP4
    have hb4 := cells_at Hb2.out hF24 (fun e => e)
    clear k0 k1 k2
    have k0 := cell_of (o := 0) hb4 rfl
    have k1 := cell_of (o := 1) hb4 rfl
    have k2 := cell_of (o := 2) hb4 rfl
    have Hw4 := hide hw4
    have HPB := hide hPB
    rw [hw4] at k0 k1 k2
    clear hF3 hF34 hP4 hF24 hb4 hw4 hPB
    go_wp2_with fail
    rw [← Hw4.out, ← HPB.out]
    refine HM4.out.mono ?_
    rintro e w5 ⟨hF5, rfl⟩
    obtain ⟨w6, hw6⟩ : ∃ w6, w6 = w5.alloc (.cells #[.slice none 0 0, .int .i64 0] 48) := ⟨_, rfl⟩
    obtain ⟨QB, hQB⟩ : ∃ P, P = w5.heap.size := ⟨_, rfl⟩
    have hF56 : Fr (fun _ => False) w5 w6 := by rw [hw6]; exact Fr.of_alloc _ _
    have hQ6 : w6.heap[QB]? = some (.cells #[.slice none 0 0, .int .i64 0] 48 (0, 0)) := by rw [hw6]; exact heap_alloc_at hQB
    have hF46 := hF5.join hF56
    have HF6 := hide (HF4.out.join hF46)
    have hP6 := cells_at HP4.out hF46 (fun e => e)
    have hcv := conv_nil w6
    have HS6 := hide (same10_c none none 0 0 0 [] w6 ⟨rfl, (by intro x hx; cases hx), fun h => absurd h (Nat.lt_irrefl _)⟩ ⟨rfl, (by intro x hx; cases hx), fun h => absurd h (Nat.lt_irrefl _)⟩ (Nat.zero_le _))
    have HP6 := hide hP6
    have HQ6 := hide hQ6
    clear k0 k1 k2
    have p0 := cell_of (o := 0) hP6 rfl
    have q0 := cell_of (o := 0) hQ6 rfl
    have Hw6 := hide hw6
    have HQB := hide hQB
    rw [hw6] at hcv p0
    rw [hw6, hQB] at q0
    clear hF5 hF56 hQ6 hF46 hP6 hw6 hQB
    go_wp2_with fail
    rw [← Hw6.out, ← HQB.out]
    refine HS6.out.mono ?_
    rintro e w7 ⟨rfl, hF7⟩
    have hP7 := cells_at HP6.out hF7 (fun e => e)
    have hQ7 := cells_at HQ6.out hF7 (fun e => e)
    clear p0 q0 hcv
    have p1 := cell_of (o := 1) hP7 rfl
    have q1 := cell_of (o := 1) hQ7 rfl
    have HF7 := hide (HF6.out.join hF7)
    clear hF7 hP7 hQ7
    go_wp2_with fail
    refine (HBt.out w7).mono ?_
    rintro e w8 ⟨rfl, rfl⟩
    go_wp2_with fail
    refine (HRb.out w8).mono ?_
    rintro e w9 ⟨rfl, rfl⟩
    go_wp2_with fail
    go_ret
    exact ⟨by simp, HF7.out⟩
  · have H1 := hide (h1 w2 HL2.out)
    have H2 := hide h2
    clear h1 h2
    have hu256 : (uniq px m).length ≤ 256 := by
      unfold fitsG at hfit
      simp only [Bool.and_eq_true, decide_eq_true_eq] at hfit
      exact hfit.2.2
    have Hu := hide hu256
    have Hm1 := hide hm1
    clear hfit hu256 g1 g2 g3
    go_wp2_with fail
    refine H1.out.mono ?_
    rintro e w3 ⟨hF3, v1, v2, rfl, o1, o2⟩
    obtain ⟨a7, c7, rfl⟩ := ownsRow_shape o1.own
    obtain ⟨a8, c8, rfl⟩ := ownsRow_shape o2
    obtain ⟨L, hL⟩ : ∃ L, L = (uniq px m).length := ⟨_, rfl⟩
    obtain ⟨Z, hZ⟩ : ∃ Z, Z = clearV (uniq px m) := ⟨_, rfl⟩
    rw [← hL] at o1 ⊢
    rw [places_length] at o2 ⊢
    rw [← hZ]
    have hpl : ∀ b ∈ places px m, b < 256 := fun b hb => by have h1 := places_lt px m b hb; have h2 := Hu.out; omega
    have hcol := o1.cols (uniq_good Hsm.out m)
    have hbys := o2.bys hpl
    obtain ⟨w4, hw4⟩ : ∃ w4, w4 = w3.alloc (.cells #[.slice a7 L c7, .int .i64 Z] 44) := ⟨_, rfl⟩
    obtain ⟨PB, hPB⟩ : ∃ P, P = w3.heap.size := ⟨_, rfl⟩
    have hF34 : Fr (fun _ => False) w3 w4 := by rw [hw4]; exact Fr.of_alloc _ _
    have hP4 : w4.heap[PB]? = some (.cells #[.slice a7 L c7, .int .i64 Z] 44 (0, 0)) := by rw [hw4]; exact heap_alloc_at hPB
    have hF24 := hF3.join hF34
    have HF4 := hide (HF2.out.join hF24)
    have HM4 := hide (H2.out w4 (HL2.out.keep0 hF24))
    have HP4 := hide hP4
    have HC4 := hide (Cols.fr hcol hF34 (fun _ _ _ h => h))
    have HB4 := hide (Bys.fr hbys hF34 (fun _ _ _ h => h))
    have hb4 := cells_at Hb2.out hF24 (fun e => e)
    clear k0 k1 k2
    have k0 := cell_of (o := 0) hb4 rfl
    have k1 := cell_of (o := 1) hb4 rfl
    have k2 := cell_of (o := 2) hb4 rfl
    have Hw4 := hide hw4
    have HPB := hide hPB
    have HL3 := hide hL
    have HZ := hide hZ
    have Hpl := hide hpl
    rw [hw4] at k0 k1 k2
    clear hF3 hF34 hP4 hF24 hb4 hw4 hPB o1 o2 hcol hbys hL hZ hpl
    go_wp2_with fail
    rw [← Hw4.out, ← HPB.out]
    refine HM4.out.mono ?_
    rintro e w5 ⟨hF5, v3, v4, rfl, o3, o4⟩
    obtain ⟨a5, c5, rfl⟩ := ownsRow_shape o3.own
    obtain ⟨a6, c6, rfl⟩ := ownsRow_shape o4
    rw [← HL3.out] at o3 ⊢
    rw [places_length] at o4 ⊢
    rw [← HZ.out]
    have hcol2 := o3.cols (uniq_good Hsm.out m)
    have hbys2 := o4.bys Hpl.out
    obtain ⟨w6, hw6⟩ : ∃ w6, w6 = w5.alloc (.cells #[.slice a5 L c5, .int .i64 Z] 48) := ⟨_, rfl⟩
    obtain ⟨QB, hQB⟩ : ∃ P, P = w5.heap.size := ⟨_, rfl⟩
    have hF56 : Fr (fun _ => False) w5 w6 := by rw [hw6]; exact Fr.of_alloc _ _
    have hQ6 : w6.heap[QB]? = some (.cells #[.slice a5 L c5, .int .i64 Z] 48 (0, 0)) := by rw [hw6]; exact heap_alloc_at hQB
    have hF46 := hF5.join hF56
    have HF6 := hide (HF4.out.join hF46)
    have hP6 := cells_at HP4.out hF46 (fun e => e)
    have hcv1 := str_bys (c := c8) (Bys.fr HB4.out hF46 (fun _ _ _ h => h)) (by have := Hm1.out; omega)
    have hcv2 := str_bys (c := c6) (Bys.fr hbys2 hF56 (fun _ _ _ h => h)) (by have := Hm1.out; omega)
    have HS6 := hide (same10_c a7 a5 L c7 c5 (uniq px m) w6 (Cols.fr HC4.out hF46 (fun _ _ _ h => h)) (Cols.fr hcol2 hF56 (fun _ _ _ h => h)) (by have := Hu.out; have := HL3.out; omega))
    have HP6 := hide hP6
    have HQ6 := hide hQ6
    clear k0 k1 k2
    have p0 := cell_of (o := 0) hP6 rfl
    have q0 := cell_of (o := 0) hQ6 rfl
    have Hw6 := hide hw6
    have HQB := hide hQB
    rw [hw6] at hcv1 hcv2 p0
    rw [hw6, hQB] at q0
    clear hF5 hF56 hQ6 hF46 hP6 hw6 hQB o3 o4 hcol2 hbys2
    go_wp2_with fail
    rw [← Hw6.out, ← HQB.out]
    refine HS6.out.mono ?_
    rintro e w7 ⟨rfl, hF7⟩
    have hP7 := cells_at HP6.out hF7 (fun e => e)
    have hQ7 := cells_at HQ6.out hF7 (fun e => e)
    clear p0 q0 hcv1 hcv2
    have p1 := cell_of (o := 1) hP7 rfl
    have q1 := cell_of (o := 1) hQ7 rfl
    have HF7 := hide (HF6.out.join hF7)
    clear hF7 hP7 hQ7
    go_wp2_with fail
    refine (HBt.out w7).mono ?_
    rintro e w8 ⟨rfl, rfl⟩
    go_wp2_with fail
    refine (HRb.out w8).mono ?_
    rintro e w9 ⟨rfl, rfl⟩
    go_wp2_with fail
    go_ret
    exact ⟨by simp, HF7.out⟩
end Go.Proofs.Ythdilabmajaehaa
