/-
  adam: the document's Passes.
-/
import Derived.Test.YtdnhndiaiejkoaaDoorRd
namespace Go.Proofs.YtdnhndiaiejkoaaDoor
open Go.RowKit
set_option linter.unusedVariables false

theorem cnt_lt {s x d j : Int} (hd : 0 < d) : x + j * d < s ↔ j < cnt s x d := by
  unfold cnt
  rw [Int.lt_iff_add_one_le, Int.lt_iff_add_one_le, Int.le_ediv_iff_mul_le hd, Int.add_mul]
  omega
theorem grid_lies {w : World} {g : Nat} (h : w.heap[g]? = some (.cells (cellsP gridL).toArray 40 (0, 0))) {k : Nat} (hk : k < 7) : At6 w g (k * 6) (gr k) := by
  have hc : ∀ r, r < 6 → ∀ u, (gr k).cells[r]? = some u → w.cell? ⟨g, k * 6 + r, none⟩ = some u := fun r hr u hu => by
    have h1 := cellsP_get gridL k hk r hr
    have h2 : gridL.getD k default = gr k := by
      rcases (by omega : k = 0 ∨ k = 1 ∨ k = 2 ∨ k = 3 ∨ k = 4 ∨ k = 5 ∨ k = 6) with rfl | rfl | rfl | rfl | rfl | rfl | rfl <;> rfl
    rw [h2, hu] at h1
    exact cell_of h (by rw [← Array.getElem?_toList]; exact h1)
  exact ⟨hc 0 (by decide) _ rfl, hc 1 (by decide) _ rfl, hc 2 (by decide) _ rfl, hc 3 (by decide) _ rfl, hc 4 (by decide) _ rfl, hc 5 (by decide) _ rfl⟩

set_option maxHeartbeats 1600000 in
set_option maxRecDepth 100000 in
theorem rpasses_c (W H : Int) (w : World) (h : sizeE W H = 0) : Calls Tryd.prog 11 #[.int .i64 W, .int .i64 H] w fun e w' => ∃ v, e = .returned v ∧ OwnP 40 w' w.heap.size v (pas W H 7) ∧ Fr (fun _ => False) w w' := by
  obtain ⟨s1, s2, s3, s4, _⟩ := size_ok h
  obtain ⟨w1, hw1⟩ : ∃ w1, w1 = w.alloc (.cells (cellsP gridL).toArray 40) := ⟨_, rfl⟩
  obtain ⟨R, hR⟩ : ∃ R, R = w.heap.size := ⟨_, rfl⟩
  have HB1 : Hid (w1.heap[R]? = some (.cells (cellsP gridL).toArray 40 (0, 0))) := by rw [hw1]; exact heap_alloc_at hR
  have HF1 : Hid (Fr (fun _ => False) w w1) := by rw [hw1]; exact Fr.of_alloc _ _
  have HRl : Hid (R < w1.heap.size) := lt_of HB1.out
  have HR := hide hR
  have Hw1 := hide hw1
  clear hR hw1
  go_enter Tryd.func11, Tryd.ntmps11
  go_upto_region 4 with (go_at_call 21; refine (rsize_c W H _).mono ?_; rintro e w2 ⟨rfl, h1⟩; replace h1 := h1.symm; subst h1; rw [h])
  clear h
  have hgr : (#[.int .i64 0, .int .i64 0, .int .i64 8, .int .i64 8, .int .i64 0, .int .i64 0, .int .i64 4, .int .i64 0, .int .i64 8, .int .i64 8, .int .i64 0, .int .i64 0, .int .i64 0, .int .i64 4, .int .i64 4, .int .i64 8, .int .i64 0, .int .i64 0, .int .i64 2, .int .i64 0, .int .i64 4, .int .i64 4, .int .i64 0, .int .i64 0, .int .i64 0, .int .i64 2, .int .i64 2, .int .i64 4, .int .i64 0, .int .i64 0, .int .i64 1, .int .i64 0, .int .i64 2, .int .i64 2, .int .i64 0, .int .i64 0, .int .i64 0, .int .i64 1, .int .i64 1, .int .i64 2, .int .i64 0, .int .i64 0] : Array Value) = (cellsP gridL).toArray := rfl
  rw [hgr]
  clear hgr
  rw [← Hw1.out, ← HR.out]
  go_wp2
  go_loopw [6, 7] (fun ov iv wr => ∃ (k : Nat) (va : Option Addr) (vc : Nat), k ≤ 7 ∧ iv = .int .i64 k ∧ ov = .slice va (pas W H k).length vc ∧ Hid (OwnP 40 wr w1.heap.size (.slice va (pas W H k).length vc) (pas W H k)) ∧ Hid (Fr (fun _ => False) w1 wr)) (fun _ iv _ => 7 - (intOf iv).toNat)
  case atStart => exact ⟨0, none, 0, by omega, rfl, rfl, OwnP.nil _ _ _, Fr.refl _ _⟩
  case round =>
    obtain ⟨k, va, vc, hk, rfl, rfl, HO, HF⟩ := hrel
    obtain ⟨wo, rfl⟩ : ∃ wo : World, wo = wr := ⟨_, rfl⟩
    by_cases hlt : k < 7
    · have h1 : (k : Int) < 7 := by omega
      have h0 : (0 : Int) ≤ (k : Int) := by omega
      obtain ⟨f1, f2, f3, f4, f5, f6, f7, f8⟩ := gr_facts k
      have HP := hide (show psn W H k = { gr k with w := cnt W (gr k).x (gr k).dx, h := cnt H (gr k).y (gr k).dy } from rfl)
      have hz : (gr k).w = 0 ∧ (gr k).h = 0 := by
        rcases (by omega : k = 0 ∨ k = 1 ∨ k = 2 ∨ k = 3 ∨ k = 4 ∨ k = 5 ∨ k = 6) with rfl | rfl | rfl | rfl | rfl | rfl | rfl <;> exact ⟨rfl, rfl⟩
      obtain ⟨g0, g1, g2, g3, g4, g5⟩ := (grid_lies HB1.out hlt).fr0 HF.out
      rw [hz.1] at g4
      rw [hz.2] at g5
      clear hz
      generalize gr k = q at *
      obtain ⟨x, y, dx, dy, zw, zh⟩ := q
      simp only [] at f1 f2 f3 f4 f5 f6 f7 f8 HP g0 g1 g2 g3
      have hC := cnt_facts s1 s2 f1 f2
      have hD := cnt_facts s3 s4 f5 f6
      have HC := hide (fun j => cnt_lt (s := W) (x := x) (d := dx) (j := j) (by omega))
      have HD := hide (fun j => cnt_lt (s := H) (x := y) (d := dy) (j := j) (by omega))
      generalize cnt W x dx = C at *
      generalize cnt H y dy = D at *
      obtain ⟨C, rfl⟩ := Int.eq_ofNat_of_zero_le hC.1
      obtain ⟨D, rfl⟩ := Int.eq_ofNat_of_zero_le hD.1
      go_upto_region 9 with fail
      obtain ⟨P, hP⟩ : ∃ P, P = wo.heap.size := ⟨_, rfl⟩
      obtain ⟨w2, hw2⟩ : ∃ w2, w2 = wo.alloc (.cells #[.int .i64 x, .int .i64 y, .int .i64 dx, .int .i64 dy, .int .i64 0, .int .i64 0] 40) := ⟨_, rfl⟩
      have hB2 : w2.heap[P]? = some (.cells #[.int .i64 x, .int .i64 y, .int .i64 dx, .int .i64 dy, .int .i64 0, .int .i64 0] 40 (0, 0)) := by rw [hw2]; exact heap_alloc_at hP
      have hF2 : Fr (fun _ => False) wo w2 := by rw [hw2]; exact Fr.of_alloc _ _
      rw [← hw2, ← hP]
      have HB2 := hide hB2
      have HF2 := hide hF2
      have HPs := hide hP
      have z0 := cell_of (o := 0) hB2 rfl
      clear hB2 hF2 hw2 hP g0 g1 g2 g3 g4 g5
      go_wp2
      clear z0
      go_loopw [9] (fun xv wq => ∃ (j : Nat) (X : Int), xv = .int .i64 X ∧ j ≤ C ∧ 0 ≤ X ∧ X ≤ 300 ∧ Hid (X = x + (j : Int) * dx) ∧ Hid (wq.heap[P]? = some (.cells #[.int .i64 x, .int .i64 y, .int .i64 dx, .int .i64 dy, .int .i64 (j : Int), .int .i64 0] 40 (0, 0))) ∧ Hid (Fr (fun i => i = P) w2 wq)) (fun xv _ => (W - intOf xv).toNat)
      case atStart => exact ⟨0, x, rfl, by omega, f1, by omega, by show _ = _; simp, HB2.out, Fr.refl _ _⟩
      case round =>
        obtain ⟨j, X, rfl, hj, hX0, hX1, HX, HBq, HFq⟩ := hrel
        have hiff := HC.out (j : Int)
        rw [← HX.out] at hiff
        by_cases hjC : j < C
        · have hXW : X < W := hiff.2 (by omega)
          have z2 := cell_of (o := 2) HBq.out rfl
          have z4 := cell_of (o := 4) HBq.out rfl
          have y4 := frozen_of (o := 4) HBq.out
          have HB3 := hide (heap_setCell_own (o := 4) (.int .i64 ((j : Int) + 1)) HBq.out)
          have z6 := cell_of (o := 2) HB3.out rfl
          have HF3 := hide (HFq.out.join (Fr.of_setCell wr ⟨P, 4, none⟩ (.int .i64 ((j : Int) + 1))))
          go_wp2
          go_roundw
          case rel => exact ⟨j + 1, X + dx, by go_num, by omega, by omega, by omega, by show _ = _; rw [HX.out]; push_cast; rw [Int.add_mul]; omega, HB3.out, HF3.out⟩
          case measure => simp [intOf]; omega
        · have hXW : ¬ X < W := fun h => by have := hiff.1 h; omega
          obtain ⟨J0, hJ0⟩ : ∃ J0, J0 = j := ⟨_, rfl⟩
          have ejC : C = J0 := by omega
          subst ejC
          rw [← hJ0] at HBq
          clear hJ0 hjC hj
          have z1 := cell_of (o := 1) HBq.out rfl
          go_wp2
          clear z1
          obtain ⟨w3, rfl⟩ : ∃ w3 : World, w3 = wr := ⟨_, rfl⟩
          have HB3 := hide HBq.out
          have HF3 := hide (frJ HF2.out HFq.out fun i hi => by have : i = P := hi; rw [this, HPs.out]; exact Nat.le_refl _)
          clear HBq HFq hiff HX HC hX0 hX1 hXW HF2 HB2
          go_loopw [10] (fun xv wq => ∃ (j : Nat) (X : Int), xv = .int .i64 X ∧ j ≤ D ∧ 0 ≤ X ∧ X ≤ 300 ∧ Hid (X = y + (j : Int) * dy) ∧ Hid (wq.heap[P]? = some (.cells #[.int .i64 x, .int .i64 y, .int .i64 dx, .int .i64 dy, .int .i64 (C : Int), .int .i64 (j : Int)] 40 (0, 0))) ∧ Hid (Fr (fun i => i = P) w3 wq)) (fun xv _ => (H - intOf xv).toNat)
          case atStart => exact ⟨0, y, rfl, by omega, f5, by omega, by show _ = _; simp, HB3.out, Fr.refl _ _⟩
          case round =>
            obtain ⟨j, Y, rfl, hj, hY0, hY1, HY, HBq, HFq⟩ := hrel
            have hiff := HD.out (j : Int)
            rw [← HY.out] at hiff
            by_cases hjD : j < D
            · have hYH : Y < H := hiff.2 (by omega)
              have z3 := cell_of (o := 3) HBq.out rfl
              have z5 := cell_of (o := 5) HBq.out rfl
              have y5 := frozen_of (o := 5) HBq.out
              have HB4 := hide (heap_setCell_own (o := 5) (.int .i64 ((j : Int) + 1)) HBq.out)
              have z6 := cell_of (o := 3) HB4.out rfl
              have HF4 := hide (HFq.out.join (Fr.of_setCell wr ⟨P, 5, none⟩ (.int .i64 ((j : Int) + 1))))
              go_wp2
              go_roundw
              case rel => exact ⟨j + 1, Y + dy, by go_num, by omega, by omega, by omega, by show _ = _; rw [HY.out]; push_cast; rw [Int.add_mul]; omega, HB4.out, HF4.out⟩
              case measure => simp [intOf]; omega
            · have hYH : ¬ Y < H := fun h => by have := hiff.1 h; omega
              obtain rfl : j = D := by omega
              have hA := At6.of (q := ⟨x, y, dx, dy, C, j⟩) HBq.out
              have HF5 := hide (frJ HF3.out HFq.out fun i hi => by have : i = P := hi; rw [this, HPs.out]; exact Nat.le_refl _)
              have HO5 := hide (HO.out.keep0 HF5.out)
              have HF6 := hide (HF.out.join HF5.out)
              obtain ⟨w5, rfl⟩ : ∃ w5 : World, w5 = wr := ⟨_, rfl⟩
              obtain ⟨l0, l1, l2, l3, l4, l5⟩ := hA
              clear HBq HFq hiff HY hY0 hY1 HB3 HF3 HF5 HO HF
              by_cases hC0 : 0 < C
              · by_cases hD0 : 0 < j
                · have hps : pas W H (k + 1) = pas W H k ++ [⟨x, y, dx, dy, C, j⟩] := by rw [pas_yes (by rw [HP.out]; simpa using hC0) (by rw [HP.out]; simpa using hD0), HP.out]
                  have hle := pas_le W H k
                  have HPS := hide hps
                  clear hps
                  have HA4 := hide (At6.of (q := ⟨x, y, dx, dy, C, j⟩) (heap_alloc_new w5 (.cells (Pz.arr ⟨x, y, dx, dy, C, j⟩) 40)))
                  have HO4 := hide (HO5.out.keep0 (Fr.of_alloc w5 (.cells (Pz.arr ⟨x, y, dx, dy, C, j⟩) 40)))
                  have HF4 := hide (HF6.out.join (Fr.of_alloc w5 (.cells (Pz.arr ⟨x, y, dx, dy, C, j⟩) 40)))
                  have HL4 := hide (show (pas W H k).length ≤ 100000 by omega)
                  have hc0 : (0 : Int) < (C : Int) := by omega
                  have hd0 : (0 : Int) < (j : Int) := by omega
                  generalize pas W H k = pk at *
                  go_wp2_with (at_builtin; go_must (refine wpList_plain rfl fun K hK => ?_); refine wp_appP 40 24 (.tmp 65) (.tmp 67) Tryd.underlying24 Tryd.info40 rfl w1.heap.size _ pk rfl HO4.out w5.heap.size 1 ⟨x, y, dx, dy, C, j⟩ rfl HA4.out HL4.out HF4.out.size ?_; intro a5 c5 w6 hO5 hF5; refine hK _ _ ?_; clear hK)
                  have HF5 := hide (fr_ownP HF4.out HO4.out (Nat.le_refl _) hF5)
                  rw [← HPS.out] at hO5
                  clear hF5
                  go_roundw
                  case rel => exact ⟨k + 1, a5, c5, by omega, by go_num, by rw [HPS.out, List.length_append]; rfl, by rw [show (pas W H (k + 1)).length = pk.length + 1 by rw [HPS.out, List.length_append]; rfl]; exact hO5, HF5.out⟩
                  case measure => simp [intOf]; omega
                · have hps : pas W H (k + 1) = pas W H k := pas_no (by rw [HP.out]; exact fun h => hD0 (by simpa using h.2))
                  have HPS := hide hps
                  clear hps
                  have hc0 : (0 : Int) < (C : Int) := by omega
                  have hd0 : ¬ (0 : Int) < (j : Int) := by omega
                  generalize pas W H k = pk at *
                  go_wp2
                  go_roundw
                  case rel => exact ⟨k + 1, va, vc, by omega, by go_num, by rw [HPS.out], by rw [HPS.out]; exact HO5.out, HF6.out⟩
                  case measure => simp [intOf]; omega
              · have hps : pas W H (k + 1) = pas W H k := pas_no (by rw [HP.out]; exact fun h => hC0 (by simpa using h.1))
                have HPS := hide hps
                clear hps
                have hc0 : ¬ (0 : Int) < (C : Int) := by omega
                generalize pas W H k = pk at *
                go_wp2
                go_roundw
                case rel => exact ⟨k + 1, va, vc, by omega, by go_num, by rw [HPS.out], by rw [HPS.out]; exact HO5.out, HF6.out⟩
                case measure => simp [intOf]; omega
    · have hke : k = 7 := by omega
      subst hke
      go_wp2
      go_ret
      exact ⟨_, rfl, HO.out.low (Nat.le_of_lt (by rw [← HR.out]; exact HRl.out)), HF1.out.join HF.out⟩
end Go.Proofs.YtdnhndiaiejkoaaDoor
