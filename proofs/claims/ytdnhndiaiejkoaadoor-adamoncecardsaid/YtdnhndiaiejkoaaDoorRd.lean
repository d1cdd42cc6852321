/-
  adam: Passes.
-/
import Derived.Test.YtdnhndiaiejkoaaDoorRb
import Derived.Deep.MidRow
namespace Go.Proofs.YtdnhndiaiejkoaaDoor
open Go.RowKit
set_option linter.unusedVariables false

/-- The laid variable: the seven grids. -/
def gridL : List Pz := [gr 0, gr 1, gr 2, gr 3, gr 4, gr 5, gr 6]
structure Gw (w : World) : Prop where
  cells : ∀ i, i < 42 → w.cell? ⟨0, i, none⟩ = (cellsP gridL)[i]?
theorem Gw.fr {w w' : World} (h : Gw w) (f : Fr (fun _ => False) w w') : Gw w' := ⟨fun i hi => by
  have h1 := h.cells i hi
  have h2 : i < (cellsP gridL).length := hi
  rw [List.getElem?_eq_getElem h2] at h1 ⊢
  exact f.cell0 h1⟩
theorem index_grid (k : Nat) (hk : k < 7) (w : World) : (Instr.index 43 (Value.agg #[.int .i64 0, .int .i64 0, .int .i64 8, .int .i64 8, .int .i64 0, .int .i64 0, .int .i64 4, .int .i64 0, .int .i64 8, .int .i64 8, .int .i64 0, .int .i64 0, .int .i64 0, .int .i64 4, .int .i64 4, .int .i64 8, .int .i64 0, .int .i64 0, .int .i64 2, .int .i64 0, .int .i64 4, .int .i64 4, .int .i64 0, .int .i64 0, .int .i64 0, .int .i64 2, .int .i64 2, .int .i64 4, .int .i64 0, .int .i64 0, .int .i64 1, .int .i64 0, .int .i64 2, .int .i64 2, .int .i64 0, .int .i64 0, .int .i64 0, .int .i64 1, .int .i64 1, .int .i64 2, .int .i64 0, .int .i64 0]) (.int .i64 (k : Int))).run Tryd.prog w = .ok (.agg (gr k).arr) w := by
  rcases (by omega : k = 0 ∨ k = 1 ∨ k = 2 ∨ k = 3 ∨ k = 4 ∨ k = 5 ∨ k = 6) with rfl | rfl | rfl | rfl | rfl | rfl | rfl <;> kernel_rfl

set_option maxHeartbeats 1600000 in
set_option maxRecDepth 100000 in
theorem passes_c (W H : Int) (w : World) (hg : Gw w) (h : sizeE W H = 0) : Calls Tryd.prog 10 #[.int .i64 W, .int .i64 H] w fun e w' => ∃ v, e = .returned v ∧ OwnP 32 w' w.heap.size v (pas W H 7) ∧ Fr (fun _ => False) w w' := by
  have HG := hide hg
  obtain ⟨s1, s2, s3, s4, _⟩ := size_ok h
  clear hg
  go_enter Tryd.func10, Tryd.ntmps10
  go_upto_region 4 with (go_at_call 19; refine (size_c W H _).mono ?_; rintro e w1 ⟨rfl, h1⟩; replace h1 := h1.symm; subst h1; rw [h])
  clear h
  have hr : w.rangeAt 0 0 (cellsP gridL) := fun j v hj => by
    rw [Nat.zero_add, HG.out.cells j (List.getElem?_eq_some_iff.1 hj).1]
    exact hj
  refine wp_region_lit ?_
  refine wpList_load_mid rfl 43 (.global 0) rfl 0 0 rfl (cellsP gridL) _ hr Tryd.underlying43 rfl (by kernel_rfl) ?_
  clear hr
  have hgr : Value.agg (cellsP gridL).toArray = (Value.agg #[.int .i64 0, .int .i64 0, .int .i64 8, .int .i64 8, .int .i64 0, .int .i64 0, .int .i64 4, .int .i64 0, .int .i64 8, .int .i64 8, .int .i64 0, .int .i64 0, .int .i64 0, .int .i64 4, .int .i64 4, .int .i64 8, .int .i64 0, .int .i64 0, .int .i64 2, .int .i64 0, .int .i64 4, .int .i64 4, .int .i64 0, .int .i64 0, .int .i64 0, .int .i64 2, .int .i64 2, .int .i64 4, .int .i64 0, .int .i64 0, .int .i64 1, .int .i64 0, .int .i64 2, .int .i64 2, .int .i64 0, .int .i64 0, .int .i64 0, .int .i64 1, .int .i64 1, .int .i64 2, .int .i64 0, .int .i64 0]) := rfl
  rw [hgr]
  clear hgr
  have HE := hide (fun k hk w => index_grid k hk w)
  generalize (Value.agg #[.int .i64 0, .int .i64 0, .int .i64 8, .int .i64 8, .int .i64 0, .int .i64 0, .int .i64 4, .int .i64 0, .int .i64 8, .int .i64 8, .int .i64 0, .int .i64 0, .int .i64 0, .int .i64 4, .int .i64 4, .int .i64 8, .int .i64 0, .int .i64 0, .int .i64 2, .int .i64 0, .int .i64 4, .int .i64 4, .int .i64 0, .int .i64 0, .int .i64 0, .int .i64 2, .int .i64 2, .int .i64 4, .int .i64 0, .int .i64 0, .int .i64 1, .int .i64 0, .int .i64 2, .int .i64 2, .int .i64 0, .int .i64 0, .int .i64 0, .int .i64 1, .int .i64 1, .int .i64 2, .int .i64 0, .int .i64 0]) = G at HE ⊢
  go_wp2
  go_loopw [5, 13] (fun ov iv wr => ∃ (k : Nat) (va : Option Addr) (vc : Nat), k ≤ 7 ∧ iv = .int .i64 k ∧ ov = .slice va (pas W H k).length vc ∧ Hid (OwnP 32 wr w.heap.size (.slice va (pas W H k).length vc) (pas W H k)) ∧ Hid (Fr (fun _ => False) w wr)) (fun _ iv _ => 7 - (intOf iv).toNat)
  case atStart => exact ⟨0, none, 0, by omega, rfl, rfl, OwnP.nil _ _ _, Fr.refl _ _⟩
  case round =>
    obtain ⟨k, va, vc, hk, rfl, rfl, HO, HF⟩ := hrel
    by_cases hlt : k < 7
    · have hE := fun W => HE.out k hlt W
      have h1 : (k : Int) < 7 := by omega
      obtain ⟨f1, f2, f3, f4, f5, f6, f7, f8⟩ := gr_facts k
      have HP := hide (show psn W H k = { gr k with w := cnt W (gr k).x (gr k).dx, h := cnt H (gr k).y (gr k).dy } from rfl)
      have ha : (gr k).arr = #[.int .i64 (gr k).x, .int .i64 (gr k).y, .int .i64 (gr k).dx, .int .i64 (gr k).dy, .int .i64 0, .int .i64 0] := by
        match k, hlt with
        | 0, _ | 1, _ | 2, _ | 3, _ | 4, _ | 5, _ | 6, _ => rfl
      rw [ha] at hE
      clear ha
      generalize gr k = q at *
      obtain ⟨x, y, dx, dy, zw, zh⟩ := q
      simp only [] at f1 f2 f3 f4 f5 f6 f7 f8 HP hE
      have hC := cnt_facts s1 s2 f1 f2
      have hD := cnt_facts s3 s4 f5 f6
      have HC := hide (fun w => count_c W x dx w s1 s2 f1 f2 f4)
      have HD := hide (fun w => count_c H y dy w s3 s4 f5 f6 f8)
      generalize cnt W x dx = C at *
      generalize cnt H y dy = D at *
      go_upto_region 7 with fail
      obtain ⟨P, hP⟩ : ∃ P, P = wr.heap.size := ⟨_, rfl⟩
      obtain ⟨w2, hw2⟩ : ∃ w2, w2 = wr.alloc (.cells #[.int .i64 x, .int .i64 y, .int .i64 dx, .int .i64 dy, .int .i64 0, .int .i64 0] 32) := ⟨_, rfl⟩
      have hB2 : w2.heap[P]? = some (.cells #[.int .i64 x, .int .i64 y, .int .i64 dx, .int .i64 dy, .int .i64 0, .int .i64 0] 32 (0, 0)) := by rw [hw2]; exact heap_alloc_at hP
      have hF2 : Fr (fun _ => False) wr w2 := by rw [hw2]; exact Fr.of_alloc _ _
      rw [← hw2, ← hP]
      have HB2 := hide (show w2.drew.heap[P]? = some (.cells #[.int .i64 x, .int .i64 y, .int .i64 dx, .int .i64 dy, .int .i64 0, .int .i64 0] 32 (0, 0)) from hB2)
      have HB3 := hide (heap_setCell_own (o := 4) (.int .i64 C) HB2.out)
      have HB4 := hide (heap_setCell_own (o := 5) (.int .i64 D) HB3.out)
      have c4 := cell_of (o := 4) HB2.out rfl
      have z4 := frozen_of (o := 4) HB2.out
      have c5 : w2.cell? ⟨P, 5, none⟩ = some (.int .i64 0) := cell_of (o := 5) hB2 rfl
      have z5 : w2.frozen? ⟨P, 5, none⟩ = false := frozen_of (o := 5) hB2
      have HF2 := hide hF2
      have HPs := hide hP
      clear hB2 hF2 hw2 hP
      refine wp_region_held_drew (S := fun W' => ∃ a b, W'.heap[P]? = some (Obj.cells #[.int .i64 x, .int .i64 y, .int .i64 dx, .int .i64 dy, a, b] 32 (0, 0))) (by kernel_rfl) ⟨_, _, HB2.out⟩ (fun hHeld => ?_)
      refine wpAnyH_take (i := 0) (v := ?v0) rfl (by kernel_rfl) (by kernel_rfl) (by kernel_rfl) (fun _ _ _ h => h) (Or.inl ⟨by rfl, ?hy0⟩) hHeld ?rest0
      case hy0 => (intro W hSw; (try dsimp only at hSw); obtain ⟨ka, kb, hk⟩ := hSw; have y0 := cell_of (o := 0) hk rfl; have y1 := cell_of (o := 1) hk rfl; have y2 := cell_of (o := 2) hk rfl; have y3 := cell_of (o := 3) hk rfl; go_simp; all_goals (with_reducible rfl))
      change wpAnyH _ _ _ _ _ _ _ (Act.put _ (some 16) _) _
      simp only [Act.put, List.setIfInBounds_toArray, List.set_cons_zero, List.set_cons_succ]
      refine wpAnyH_take (i := 1) (v := ?v1) rfl (by kernel_rfl) (by kernel_rfl) (by kernel_rfl) (fun _ _ _ h => h) (Or.inl ⟨by rfl, ?hy1⟩) hHeld ?rest1
      case hy1 => (intro W hSw; (try dsimp only at hSw); obtain ⟨ka, kb, hk⟩ := hSw; have y0 := cell_of (o := 0) hk rfl; have y1 := cell_of (o := 1) hk rfl; have y2 := cell_of (o := 2) hk rfl; have y3 := cell_of (o := 3) hk rfl; go_simp; all_goals (with_reducible rfl))
      change wpAnyH _ _ _ _ _ _ _ (Act.put _ (some 17) _) _
      simp only [Act.put, List.setIfInBounds_toArray, List.set_cons_zero, List.set_cons_succ]
      refine wpAnyH_take (i := 3) (v := ?v3) rfl (by kernel_rfl) (by kernel_rfl) (by kernel_rfl) (fun _ _ _ h => h) (Or.inl ⟨by rfl, ?hy3⟩) hHeld ?rest3
      case hy3 => (intro W hSw; (try dsimp only at hSw); obtain ⟨ka, kb, hk⟩ := hSw; have y0 := cell_of (o := 0) hk rfl; have y1 := cell_of (o := 1) hk rfl; have y2 := cell_of (o := 2) hk rfl; have y3 := cell_of (o := 3) hk rfl; go_simp; all_goals (with_reducible rfl))
      change wpAnyH _ _ _ _ _ _ _ (Act.put _ (some 19) _) _
      simp only [Act.put, List.setIfInBounds_toArray, List.set_cons_zero, List.set_cons_succ]
      refine wpAnyH_take (i := 6) (v := ?v6) rfl (by kernel_rfl) (by kernel_rfl) (by kernel_rfl) (fun _ _ _ h => h) (Or.inl ⟨by rfl, ?hy6⟩) hHeld ?rest6
      case hy6 => (intro W hSw; (try dsimp only at hSw); obtain ⟨ka, kb, hk⟩ := hSw; have y0 := cell_of (o := 0) hk rfl; have y1 := cell_of (o := 1) hk rfl; have y2 := cell_of (o := 2) hk rfl; have y3 := cell_of (o := 3) hk rfl; go_simp; all_goals (with_reducible rfl))
      change wpAnyH _ _ _ _ _ _ _ (Act.put _ (some 22) _) _
      simp only [Act.put, List.setIfInBounds_toArray, List.set_cons_zero, List.set_cons_succ]
      refine wpAnyH_take (i := 7) (v := ?v7) rfl (by kernel_rfl) (by kernel_rfl) (by kernel_rfl) (fun _ _ _ h => h) (Or.inl ⟨by rfl, ?hy7⟩) hHeld ?rest7
      case hy7 => (intro W hSw; (try dsimp only at hSw); obtain ⟨ka, kb, hk⟩ := hSw; have y0 := cell_of (o := 0) hk rfl; have y1 := cell_of (o := 1) hk rfl; have y2 := cell_of (o := 2) hk rfl; have y3 := cell_of (o := 3) hk rfl; go_simp; all_goals (with_reducible rfl))
      change wpAnyH _ _ _ _ _ _ _ (Act.put _ (some 23) _) _
      simp only [Act.put, List.setIfInBounds_toArray, List.set_cons_zero, List.set_cons_succ]
      refine wpAnyH_take (i := 9) (v := ?v9) rfl (by kernel_rfl) (by kernel_rfl) (by kernel_rfl) (fun _ _ _ h => h) (Or.inl ⟨by rfl, ?hy9⟩) hHeld ?rest9
      case hy9 => (intro W hSw; (try dsimp only at hSw); obtain ⟨ka, kb, hk⟩ := hSw; have y0 := cell_of (o := 0) hk rfl; have y1 := cell_of (o := 1) hk rfl; have y2 := cell_of (o := 2) hk rfl; have y3 := cell_of (o := 3) hk rfl; go_simp; all_goals (with_reducible rfl))
      change wpAnyH _ _ _ _ _ _ _ (Act.put _ (some 25) _) _
      simp only [Act.put, List.setIfInBounds_toArray, List.set_cons_zero, List.set_cons_succ]
      refine wpAnyH_take (i := 2) (v := ?v2) rfl (by kernel_rfl) (by kernel_rfl) (by kernel_rfl) (fun _ _ _ h => h) (Or.inl ⟨by rfl, ?hy2⟩) hHeld ?rest2
      case hy2 => (intro W hSw; (try dsimp only at hSw); obtain ⟨ka, kb, hk⟩ := hSw; have y0 := cell_of (o := 0) hk rfl; have y1 := cell_of (o := 1) hk rfl; have y2 := cell_of (o := 2) hk rfl; have y3 := cell_of (o := 3) hk rfl; go_simp; all_goals (with_reducible rfl))
      change wpAnyH _ _ _ _ _ _ _ (Act.put _ (some 18) _) _
      simp only [Act.put, List.setIfInBounds_toArray, List.set_cons_zero, List.set_cons_succ]
      refine wpAnyH_take (i := 4) (v := ?v4) rfl (by kernel_rfl) (by kernel_rfl) (by kernel_rfl) (fun _ _ _ h => h) (Or.inl ⟨by rfl, ?hy4⟩) hHeld ?rest4
      case hy4 => (intro W hSw; (try dsimp only at hSw); obtain ⟨ka, kb, hk⟩ := hSw; have y0 := cell_of (o := 0) hk rfl; have y1 := cell_of (o := 1) hk rfl; have y2 := cell_of (o := 2) hk rfl; have y3 := cell_of (o := 3) hk rfl; go_simp; all_goals (with_reducible rfl))
      change wpAnyH _ _ _ _ _ _ _ (Act.put _ (some 20) _) _
      simp only [Act.put, List.setIfInBounds_toArray, List.set_cons_zero, List.set_cons_succ]
      refine wpAnyH_take (i := 8) (v := ?v8) rfl (by kernel_rfl) (by kernel_rfl) (by kernel_rfl) (fun _ _ _ h => h) (Or.inl ⟨by rfl, ?hy8⟩) hHeld ?rest8
      case hy8 => (intro W hSw; (try dsimp only at hSw); obtain ⟨ka, kb, hk⟩ := hSw; have y0 := cell_of (o := 0) hk rfl; have y1 := cell_of (o := 1) hk rfl; have y2 := cell_of (o := 2) hk rfl; have y3 := cell_of (o := 3) hk rfl; go_simp; all_goals (with_reducible rfl))
      change wpAnyH _ _ _ _ _ _ _ (Act.put _ (some 24) _) _
      simp only [Act.put, List.setIfInBounds_toArray, List.set_cons_zero, List.set_cons_succ]
      refine wpAnyH_take (i := 10) (v := ?v10) rfl (by kernel_rfl) (by kernel_rfl) (by kernel_rfl) (fun _ _ _ h => h) (Or.inl ⟨by rfl, ?hy10⟩) hHeld ?rest10
      case hy10 => (intro W hSw; (try dsimp only at hSw); obtain ⟨ka, kb, hk⟩ := hSw; have y0 := cell_of (o := 0) hk rfl; have y1 := cell_of (o := 1) hk rfl; have y2 := cell_of (o := 2) hk rfl; have y3 := cell_of (o := 3) hk rfl; go_simp; all_goals (with_reducible rfl))
      change wpAnyH _ _ _ _ _ _ _ (Act.put _ (some 26) _) _
      simp only [Act.put, List.setIfInBounds_toArray, List.set_cons_zero, List.set_cons_succ]
      refine wpAnyH_ready (rs := [5]) (by kernel_rfl) (by simp) ?_
      refine AllReadyH.cons rfl (fun K hK => ?_) AllReadyH.nil
      try simp only [List.getElem_toArray, List.getElem_cons_succ, List.getElem_cons_zero]
      go_simp
      refine (HC.out _).mono ?_
      rintro e v ⟨rfl, rfl⟩
      refine hK.out _ _ hHeld (fun hHeld => ?_)
      clear hK K
      refine wpAnyH_take (i := 12) (v := ?v12) rfl (by kernel_rfl) (by kernel_rfl) (by kernel_rfl) (fun _ _ _ h => h) (Or.inl ⟨by rfl, ?hy12⟩) hHeld ?rest12
      case hy12 => (intro W hSw; (try dsimp only at hSw); obtain ⟨ka, kb, hk⟩ := hSw; have y0 := cell_of (o := 0) hk rfl; have y1 := cell_of (o := 1) hk rfl; have y2 := cell_of (o := 2) hk rfl; have y3 := cell_of (o := 3) hk rfl; go_simp; all_goals (with_reducible rfl))
      change wpAnyH _ _ _ _ _ _ _ (Act.put _ (some 28) _) _
      simp only [Act.put, List.setIfInBounds_toArray, List.set_cons_zero, List.set_cons_succ]
      refine wpAnyH_ready (rs := [11]) (by kernel_rfl) (by simp) ?_
      refine AllReadyH.cons rfl (fun K hK => ?_) AllReadyH.nil
      try simp only [List.getElem_toArray, List.getElem_cons_succ, List.getElem_cons_zero]
      go_simp
      refine (HD.out _).mono ?_
      rintro e v ⟨rfl, rfl⟩
      refine hK.out _ _ hHeld (fun hHeld => ?_)
      clear hK K
      refine wpAnyH_ready (rs := [13]) (by kernel_rfl) (by simp) ?_
      refine AllReadyH.cons rfl (fun K hK => ?_) AllReadyH.nil
      try simp only [List.getElem_toArray, List.getElem_cons_succ, List.getElem_cons_zero]
      go_simp
      refine hK.out _ _ ⟨_, _, HB3.out⟩ (fun hHeld => ?_)
      clear hK K
      refine wpAnyH_take (i := 14) (v := ?v14) rfl (by kernel_rfl) (by kernel_rfl) (by kernel_rfl) (fun _ _ _ h => h) (Or.inl ⟨by rfl, ?hy14⟩) hHeld ?rest14
      case hy14 => (intro W hSw; (try dsimp only at hSw); obtain ⟨ka, kb, hk⟩ := hSw; have y0 := cell_of (o := 0) hk rfl; have y1 := cell_of (o := 1) hk rfl; have y2 := cell_of (o := 2) hk rfl; have y3 := cell_of (o := 3) hk rfl; go_simp; all_goals (with_reducible rfl))
      change wpAnyH _ _ _ _ _ _ _ (Act.put _ (some 29) _) _
      simp only [Act.put, List.setIfInBounds_toArray, List.set_cons_zero, List.set_cons_succ]
      refine wpAnyH_ready (rs := [15]) (by kernel_rfl) (by simp) ?_
      refine AllReadyH.cons rfl (fun K hK => ?_) AllReadyH.nil
      try simp only [List.getElem_toArray, List.getElem_cons_succ, List.getElem_cons_zero]
      go_simp
      refine hK.out _ _ ⟨_, _, HB4.out⟩ (fun hHeld => ?_)
      clear hK K
      refine wpAnyH_done (by kernel_rfl) ?_ _
      obtain ⟨w3, hw3⟩ : ∃ w3, w3 = ((w2.setCell ⟨P, 4, none⟩ (.int .i64 C)).setCell ⟨P, 5, none⟩ (.int .i64 D)).drew := ⟨_, rfl⟩
      have hB5 : w3.heap[P]? = some (.cells (Pz.arr ⟨x, y, dx, dy, C, D⟩) 32 (0, 0)) := by rw [hw3]; exact HB4.out
      have hF3 : Fr (fun _ => False) wr w3 := by
        rw [hw3]
        refine frJ HF2.out ((Fr.of_setCell w2 ⟨P, 4, none⟩ (.int .i64 C)).join ((Fr.of_setCell (w2.setCell ⟨P, 4, none⟩ (.int .i64 C)) ⟨P, 5, none⟩ (.int .i64 D)).join (Fr.drew1 _ _))) fun i hi => ?_
        have : i = P := hi
        rw [this, HPs.out]
        exact Nat.le_refl _
      have hA := At6.of hB5
      have HO3 := hide (HO.out.keep0 hF3)
      have HF3 := hide (HF.out.join hF3)
      rw [← hw3]
      clear hw3 hF3 hB5 hHeld c4 z4 c5 z5 HB2 HB3 HB4 HF2 HO HF
      obtain ⟨l0, l1, l2, l3, l4, l5⟩ := hA
      by_cases hC0 : 0 < C
      · by_cases hD0 : 0 < D
        · have hps : pas W H (k + 1) = pas W H k ++ [⟨x, y, dx, dy, C, D⟩] := by rw [pas_yes (by rw [HP.out]; exact hC0) (by rw [HP.out]; exact hD0), HP.out]
          have hle := pas_le W H k
          have HPS := hide hps
          clear hps
          have HA4 := hide (At6.of (q := ⟨x, y, dx, dy, C, D⟩) (heap_alloc_new w3 (.cells (Pz.arr ⟨x, y, dx, dy, C, D⟩) 32)))
          have HO4 := hide (HO3.out.keep0 (Fr.of_alloc w3 (.cells (Pz.arr ⟨x, y, dx, dy, C, D⟩) 32)))
          have HF4 := hide (HF3.out.join (Fr.of_alloc w3 (.cells (Pz.arr ⟨x, y, dx, dy, C, D⟩) 32)))
          have HL4 := hide (show (pas W H k).length ≤ 100000 by omega)
          generalize pas W H k = pk at *
          go_wp2_with (at_builtin; go_must (refine wpList_plain rfl fun K hK => ?_); refine wp_appP 32 26 (.tmp 38) (.tmp 40) Tryd.underlying26 Tryd.info32 rfl w.heap.size _ pk rfl HO4.out w3.heap.size 1 ⟨x, y, dx, dy, C, D⟩ rfl HA4.out HL4.out HF4.out.size ?_; intro a5 c5 w5 hO5 hF5; refine hK _ _ ?_; clear hK)
          have HF5 := hide (fr_ownP HF4.out HO4.out (Nat.le_refl _) hF5)
          rw [← HPS.out] at hO5
          clear hF5
          go_roundw
          case rel => exact ⟨k + 1, a5, c5, by omega, by go_num, by rw [HPS.out, List.length_append]; rfl, by rw [show (pas W H (k + 1)).length = pk.length + 1 by rw [HPS.out, List.length_append]; rfl]; exact hO5, HF5.out⟩
          case measure => simp [intOf]; omega
        · have hps : pas W H (k + 1) = pas W H k := pas_no (by rw [HP.out]; exact fun h => hD0 h.2)
          have HPS := hide hps
          clear hps
          generalize pas W H k = pk at *
          go_wp2
          go_roundw
          case rel => exact ⟨k + 1, va, vc, by omega, by go_num, by rw [HPS.out], by rw [HPS.out]; exact HO3.out, HF3.out⟩
          case measure => simp [intOf]; omega
      · have hps : pas W H (k + 1) = pas W H k := pas_no (by rw [HP.out]; exact fun h => hC0 h.1)
        have HPS := hide hps
        clear hps
        generalize pas W H k = pk at *
        go_wp2
        go_roundw
        case rel => exact ⟨k + 1, va, vc, by omega, by go_num, by rw [HPS.out], by rw [HPS.out]; exact HO3.out, HF3.out⟩
        case measure => simp [intOf]; omega
    · have hke : k = 7 := by omega
      subst hke
      go_wp2
      go_ret
      exact ⟨_, rfl, HO.out, HF.out⟩
end Go.Proofs.YtdnhndiaiejkoaaDoor
