/-
  palette: the document's Make; rows of colours compared.
-/
import Derived.Test.YthdilabmajaehaaYh
namespace Go.Proofs.Ythdilabmajaehaa
open Go.RowKit

set_option maxHeartbeats 400000 in
set_option maxRecDepth 100000 in
theorem make_no (W H : Int) (a : Option Addr) (n c : Nat) (w : World) (hf : ∀ w2, Fr (fun _ => False) w w2 → Calls Try.prog 21 #[rasV W H a n c, .int .i64 2] w2 fun e w' => Fr (fun _ => False) w2 w' ∧ e = .returned (.bool false)) :
    Calls Try.prog 26 #[rasV W H a n c] w fun e w' => Fr (fun _ => False) w w' ∧ e = .returned (.tuple #[.agg #[.slice none 0 0, .int .i64 0], .slice none 0 0, .bool false]) := by
  obtain ⟨w1, hw1⟩ : ∃ w1, w1 = (w.alloc (.cells #[.int .i64 W, .int .i64 H, .slice a n c] 24)).alloc (.cells #[.slice none 0 0, .int .i64 0] 44) := ⟨_, rfl⟩
  obtain ⟨R1, hR1⟩ : ∃ R, R = w.heap.size + 1 := ⟨_, rfl⟩
  have hb1 : w1.heap[R1]? = some (.cells #[.slice none 0 0, .int .i64 0] 44 (0, 0)) := by rw [hw1]; exact heap_alloc_at (by simp; omega)
  have hF1 : Fr (fun _ => False) w w1 := by rw [hw1]; exact (Fr.of_alloc _ _).join (Fr.of_alloc _ _)
  have HFX := hide (hf w1 hF1)
  have Hb1 := hide hb1
  have HF1 := hide hF1
  have Hw1 := hide hw1
  have HR1 := hide hR1
  clear hf hb1 hF1 hw1 hR1
  go_enter Try.func26, Try.ntmps26
  go_wp2_with fail
  rw [← Hw1.out, ← HR1.out]
  refine HFX.out.mono ?_
  rintro e w2 ⟨hF2, rfl⟩
  have hb2 := cells_at Hb1.out hF2 (fun e => e)
  have HF2 := hide (HF1.out.join hF2)
  have z0 := cell_of (o := 0) hb2 rfl
  have z1 := cell_of (o := 1) hb2 rfl
  have y0 := frozen_of (o := 0) hb2
  have y1 := frozen_of (o := 1) hb2
  have Hb2 := hide hb2
  clear hF2 hb2
  go_wp2_with fail
  obtain ⟨w9, hw9⟩ : ∃ w9, w9 = (w2.setCell ⟨R1, 0, none⟩ (.slice none 0 0)).setCell ⟨R1, 1, none⟩ (.int .i64 0) := ⟨_, rfl⟩
  have hb9 : w9.heap[R1]? = some (.cells [.slice none 0 0, .int .i64 0].toArray 44 (0, 0)) := by rw [hw9]; exact heap_setCell_own (o := 1) _ (heap_setCell_own (o := 0) _ Hb2.out)
  have f9 : Fr (fun j => j = R1) w2 w9 := by rw [hw9]; exact (Fr.of_setCell w2 ⟨R1, 0, none⟩ _).join (Fr.of_setCell _ ⟨R1, 1, none⟩ _)
  rw [← hw9]
  obtain ⟨d, u1, u2, u3⟩ := Try.und44
  have hld := run_loadVar_mid (P := Try.prog) w9 R1 0 44 [.slice none 0 0, .int .i64 0] d (rangeAt_cells hb9) u1 u2 u3
  exact bodyPost_ret (results_ctt (t := 2) (a := 3) (b := 4) Try.results26 rfl hld rfl rfl) rfl ⟨frJ HF2.out f9 fun j hj => by have e : j = R1 := hj; have := HR1.out; omega, rfl⟩

theorem Try.und48 : ∃ d, Try.prog.underlying 48 = some d ∧ d.isRow = true ∧ (Try.prog.info? 48).map (·.size) = some 2 := by
  obtain ⟨d, h1, h2⟩ := row_of (P := Try.prog) (ty := 48) (by kernel_rfl)
  exact ⟨d, h1, h2, by kernel_rfl⟩

set_option maxHeartbeats 400000 in
set_option maxRecDepth 100000 in
theorem rmake_no (W H : Int) (a : Option Addr) (n c : Nat) (w : World) (hf : ∀ w2, Fr (fun _ => False) w w2 → Calls Try.prog 22 #[rasV W H a n c, .int .i64 2] w2 fun e w' => Fr (fun _ => False) w2 w' ∧ e = .returned (.bool false)) :
    Calls Try.prog 27 #[rasV W H a n c] w fun e w' => Fr (fun _ => False) w w' ∧ e = .returned (.tuple #[.agg #[.slice none 0 0, .int .i64 0], .slice none 0 0, .bool false]) := by
  obtain ⟨w1, hw1⟩ : ∃ w1, w1 = (w.alloc (.cells #[.int .i64 W, .int .i64 H, .slice a n c] 24)).alloc (.cells #[.slice none 0 0, .int .i64 0] 48) := ⟨_, rfl⟩
  obtain ⟨R1, hR1⟩ : ∃ R, R = w.heap.size + 1 := ⟨_, rfl⟩
  have hb1 : w1.heap[R1]? = some (.cells #[.slice none 0 0, .int .i64 0] 48 (0, 0)) := by rw [hw1]; exact heap_alloc_at (by simp; omega)
  have hF1 : Fr (fun _ => False) w w1 := by rw [hw1]; exact (Fr.of_alloc _ _).join (Fr.of_alloc _ _)
  have HFX := hide (hf w1 hF1)
  have Hb1 := hide hb1
  have HF1 := hide hF1
  have Hw1 := hide hw1
  have HR1 := hide hR1
  clear hf hb1 hF1 hw1 hR1
  go_enter Try.func27, Try.ntmps27
  go_wp2_with fail
  rw [← Hw1.out, ← HR1.out]
  refine HFX.out.mono ?_
  rintro e w2 ⟨hF2, rfl⟩
  have hb2 := cells_at Hb1.out hF2 (fun e => e)
  have HF2 := hide (HF1.out.join hF2)
  have z0 := cell_of (o := 0) hb2 rfl
  have z1 := cell_of (o := 1) hb2 rfl
  have y0 := frozen_of (o := 0) hb2
  have y1 := frozen_of (o := 1) hb2
  have Hb2 := hide hb2
  clear hF2 hb2
  go_wp2_with fail
  obtain ⟨w9, hw9⟩ : ∃ w9, w9 = (w2.setCell ⟨R1, 0, none⟩ (.slice none 0 0)).setCell ⟨R1, 1, none⟩ (.int .i64 0) := ⟨_, rfl⟩
  have hb9 : w9.heap[R1]? = some (.cells [.slice none 0 0, .int .i64 0].toArray 48 (0, 0)) := by rw [hw9]; exact heap_setCell_own (o := 1) _ (heap_setCell_own (o := 0) _ Hb2.out)
  have f9 : Fr (fun j => j = R1) w2 w9 := by rw [hw9]; exact (Fr.of_setCell w2 ⟨R1, 0, none⟩ _).join (Fr.of_setCell _ ⟨R1, 1, none⟩ _)
  rw [← hw9]
  obtain ⟨d, u1, u2, u3⟩ := Try.und48
  have hld := run_loadVar_mid (P := Try.prog) w9 R1 0 48 [.slice none 0 0, .int .i64 0] d (rangeAt_cells hb9) u1 u2 u3
  exact bodyPost_ret (results_ctt (t := 2) (a := 3) (b := 4) Try.results27 rfl hld rfl rfl) rfl ⟨frJ HF2.out f9 fun j hj => by have e : j = R1 := hj; have := HR1.out; omega, rfl⟩

set_option maxHeartbeats 400000 in
set_option maxRecDepth 100000 in
/-- Two rows of the same colours. -/
theorem same10_c (a1 a2 : Option Addr) (L c1 c2 : Nat) (u : List (List Nat)) (w : World) (h1 : Cols w a1 L u) (h2 : Cols w a2 L u) (hL : L ≤ 70000) :
    Calls Try.prog 28 #[.slice a1 L c1, .slice a2 L c2] w fun e w' => e = .returned (.bool true) ∧ Fr (fun _ => False) w w' := by
  have H1 := hide h1
  have H2 := hide h2
  clear h1 h2
  go_enter Try.func28, Try.ntmps28
  go_wp2_with fail
  go_loopw [5] (fun v5 wr => ∃ k : Nat, v5 = .int .i64 (k : Int) ∧ k ≤ L ∧ Hid (Fr (fun _ => False) w wr)) (fun v5 _ => L - (intOf v5).toNat)
  case atStart => exact ⟨0, rfl, Nat.zero_le _, Fr.refl _ _⟩
  case round =>
    obtain ⟨k, rfl, hk, HF⟩ := hrel
    by_cases hlt : k < L
    · have hki : (k : Int) < (L : Int) := by omega
      obtain ⟨g1, o1, rfl, hc1⟩ := (H1.out.fr HF.out (fun _ _ _ h => h)).at_ (by omega)
      obtain ⟨g2, o2, rfl, hc2⟩ := (H2.out.fr HF.out (fun _ _ _ h => h)).at_ (by omega)
      obtain ⟨s0, hs0⟩ : ∃ s, s = (u.getD k []).getD 0 0 := ⟨_, rfl⟩
      obtain ⟨s1, hs1⟩ : ∃ s, s = (u.getD k []).getD 1 0 := ⟨_, rfl⟩
      obtain ⟨s2, hs2⟩ : ∃ s, s = (u.getD k []).getD 2 0 := ⟨_, rfl⟩
      obtain ⟨s3, hs3⟩ : ∃ s, s = (u.getD k []).getD 3 0 := ⟨_, rfl⟩
      have hg := getD_good H1.out.good (k := k) (by rw [H1.out.len]; exact hlt)
      have hz : ∀ x ∈ [s0, s1, s2, s3], x < 65536 := by
        have h4 := four_list hg.1
        rw [← hs0, ← hs1, ← hs2, ← hs3] at h4
        rw [← h4]
        exact hg.2
      have c0 := hc1 k 0 hlt (by decide)
      have c1 := hc1 k 1 hlt (by decide)
      have c2 := hc1 k 2 hlt (by decide)
      have c3 := hc1 k 3 hlt (by decide)
      have d0 := hc2 k 0 hlt (by decide)
      have d1 := hc2 k 1 hlt (by decide)
      have d2 := hc2 k 2 hlt (by decide)
      have d3 := hc2 k 3 hlt (by decide)
      rw [← hs0, Nat.add_zero] at c0 d0
      rw [← hs1] at c1 d1
      rw [← hs2] at c2 d2
      rw [← hs3] at c3 d3
      have hE : ∀ w : World, (Op.equalIn 10000 36 (.agg #[.int .u16 (s0 : Int), .int .u16 (s1 : Int), .int .u16 (s2 : Int), .int .u16 (s3 : Int)]) (.agg #[.int .u16 (s0 : Int), .int .u16 (s1 : Int), .int .u16 (s2 : Int), .int .u16 (s3 : Int)])).run Try.prog w = .ok true w := fun w => by
        have h := eq_four s0 s1 s2 s3 s0 s1 s2 s3 hz hz w
        rw [decide_eq_true rfl] at h
        exact h
      clear hs0 hs1 hs2 hs3 hc1 hc2 hg hz
      go_upto_region 6 with fail
      refine wp_region_held_drew (S := fun W' => Fr (fun _ => False) wr W') (by kernel_rfl) (by exact Fr.drew1 _ wr) (fun hHeld => ?_)
      refine wpAnyH_take (i := 0) (v := ?v0) rfl (by kernel_rfl) (by kernel_rfl) (by kernel_rfl) (fun _ _ _ h => h) (Or.inl ⟨by rfl, ?hy0⟩) hHeld ?rest0
      case hy0 => (intro W hSw; (try dsimp only at hSw); have x0 := hSw.cell0 c0; have x1 := hSw.cell0 c1; have x2 := hSw.cell0 c2; have x3 := hSw.cell0 c3; have y0 := hSw.cell0 d0; have y1 := hSw.cell0 d1; have y2 := hSw.cell0 d2; have y3 := hSw.cell0 d3; go_simp; all_goals (with_reducible rfl))
      change wpAnyH _ _ _ _ _ _ _ (Act.put _ (some 17) _) _
      simp only [Act.put, List.setIfInBounds_toArray, List.set_cons_zero, List.set_cons_succ]
      refine wpAnyH_take (i := 1) (v := ?v1) rfl (by kernel_rfl) (by kernel_rfl) (by kernel_rfl) (fun _ _ _ h => h) (Or.inl ⟨by rfl, ?hy1⟩) hHeld ?rest1
      case hy1 => (intro W hSw; (try dsimp only at hSw); have x0 := hSw.cell0 c0; have x1 := hSw.cell0 c1; have x2 := hSw.cell0 c2; have x3 := hSw.cell0 c3; have y0 := hSw.cell0 d0; have y1 := hSw.cell0 d1; have y2 := hSw.cell0 d2; have y3 := hSw.cell0 d3; go_simp; all_goals (with_reducible rfl))
      change wpAnyH _ _ _ _ _ _ _ (Act.put _ (some 18) _) _
      simp only [Act.put, List.setIfInBounds_toArray, List.set_cons_zero, List.set_cons_succ]
      refine wpAnyH_take (i := 4) (v := ?v4) rfl (by kernel_rfl) (by kernel_rfl) (by kernel_rfl) (fun _ _ _ h => h) (Or.inl ⟨by rfl, ?hy4⟩) hHeld ?rest4
      case hy4 => (intro W hSw; (try dsimp only at hSw); have x0 := hSw.cell0 c0; have x1 := hSw.cell0 c1; have x2 := hSw.cell0 c2; have x3 := hSw.cell0 c3; have y0 := hSw.cell0 d0; have y1 := hSw.cell0 d1; have y2 := hSw.cell0 d2; have y3 := hSw.cell0 d3; go_simp; all_goals (with_reducible rfl))
      change wpAnyH _ _ _ _ _ _ _ (Act.put _ (some 21) _) _
      simp only [Act.put, List.setIfInBounds_toArray, List.set_cons_zero, List.set_cons_succ]
      refine wpAnyH_take (i := 5) (v := ?v5) rfl (by kernel_rfl) (by kernel_rfl) (by kernel_rfl) (fun _ _ _ h => h) (Or.inl ⟨by rfl, ?hy5⟩) hHeld ?rest5
      case hy5 => (intro W hSw; (try dsimp only at hSw); have x0 := hSw.cell0 c0; have x1 := hSw.cell0 c1; have x2 := hSw.cell0 c2; have x3 := hSw.cell0 c3; have y0 := hSw.cell0 d0; have y1 := hSw.cell0 d1; have y2 := hSw.cell0 d2; have y3 := hSw.cell0 d3; go_simp; all_goals (with_reducible rfl))
      change wpAnyH _ _ _ _ _ _ _ (Act.put _ (some 22) _) _
      simp only [Act.put, List.setIfInBounds_toArray, List.set_cons_zero, List.set_cons_succ]
      refine wpAnyH_take (i := 2) (v := ?v2) rfl (by kernel_rfl) (by kernel_rfl) (by kernel_rfl) (fun _ _ _ h => h) (Or.inl ⟨by rfl, ?hy2⟩) hHeld ?rest2
      case hy2 => (intro W hSw; (try dsimp only at hSw); have x0 := hSw.cell0 c0; have x1 := hSw.cell0 c1; have x2 := hSw.cell0 c2; have x3 := hSw.cell0 c3; have y0 := hSw.cell0 d0; have y1 := hSw.cell0 d1; have y2 := hSw.cell0 d2; have y3 := hSw.cell0 d3; go_simp; all_goals (with_reducible rfl))
      change wpAnyH _ _ _ _ _ _ _ (Act.put _ (some 19) _) _
      simp only [Act.put, List.setIfInBounds_toArray, List.set_cons_zero, List.set_cons_succ]
      refine wpAnyH_take (i := 6) (v := ?v6) rfl (by kernel_rfl) (by kernel_rfl) (by kernel_rfl) (fun _ _ _ h => h) (Or.inl ⟨by rfl, ?hy6⟩) hHeld ?rest6
      case hy6 => (intro W hSw; (try dsimp only at hSw); have x0 := hSw.cell0 c0; have x1 := hSw.cell0 c1; have x2 := hSw.cell0 c2; have x3 := hSw.cell0 c3; have y0 := hSw.cell0 d0; have y1 := hSw.cell0 d1; have y2 := hSw.cell0 d2; have y3 := hSw.cell0 d3; go_simp; all_goals (with_reducible rfl))
      change wpAnyH _ _ _ _ _ _ _ (Act.put _ (some 23) _) _
      simp only [Act.put, List.setIfInBounds_toArray, List.set_cons_zero, List.set_cons_succ]
      refine wpAnyH_take (i := 3) (v := ?v3) rfl (by kernel_rfl) (by kernel_rfl) (by kernel_rfl) (fun _ _ _ h => h) (Or.inl ⟨by rfl, ?hy3⟩) hHeld ?rest3
      case hy3 => (intro W hSw; (try dsimp only at hSw); have x0 := hSw.cell0 c0; have x1 := hSw.cell0 c1; have x2 := hSw.cell0 c2; have x3 := hSw.cell0 c3; have y0 := hSw.cell0 d0; have y1 := hSw.cell0 d1; have y2 := hSw.cell0 d2; have y3 := hSw.cell0 d3; go_simp; all_goals (with_reducible rfl))
      change wpAnyH _ _ _ _ _ _ _ (Act.put _ (some 20) _) _
      simp only [Act.put, List.setIfInBounds_toArray, List.set_cons_zero, List.set_cons_succ]
      refine wpAnyH_take (i := 7) (v := ?v7) rfl (by kernel_rfl) (by kernel_rfl) (by kernel_rfl) (fun _ _ _ h => h) (Or.inl ⟨by rfl, ?hy7⟩) hHeld ?rest7
      case hy7 => (intro W hSw; (try dsimp only at hSw); have x0 := hSw.cell0 c0; have x1 := hSw.cell0 c1; have x2 := hSw.cell0 c2; have x3 := hSw.cell0 c3; have y0 := hSw.cell0 d0; have y1 := hSw.cell0 d1; have y2 := hSw.cell0 d2; have y3 := hSw.cell0 d3; go_simp; all_goals (with_reducible rfl))
      change wpAnyH _ _ _ _ _ _ _ (Act.put _ (some 24) _) _
      simp only [Act.put, List.setIfInBounds_toArray, List.set_cons_zero, List.set_cons_succ]
      refine wpAnyH_take (i := 8) (v := ?v8) rfl (by kernel_rfl) (by kernel_rfl) (by kernel_rfl) (fun _ _ _ h => h) (Or.inl ⟨by rfl, ?hy8⟩) hHeld ?rest8
      case hy8 => (intro W hSw; (try dsimp only at hSw); have x0 := hSw.cell0 c0; have x1 := hSw.cell0 c1; have x2 := hSw.cell0 c2; have x3 := hSw.cell0 c3; have y0 := hSw.cell0 d0; have y1 := hSw.cell0 d1; have y2 := hSw.cell0 d2; have y3 := hSw.cell0 d3; go_simp; all_goals (with_reducible rfl))
      change wpAnyH _ _ _ _ _ _ _ (Act.put _ (some 25) _) _
      simp only [Act.put, List.setIfInBounds_toArray, List.set_cons_zero, List.set_cons_succ]
      refine wpAnyH_done (by kernel_rfl) ?_ _
      clear c0 c1 c2 c3 d0 d1 d2 d3 hE
      go_wp2_with fail
      exact ⟨⟨k + 1, by go_num, by omega, HF.out.join hHeld⟩, by simp [intOf]; omega⟩
    · have hki : ¬ (k : Int) < (L : Int) := by omega
      go_wp2_with fail
      go_ret
      exact ⟨rfl, HF.out⟩

theorem wp_appY {w : World} {o : Oper} {a : Act} {K : Act → World → Prop} {Q : Exit → Act → World → Prop} (s x : Operand)
    (ho : o.op = .call { callee := .builtin .append, args := #[s, x], argTypes := #[45, 45] }) (base : Nat) (v : Value) (ks : List Nat) (hs : a.eval s = v) (hown : OwnY w base v ks)
    (ad : Addr) (c : Nat) (y : Nat) (hx : a.eval x = .slice (some ad) 1 c) (hc : w.cell? ad = some (.int .u8 (y : Int))) (had : ad.add 0 = ad) (h63 : ks.length ≤ 100000) (hbase : base ≤ w.heap.size)
    (h : ∀ a' c' w', OwnY w' base (.slice a' (ks.length + 1) c') (ks ++ [y]) → Fr (fun i => v.ownBlock = some i) w w' → K (a.put o.dst (.slice a' (ks.length + 1) c')) w') : o.wp Try.prog a w K Q := by
  obtain ⟨a', c', w', hr, h2, h3⟩ := run_appY w o.type base v ks hown ad c y hc had h63 hbase
  unfold Oper.wp execOp
  simp only [ho, resolve, invoke, builtin, Sem.run_bind, Sem.run_pure, Result.andThen_ok, List.map_toArray, List.map_cons, List.map_nil, hs, hx, hr]
  exact h a' c' w' h2 h3

/-- The clear one's place behind i steps. -/
def clearN (u : List (List Nat)) : Nat → Int
  | 0 => -1
  | i + 1 => if u.getD i [] = [0, 0, 0, 0] then (i : Int) else clearN u i

theorem clearN_none {u : List (List Nat)} : ∀ i, (∀ j, j < i → u.getD j [] ≠ [0, 0, 0, 0]) → clearN u i = -1
  | 0, _ => rfl
  | i + 1, h => by
    simp only [clearN]
    rw [if_neg (h i (by omega))]
    exact clearN_none i (fun j hj => h j (by omega))

theorem clearN_at {u : List (List Nat)} {k : Nat} (he : u.getD k [] = [0, 0, 0, 0]) : ∀ i, k < i → (∀ j, j < i → k < j → u.getD j [] ≠ [0, 0, 0, 0]) → clearN u i = (k : Int)
  | 0, h, _ => absurd h (Nat.not_lt_zero _)
  | i + 1, h, hb => by
    simp only [clearN]
    by_cases e : k = i
    · rw [← e, if_pos he]
    · rw [if_neg (hb i (by omega) (by omega))]
      exact clearN_at he i (by omega) (fun j hj => hb j (by omega))

theorem clearN_all {u : List (List Nat)} (hn : u.Nodup) : clearN u u.length = clearV u := by
  by_cases h : [0, 0, 0, 0] ∈ u
  · obtain ⟨k, hk, e⟩ := List.getElem_of_mem h
    have he : u.getD k [] = [0, 0, 0, 0] := by rw [List.getD_eq_getElem?_getD, List.getElem?_eq_getElem hk]; exact e
    have hb : ∀ j, j < u.length → j ≠ k → u.getD j [] ≠ [0, 0, 0, 0] := fun j hj hne e2 => by
      rw [List.getD_eq_getElem?_getD, List.getElem?_eq_getElem hj] at e2
      exact hne ((List.getElem_inj (xs := u) (h₀ := hj) (h₁ := hk) hn).1 ((show u[j] = [0, 0, 0, 0] from e2).trans e.symm))
    rw [clearN_at he u.length hk (fun j hj hkj => hb j hj (by omega)), clear_at hk he (fun j hj => hb j (by omega) (by omega))]
  · have hb : ∀ j, j < u.length → u.getD j [] ≠ [0, 0, 0, 0] := fun j hj e2 => h (by
      rw [← e2, List.getD_eq_getElem?_getD, List.getElem?_eq_getElem hj]
      exact List.getElem_mem hj)
    rw [clearN_none _ hb, clear_none hb]

theorem places_lt (px : List Nat) : ∀ m, ∀ b ∈ places px m, b < (uniq px m).length
  | 0 => fun b hb => by cases hb
  | m + 1 => fun b hb => by
    simp only [places] at hb
    rcases List.mem_append.1 hb with hb | hb
    · exact Nat.lt_of_lt_of_le (places_lt px m b hb) (uniq_step px m).1
    · rw [List.mem_singleton] at hb
      rw [hb]
      exact List.idxOf_lt_length_iff.2 ((mem_uniq px _ (m + 1)).2 ⟨m, by omega, rfl⟩)

set_option maxHeartbeats 1000000 in
set_option maxRecDepth 100000 in
theorem rmake_yes (W H : Int) (g o n c m : Nat) (px : List Nat) (w : World) (hl : Lies w (some ⟨g, o, none⟩) px) (hp : px.length = n) (hc : n ≤ c) (hmay : mayB W H n = true) (hm : (m : Int) = W * H) (hfit : fitsG px m = true) :
    Calls Try.prog 27 #[rasV W H (some ⟨g, o, none⟩) n c] w fun e w' => Made px m w e w' := by
  obtain ⟨m', hm', hnm, hmb, hm1⟩ := may_nums hmay
  obtain rfl : m = m' := Int.ofNat.inj (hm.trans hm'.symm)
  have hu256 : (uniq px m).length ≤ 256 := by
    unfold fitsG at hfit
    simp only [Bool.and_eq_true, decide_eq_true_eq] at hfit
    exact hfit.2.2
  obtain ⟨w1, hw1⟩ : ∃ w1, w1 = (w.alloc (.cells #[.int .i64 W, .int .i64 H, .slice (some ⟨g, o, none⟩) n c] 24)).alloc (.cells #[.slice none 0 0, .int .i64 0] 48) := ⟨_, rfl⟩
  obtain ⟨R, hR⟩ : ∃ R, R = w.heap.size := ⟨_, rfl⟩
  obtain ⟨R1, hR1⟩ : ∃ R1, R1 = R + 1 := ⟨_, rfl⟩
  have hb0 : w1.heap[R]? = some (.cells #[.int .i64 W, .int .i64 H, .slice (some ⟨g, o, none⟩) n c] 24 (0, 0)) := by rw [hw1]; exact (Below.heap_alloc _ _ _ (by simp; omega)).trans (heap_alloc_at hR)
  have hb1 : w1.heap[R1]? = some (.cells #[.slice none 0 0, .int .i64 0] 48 (0, 0)) := by rw [hw1]; exact heap_alloc_at (by simp; omega)
  have hF1 : Fr (fun _ => False) w w1 := by rw [hw1]; exact (Fr.of_alloc _ _).join (Fr.of_alloc _ _)
  have HFX := hide (rfits_yes W H 2 (some ⟨g, o, none⟩) n c m px w1 (hl.keep0 hF1) hp hc hmay hm (by decide) (by decide))
  rw [show fitsV 2 px m = true by unfold fitsV; rw [if_neg (by decide), if_pos rfl]; exact hfit] at HFX
  have HLi := hide fun (w2 : World) (h : Lies w2 (some ⟨g, o, none⟩) px) => list_c W H 256 g o n c m px w2 h hp hnm hm hmb hm1 hc
  have HL := hide (hl.keep0 hF1)
  have Hb0 := hide hb0
  have Hb1 := hide hb1
  have HF1 := hide hF1
  have Hw1 := hide hw1
  have HR := hide hR
  have HR1 := hide hR1
  have Hu256 := hide hu256
  have Hsm := hide hl.1
  have Hmb := hide hmb
  have k0 := cell_of (o := 0) hb0 rfl
  clear hl hp hc hmay hm hm' hnm hmb hm1 hfit hu256 hb0 hb1 hF1 hw1 hR hR1 k0
  go_enter Try.func27, Try.ntmps27
  go_wp2_with fail
  rw [← Hw1.out, ← HR.out, ← HR1.out]
  refine HFX.out.mono ?_
  rintro e w2 ⟨hF2, rfl⟩
  have hb0 := cells_at Hb0.out hF2 (fun e => e)
  have HF2 := hide hF2
  have HLi2 := hide (HLi.out w2 (HL.out.keep0 hF2))
  have k0 := cell_of (o := 0) hb0 rfl
  have k1 := cell_of (o := 1) hb0 rfl
  have k2 := cell_of (o := 2) hb0 rfl
  clear hF2 hb0
  go_wp2_with fail
  refine HLi2.out.mono ?_
  rintro e w3 ⟨hF3, ⟨hlt3, rfl⟩ | ⟨hle, v1, v2, rfl, h1, h2⟩⟩
  · exact absurd Hu256.out (by omega)
  obtain ⟨a7, c7, rfl⟩ := ownsRow_shape h1.own
  obtain ⟨a6, c6, rfl⟩ := ownsRow_shape h2
  obtain ⟨L, hL⟩ : ∃ L, L = (uniq px m).length := ⟨_, rfl⟩
  rw [← hL] at h1 ⊢
  rw [places_length] at h2 ⊢
  obtain ⟨w4, hw4⟩ : ∃ w4, w4 = w3.alloc (.cells #[.slice a7 L c7, .int .i64 (-1)] 48) := ⟨_, rfl⟩
  obtain ⟨PB, hPB⟩ : ∃ P, P = w3.heap.size := ⟨_, rfl⟩
  have hF4 : Fr (fun _ => False) w3 w4 := by rw [hw4]; exact Fr.of_alloc _ _
  have hP4 : w4.heap[PB]? = some (.cells #[.slice a7 L c7, .int .i64 (clearN (uniq px m) 0)] 48 (0, 0)) := by rw [hw4]; exact heap_alloc_at hPB
  have HF14 := hide ((HF2.out.join hF3).join hF4)
  have hcol := (h1.keep hF4 fun _ _ h => h).cols (uniq_good Hsm.out m)
  have HO7 := hide (h1.keep hF4 fun _ _ h => h)
  have HO6 := hide (h2.keep hF4 fun _ _ h => h)
  have HC4 := hide hcol
  have HP4 := hide hP4
  have Hw4 := hide hw4
  have HPB := hide hPB
  have HL2 := hide hL
  have HPw : Hid (w1.heap.size ≤ PB) := by rw [hPB]; exact Nat.le_trans HF2.out.size hF3.size
  have h72 : w2.heap.size ≤ w4.heap.size := Nat.le_trans hF3.size hF4.size
  have H72 := hide h72
  have hL256 : L ≤ 256 := by rw [hL]; exact Hu256.out
  clear hF3 hF4 hcol hP4 hw4 hPB hL h1 h2 k0 k1 k2 hle h72
  go_upto_region 5 with fail
  rw [← Hw4.out, ← HPB.out]
  go_wp2_with fail
  go_loopw [9] (fun v9 wr => ∃ i : Nat, v9 = .int .i64 (i : Int) ∧ i ≤ L ∧ Hid (wr.heap[PB]? = some (.cells #[.slice a7 L c7, .int .i64 (clearN (uniq px m) i)] 48 (0, 0))) ∧ Hid (Fr (fun j => j = PB) w4 wr)) (fun v9 _ => L - (intOf v9).toNat)
  case atStart => exact ⟨0, rfl, Nat.zero_le _, HP4.out, Fr.refl _ _⟩
  case round =>
    obtain ⟨i, rfl, hi, HP, HFr⟩ := hrel
    by_cases hlt : i < L
    · have hii : (i : Int) < (L : Int) := by omega
      have hCw := HC4.out.fr HFr.out (fun ad e hl h => by
        have e2 : ad.block = PB := h
        obtain ⟨g9, o9, e9, hc9⟩ := HC4.out.at_ (by omega)
        rw [e] at e9
        injection e9 with e9
        subst e9
        obtain ⟨_, _, g8, e8⟩ := HO7.out.form (by rw [← HL2.out]; omega)
        rw [e] at e8
        injection e8 with e8
        have hb := HO7.out.block (k := PB) (by rw [e]; simp [Value.ownBlock]; exact e2)
        obtain ⟨_, cur, hcu⟩ := hb
        rw [HP4.out] at hcu
        cases hcu)
      obtain ⟨g1, o1, rfl, hc1⟩ := hCw.at_ (by omega)
      obtain ⟨s0, hs0⟩ : ∃ s, s = ((uniq px m).getD i []).getD 0 0 := ⟨_, rfl⟩
      obtain ⟨s1, hs1⟩ : ∃ s, s = ((uniq px m).getD i []).getD 1 0 := ⟨_, rfl⟩
      obtain ⟨s2, hs2⟩ : ∃ s, s = ((uniq px m).getD i []).getD 2 0 := ⟨_, rfl⟩
      obtain ⟨s3, hs3⟩ : ∃ s, s = ((uniq px m).getD i []).getD 3 0 := ⟨_, rfl⟩
      have hg := getD_good hCw.good (k := i) (by rw [hCw.len]; exact hlt)
      have h4 := four_list hg.1
      rw [← hs0, ← hs1, ← hs2, ← hs3] at h4
      have hz := hg.2
      rw [h4] at hz
      have c0 := hc1 i 0 hlt (by decide)
      have c1 := hc1 i 1 hlt (by decide)
      have c2 := hc1 i 2 hlt (by decide)
      have c3 := hc1 i 3 hlt (by decide)
      rw [← hs0, Nat.add_zero] at c0
      rw [← hs1] at c1
      rw [← hs2] at c2
      rw [← hs3] at c3
      obtain ⟨Z, hZ⟩ : ∃ Z, Z = decide ([s0, s1, s2, s3] = [0, 0, 0, 0]) := ⟨_, rfl⟩
      have hE : ∀ w : World, (Op.equalIn 10000 36 (.agg #[.int .u16 (s0 : Int), .int .u16 (s1 : Int), .int .u16 (s2 : Int), .int .u16 (s3 : Int)]) (.agg #[.int .u16 0, .int .u16 0, .int .u16 0, .int .u16 0])).run Try.prog w = .ok Z w := fun w => by rw [hZ]; exact eq_four s0 s1 s2 s3 0 0 0 0 hz (by decide) w
      have hst : clearN (uniq px m) (i + 1) = if Z then (i : Int) else clearN (uniq px m) i := by
        simp only [clearN]
        rw [h4, hZ]
        simp only [decide_eq_true_eq]
      have Hst := hide hst
      have p1 := cell_of (o := 1) HP.out rfl
      have q1 := frozen_of (o := 1) HP.out
      clear hs0 hs1 hs2 hs3 hZ hst hz hg h4 hc1 hCw
      cases Z with
      | false =>
        go_wp2_with fail
        exact ⟨⟨i + 1, by go_num, by omega, by show _ = _; rw [Hst.out]; exact HP.out, HFr.out⟩, by simp [intOf]; omega⟩
      | true =>
        go_wp2_with fail
        exact ⟨⟨i + 1, by go_num, by omega, by show _ = _; rw [Hst.out]; exact heap_setCell_own (o := 1) _ HP.out, HFr.out.join (Fr.of_setCell wr ⟨PB, 1, none⟩ _)⟩, by simp [intOf]; omega⟩
    · have hii : ¬ (i : Int) < (L : Int) := by omega
      obtain rfl : i = L := by omega
      obtain ⟨wo, rfl⟩ : ∃ wo : World, wo = wr := ⟨_, rfl⟩
      have HI6 := hide (HO6.out.keep HFr.out fun j hj e => by
        obtain ⟨_, cur, hc⟩ := HO6.out.block hj
        have e2 : j = PB := e
        rw [e2, HP4.out] at hc
        cases hc)
      have HO7o := hide (HO7.out.keep HFr.out fun j hj e => by
        obtain ⟨_, cur, hc⟩ := HO7.out.block hj
        have e2 : j = PB := e
        rw [e2, HP4.out] at hc
        cases hc)
      have Hwo : Hid (w4.heap.size ≤ wo.heap.size) := HFr.out.size
      go_wp2_with fail
      go_loopw [10, 11] (fun v10 v11 wr => ∃ j : Nat, v11 = .int .i64 (j : Int) ∧ j ≤ m ∧ Hid (OwnY wr wo.heap.size v10 ((places px m).take j)) ∧ Hid (Fr (fun _ => False) wo wr)) (fun _ v11 _ => m - (intOf v11).toNat)
      case atStart => exact ⟨0, rfl, Nat.zero_le _, ⟨rfl, Or.inl ⟨rfl, rfl⟩⟩, Fr.refl _ _⟩
      case round =>
        obtain ⟨j, rfl, hj, HY, HFw⟩ := hrel
        obtain ⟨a8, c8, rfl⟩ := ownsRow_shape HY.out
        obtain ⟨T, hT⟩ : ∃ T, T = ((places px m).take j).length := ⟨_, rfl⟩
        rw [← hT] at HY ⊢
        have HT := hide hT
        clear hT
        by_cases hlt : j < m
        · have hji : (j : Int) < (m : Int) := by omega
          have hmb := Hmb.out
          have hI := HI6.out
          have hlen := places_length px m
          obtain ⟨h6, rfl⟩ : ∃ h6, a6 = some ⟨h6, 0, none⟩ := by
            rcases hI.2 with ⟨e, h1⟩ | ⟨g9, cap, cur, e, _⟩
            · omega
            · injection e with e1 _ _
              exact ⟨g9, e1⟩
          obtain ⟨y, hy⟩ : ∃ y, y = (places px m).getD j 0 := ⟨_, rfl⟩
          have hjl : j < (places px m).length := by omega
          have hyv : y = (places px m)[j] := by rw [hy, List.getD_eq_getElem?_getD, List.getElem?_eq_getElem hjl]; rfl
          have hy8 : y < 256 := by
            have h1 := places_lt px m y (by rw [hyv]; exact List.getElem_mem hjl)
            have h2 := Hu256.out
            omega
          have hc0 := hI.cells (g := h6) rfl j (.int .i64 (y : Int)) (by simp [cellsI, List.getElem?_eq_getElem hjl, hyv])
          rw [add_none, Nat.zero_add] at hc0
          have cy := HFw.out.cell0 hc0
          have hwr8 := wrap_u8 y hy8
          have Hy := hide hy
          have hTj : T ≤ 20000 := by rw [HT.out, List.length_take]; have := Hmb.out; omega
          clear hy hyv hc0 hI hlen hjl hy8
          go_wp2_with (refine wpList_plain rfl fun _ hK => ?_
                       refine wp_appY (.tmp 44) (.tmp 50) rfl wo.heap.size _ ((places px m).take j) rfl (OwnY.keep HY.out (Fr.of_alloc _ _) fun _ _ h => h) ⟨_, 0, none⟩ 1 y rfl (cell_of (o := 0) (heap_alloc_at rfl) rfl) rfl (by rw [← HT.out]; omega) (by have := HFw.out.size; simp; omega) ?_
                       intro a' c' w6 hO6 hF6
                       refine hK _ _ ?_
                       clear hK)
          have hHY := HY.out
          have htk : (places px m).take (j + 1) = (places px m).take j ++ [y] := by
            have h9 : j < (places px m).length := by rw [places_length]; exact hlt
            rw [List.take_succ_eq_append_getElem h9, Hy.out, List.getD_eq_getElem?_getD, List.getElem?_eq_getElem h9]
            rfl
          have hfr := frJ (HFw.out.join (Fr.of_alloc _ _)) hF6 fun k hk => (hHY.block hk).1
          exact ⟨⟨j + 1, by go_num, by omega, by rw [htk]; have h := hO6; rw [List.length_take] at h; exact h, hfr⟩, by simp [intOf]; omega⟩
        · have hji : ¬ (j : Int) < (m : Int) := by omega
          obtain rfl : j = m := by omega
          have hPw := cells_at HP.out HFw.out (fun e => e)
          have hR1l : R1 < w1.heap.size := lt_of Hb1.out
          have h4 := cells_at Hb1.out HF14.out (fun e => e)
          have h5 := cells_at h4 HFr.out (fun e => by have e2 : R1 = PB := e; have := HPw.out; omega)
          have h8 := cells_at h5 HFw.out (fun e => e)
          have t0 := cell_of (o := 0) hPw rfl
          have t1 := cell_of (o := 1) hPw rfl
          have z0 := cell_of (o := 0) h8 rfl
          have z1 := cell_of (o := 1) h8 rfl
          have y0 := frozen_of (o := 0) h8
          have y1 := frozen_of (o := 1) h8
          have H8 := hide h8
          have HR1l := hide hR1l
          obtain ⟨Z, hZ⟩ : ∃ Z, Z = clearN (uniq px j) i := ⟨_, rfl⟩
          rw [← hZ] at t0 t1
          have HZ : Hid (Z = clearV (uniq px j)) := by show _ = _; rw [hZ, HL2.out]; exact clearN_all (uniq_nodup px j)
          clear hPw h4 h5 h8 hR1l hZ
          go_wp2_with fail
          obtain ⟨w9, hw9⟩ : ∃ w9, w9 = (wr.setCell ⟨R1, 0, none⟩ (.slice a7 i c7)).setCell ⟨R1, 1, none⟩ (.int .i64 Z) := ⟨_, rfl⟩
          have hb9 : w9.heap[R1]? = some (.cells [.slice a7 i c7, .int .i64 Z].toArray 48 (0, 0)) := by rw [hw9]; exact heap_setCell_own (o := 1) _ (heap_setCell_own (o := 0) _ H8.out)
          have f9 : Fr (fun j => j = R1) wr w9 := by rw [hw9]; exact (Fr.of_setCell wr ⟨R1, 0, none⟩ _).join (Fr.of_setCell _ ⟨R1, 1, none⟩ _)
          rw [← hw9]
          obtain ⟨d, u1, u2, u3⟩ := Try.und48
          have hld := run_loadVar_mid (P := Try.prog) w9 R1 0 48 [.slice a7 i c7, .int .i64 Z] d (rangeAt_cells hb9) u1 u2 u3
          have hs1 : w.heap.size ≤ w1.heap.size := HF1.out.size
          have hR1w : w.heap.size ≤ R1 := by have h1 := HR.out; have h2 := HR1.out; omega
          have hlo2 : w.heap.size ≤ w2.heap.size := Nat.le_trans hs1 HF2.out.size
          have hp7 := ((HO7o.out.keep HFw.out fun _ _ h => h).keep f9 fun k hk e => by
            obtain ⟨_, cur, hc⟩ := (HO7o.out.keep HFw.out fun _ _ h => h).block hk
            have e2 : k = R1 := e
            rw [e2, H8.out] at hc
            cases hc).low hlo2
          have hY := HY.out
          rw [List.take_of_length_le (by rw [places_length]; exact Nat.le_refl _)] at hY
          have hp8 := (hY.keep f9 fun k hk e => by
            obtain ⟨_, cur, hc⟩ := hY.block hk
            have e2 : k = R1 := e
            rw [e2, H8.out] at hc
            cases hc).low (show w.heap.size ≤ wo.heap.size from Nat.le_trans hlo2 (Nat.le_trans H72.out Hwo.out))
          have hfin : Fr (fun _ => False) w w9 := frJ ((frJ (HF1.out.join HF14.out) HFr.out fun j hj => by have e : j = PB := hj; rw [e]; exact Nat.le_trans hs1 HPw.out).join HFw.out) f9 fun j hj => by have e : j = R1 := hj; rw [e]; exact hR1w
          exact bodyPost_ret (results_ctt (t := 2) (a := 3) (b := 4) Try.results27 rfl hld rfl rfl) rfl ⟨hfin, _, _, by rw [← HZ.out]; rfl, hp7, hp8⟩
end Go.Proofs.Ythdilabmajaehaa
