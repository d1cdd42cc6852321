/-
  lzw: a row is made.
-/
import Derived.Test.YtdbgolklgiadeaaXj
namespace Go.Proofs.Ytdbgolklgiadeaa
open Go.RowKit

/-- What makeRow comes to. -/
structure Maked (M base k : Nat) (cs : Array Value) (rv : Value) (rs : List (Nat × Nat)) (lf ll : Nat) (w : World) (w' : World) : Prop where
  none : ll = 0 ∨ nextN k rs.length = 4096 → w'.heap[M]? = some (.cells cs 71 (0, 0)) ∧ Fr (fun _ => False) w w'
  some : ll ≠ 0 → nextN k rs.length < 4096 → ∃ ra rc, w'.heap[M]? = some (.cells (((cs.setIfInBounds 6 (.slice ra (rs.length + 1) rc)).setIfInBounds 4 (.int .i64 ((nextN k (rs.length + 1) : Nat) : Int))).setIfInBounds 5 (.int .i64 ((wid k (rs.length + 1) : Nat) : Int))) 71 (0, 0)) ∧ OwnR w' base (.slice ra (rs.length + 1) rc) (rs ++ [(lf, ll + 1)]) ∧ Fr (fun j => j = M ∨ rv.ownBlock = some j) w w' ∧ ((Value.slice ra (rs.length + 1) rc).ownBlock = rv.ownBlock ∨ ∀ j, (Value.slice ra (rs.length + 1) rc).ownBlock = some j → w.heap.size ≤ j)

set_option maxHeartbeats 3200000 in
set_option maxRecDepth 100000 in
theorem makeRow_c (M base k : Nat) (cs : Array Value) (ra : Option Addr) (rc : Nat) (rs : List (Nat × Nat)) (lf ll : Nat) (w : World) (hk : 2 ≤ k ∧ k ≤ 8) (h : w.heap[M]? = some (.cells cs 71 (0, 0))) (h3 : cs[3]? = some (.int .i64 ((2 ^ k : Nat) : Int))) (h4 : cs[4]? = some (.int .i64 ((nextN k rs.length : Nat) : Int))) (h5 : cs[5]? = some (.int .i64 ((wid k rs.length : Nat) : Int))) (h6 : cs[6]? = some (.slice ra rs.length rc)) (h7 : cs[7]? = some (.int .i64 (lf : Int))) (h8 : cs[8]? = some (.int .i64 (ll : Int))) (hO : OwnR w base (.slice ra rs.length rc) rs) (hM : M < base) (hbs : base ≤ w.heap.size) (hn : nextN k rs.length ≤ 4096) (hll : ll ≤ 1000000) :
    Calls Try.prog 54 #[.pointer (some ⟨M, 0, none⟩)] w fun e w' => e = .returned (.tuple #[]) ∧ Maked M base k cs (.slice ra rs.length rc) rs lf ll w w' := by
  have m8 := cell_of h h8
  have hnum : ∀ W : World, W.heap[M]? = some (.cells cs 71 (0, 0)) → Num W M 3 k rs.length := fun W hW => ⟨cell_of hW h3, cell_of hW h4, cell_of hW h5, frozen_of hW, frozen_of hW⟩
  have Hnum := hide hnum
  have H := hide h
  by_cases hz : ll = 0
  · subst hz
    have hzi : (((0 : Nat) : Int) == 0) = true := rfl
    clear hnum h h3 h4 h5 h6 h7 h8 hO
    go_enter Try.func54, Try.ntmps54
    go_wp2_with fail
    exact bodyPost_ret (results_none rfl _ _ _) rfl ⟨rfl, fun _ => ⟨H.out, Fr.refl _ _⟩, fun hx => absurd rfl hx⟩
  by_cases hfu : nextN k rs.length = 4096
  · have hzi : ((ll : Int) == 0) = false := by rw [beq_eq_false_iff_ne]; omega
    have Hf := hide (full_c M 3 k rs.length w (hnum w h))
    rw [decide_eq_true hfu] at Hf
    clear hnum h h3 h4 h5 h6 h7 h8 hO
    go_enter Try.func54, Try.ntmps54
    go_wp2_with fail
    refine Hf.out.mono ?_
    rintro e w1 ⟨rfl, rfl⟩
    go_wp2_with fail
    exact bodyPost_ret (results_none rfl _ _ _) rfl ⟨rfl, fun _ => ⟨H.out, Fr.refl _ _⟩, fun _ hx => by omega⟩
  · have hzi : ((ll : Int) == 0) = false := by rw [beq_eq_false_iff_ne]; omega
    have Hf := hide (full_c M 3 k rs.length w (hnum w h))
    rw [decide_eq_false hfu] at Hf
    have m7 := cell_of h h7
    have m6 := cell_of h h6
    have H6 := hide h6
    have H7 := hide h7
    have H8 := hide h8
    have H3 := hide h3
    have H4 := hide h4
    have H5 := hide h5
    have HO := hide hO
    clear hnum h h3 h4 h5 h6 h7 h8 hO
    go_enter Try.func54, Try.ntmps54
    go_wp2_with fail
    refine Hf.out.mono ?_
    rintro e w1 ⟨rfl, rfl⟩
    go_upto_region 1 with fail
    have HSo : Hid (∀ W : World, W.heap[M]? = some (.cells cs 71 (0, 0)) → (W.cell? ⟨M, 6, none⟩ = some (.slice ra rs.length rc) ∧ W.cell? ⟨M, 7, none⟩ = some (.int .i64 (lf : Int))) ∧ W.cell? ⟨M, 8, none⟩ = some (.int .i64 (ll : Int))) := fun W hW => ⟨⟨cell_of hW H6.out, cell_of hW H7.out⟩, cell_of hW H8.out⟩
    have HSk : Hid (∀ W, Fr (fun _ => False) w W → (W.cell? ⟨M, 6, none⟩ = some (.slice ra rs.length rc) ∧ W.cell? ⟨M, 7, none⟩ = some (.int .i64 (lf : Int))) ∧ W.cell? ⟨M, 8, none⟩ = some (.int .i64 (ll : Int))) := fun W F => HSo.out W (cells_at H.out F (fun e => e))
    have hrl : rs.length ≤ 100000 := by
      unfold nextN at hn
      generalize 2 ^ k = P at hn
      omega
    have hwr : IntKind.i64.wrap ((ll : Int) + 1) = (ll : Int) + 1 := wrap_i64_id _ (by omega) (by omega)
    refine wp_region_L (S := fun W' => (W'.cell? ⟨M, 6, none⟩ = some (.slice ra rs.length rc) ∧ W'.cell? ⟨M, 7, none⟩ = some (.int .i64 (lf : Int))) ∧ W'.cell? ⟨M, 8, none⟩ = some (.int .i64 (ll : Int))) 21 (by kernel_rfl) (HSk.out _ (Fr.of_drewN w 1)) (fun hHeld => ?_)
    refine wpAnyL_take [19, 20, 21] (i := 0) (v := ?v0) rfl (by kernel_rfl) (by kernel_rfl) (by kernel_rfl) (by kernel_rfl) (fun _ _ _ h => h) (Or.inl ⟨by rfl, ?hy0⟩) hHeld ?rest0
    case hy0 => (intro W hSw; (try dsimp only at hSw); obtain ⟨⟨s6, s7⟩, s8⟩ := hSw; go_simp; all_goals (with_reducible rfl))
    change wpAnyL _ _ _ _ _ _ _ _ (Act.put _ (some 14) _) _
    simp only [Act.put, List.setIfInBounds_toArray, List.set_cons_zero, List.set_cons_succ]
    refine wpAnyL_take [2, 3, 4, 18, 21] (i := 1) (v := ?v1) rfl (by kernel_rfl) (by kernel_rfl) (by kernel_rfl) (by kernel_rfl) (fun _ _ _ h => h) (Or.inl ⟨by rfl, ?hy1⟩) hHeld ?rest1
    case hy1 => (intro W hSw; (try dsimp only at hSw); obtain ⟨⟨s6, s7⟩, s8⟩ := hSw; go_simp; all_goals (with_reducible rfl))
    change wpAnyL _ _ _ _ _ _ _ _ (Act.put _ (some 15) _) _
    simp only [Act.put, List.setIfInBounds_toArray, List.set_cons_zero, List.set_cons_succ]
    refine wpAnyL_take [6, 7, 8, 9, 16, 17, 18, 21] (i := 5) (v := ?v5) rfl (by kernel_rfl) (by kernel_rfl) (by kernel_rfl) (by kernel_rfl) (fun _ _ _ h => h) (Or.inl ⟨by rfl, ?hy5⟩) hHeld ?rest5
    case hy5 => (intro W hSw; (try dsimp only at hSw); obtain ⟨⟨s6, s7⟩, s8⟩ := hSw; go_simp; all_goals (with_reducible rfl))
    change wpAnyL _ _ _ _ _ _ _ _ (Act.put _ (some 19) _) _
    simp only [Act.put, List.setIfInBounds_toArray, List.set_cons_zero, List.set_cons_succ]
    refine wpAnyL_take [11, 12, 13, 14, 15, 16, 17, 18, 21] (i := 10) (v := ?v10) rfl (by kernel_rfl) (by kernel_rfl) (by kernel_rfl) (by kernel_rfl) (fun _ _ _ h => h) (Or.inl ⟨by rfl, ?hy10⟩) hHeld ?rest10
    case hy10 => (intro W hSw; (try dsimp only at hSw); obtain ⟨⟨s6, s7⟩, s8⟩ := hSw; go_simp; all_goals (with_reducible rfl))
    change wpAnyL _ _ _ _ _ _ _ _ (Act.put _ (some 24) _) _
    simp only [Act.put, List.setIfInBounds_toArray, List.set_cons_zero, List.set_cons_succ]
    refine wpAnyL_take [3, 4, 18, 21] (i := 2) (v := ?v2) rfl (by kernel_rfl) (by kernel_rfl) (by kernel_rfl) (by kernel_rfl) (fun _ _ _ h => h) (Or.inl ⟨by rfl, ?hy2⟩) hHeld ?rest2
    case hy2 => (intro W hSw; (try dsimp only at hSw); obtain ⟨⟨s6, s7⟩, s8⟩ := hSw; go_simp; all_goals (with_reducible rfl))
    change wpAnyL _ _ _ _ _ _ _ _ (Act.put _ (some 16) _) _
    simp only [Act.put, List.setIfInBounds_toArray, List.set_cons_zero, List.set_cons_succ]
    refine wpAnyL_take [7, 8, 9, 16, 17, 18, 21] (i := 6) (v := ?v6) rfl (by kernel_rfl) (by kernel_rfl) (by kernel_rfl) (by kernel_rfl) (fun _ _ _ h => h) (Or.inl ⟨by rfl, ?hy6⟩) hHeld ?rest6
    case hy6 => (intro W hSw; (try dsimp only at hSw); obtain ⟨⟨s6, s7⟩, s8⟩ := hSw; go_simp; all_goals (with_reducible rfl))
    change wpAnyL _ _ _ _ _ _ _ _ (Act.put _ (some 20) _) _
    simp only [Act.put, List.setIfInBounds_toArray, List.set_cons_zero, List.set_cons_succ]
    refine wpAnyL_take [12, 13, 14, 15, 16, 17, 18, 21] (i := 11) (v := ?v11) rfl (by kernel_rfl) (by kernel_rfl) (by kernel_rfl) (by kernel_rfl) (fun _ _ _ h => h) (Or.inl ⟨by rfl, ?hy11⟩) hHeld ?rest11
    case hy11 => (intro W hSw; (try dsimp only at hSw); obtain ⟨⟨s6, s7⟩, s8⟩ := hSw; go_simp; all_goals (with_reducible rfl))
    change wpAnyL _ _ _ _ _ _ _ _ (Act.put _ (some 25) _) _
    simp only [Act.put, List.setIfInBounds_toArray, List.set_cons_zero, List.set_cons_succ]
    refine wpAnyL_take [4, 18, 21] (i := 3) (v := ?v3) rfl (by kernel_rfl) (by kernel_rfl) (by kernel_rfl) (by kernel_rfl) (fun _ _ _ h => h) (Or.inl ⟨by rfl, ?hy3⟩) hHeld ?rest3
    case hy3 => (intro W hSw; (try dsimp only at hSw); obtain ⟨⟨s6, s7⟩, s8⟩ := hSw; go_simp; all_goals (with_reducible rfl))
    change wpAnyL _ _ _ _ _ _ _ _ (Act.put _ (some 17) _) _
    simp only [Act.put, List.setIfInBounds_toArray, List.set_cons_zero, List.set_cons_succ]
    refine wpAnyL_take [8, 9, 16, 17, 18, 21] (i := 7) (v := ?v7) rfl (by kernel_rfl) (by kernel_rfl) (by kernel_rfl) (by kernel_rfl) (fun _ _ _ h => h) (Or.inl ⟨by rfl, ?hy7⟩) hHeld ?rest7
    case hy7 => (intro W hSw; (try dsimp only at hSw); obtain ⟨⟨s6, s7⟩, s8⟩ := hSw; go_simp; all_goals (with_reducible rfl))
    change wpAnyL _ _ _ _ _ _ _ _ (Act.put _ (some 21) _) _
    simp only [Act.put, List.setIfInBounds_toArray, List.set_cons_zero, List.set_cons_succ]
    refine wpAnyL_take [13, 14, 15, 16, 17, 18, 21] (i := 12) (v := ?v12) rfl (by kernel_rfl) (by kernel_rfl) (by kernel_rfl) (by kernel_rfl) (fun _ _ _ h => h) (Or.inl ⟨by rfl, ?hy12⟩) hHeld ?rest12
    case hy12 => (intro W hSw; (try dsimp only at hSw); obtain ⟨⟨s6, s7⟩, s8⟩ := hSw; go_simp; all_goals (with_reducible rfl))
    change wpAnyL _ _ _ _ _ _ _ _ (Act.put _ (some 26) _) _
    simp only [Act.put, List.setIfInBounds_toArray, List.set_cons_zero, List.set_cons_succ]
    refine wpAnyL_take [18, 21] (i := 4) (v := ?v4) rfl (by kernel_rfl) (by kernel_rfl) (by kernel_rfl) (by kernel_rfl) (fun _ _ _ h => h) (Or.inl ⟨by rfl, ?hy4⟩) hHeld ?rest4
    case hy4 => (intro W hSw; (try dsimp only at hSw); obtain ⟨⟨s6, s7⟩, s8⟩ := hSw; go_simp; all_goals (with_reducible rfl))
    change wpAnyL _ _ _ _ _ _ _ _ (Act.put _ (some 18) _) _
    simp only [Act.put, List.setIfInBounds_toArray, List.set_cons_zero, List.set_cons_succ]
    refine wpAnyL_take [9, 16, 17, 18, 21] (i := 8) (v := ?v8) rfl (by kernel_rfl) (by kernel_rfl) (by kernel_rfl) (by kernel_rfl) (fun _ _ _ h => h) (Or.inl ⟨by rfl, ?hy8⟩) hHeld ?rest8
    case hy8 => (intro W hSw; (try dsimp only at hSw); obtain ⟨⟨s6, s7⟩, s8⟩ := hSw; go_simp; all_goals (with_reducible rfl))
    change wpAnyL _ _ _ _ _ _ _ _ (Act.put _ (some 22) _) _
    simp only [Act.put, List.setIfInBounds_toArray, List.set_cons_zero, List.set_cons_succ]
    refine wpAnyL_take [14, 15, 16, 17, 18, 21] (i := 13) (v := ?v13) rfl (by kernel_rfl) (by kernel_rfl) (by kernel_rfl) (by kernel_rfl) (fun _ _ _ h => h) (Or.inl ⟨by rfl, ?hy13⟩) hHeld ?rest13
    case hy13 => (intro W hSw; (try dsimp only at hSw); obtain ⟨⟨s6, s7⟩, s8⟩ := hSw; go_simp; all_goals (with_reducible rfl))
    change wpAnyL _ _ _ _ _ _ _ _ (Act.put _ (some 27) _) _
    simp only [Act.put, List.setIfInBounds_toArray, List.set_cons_zero, List.set_cons_succ]
    refine wpAnyL_take [16, 17, 18, 21] (i := 9) (v := ?v9) rfl (by kernel_rfl) (by kernel_rfl) (by kernel_rfl) (by kernel_rfl) (fun _ _ _ h => h) (Or.inl ⟨by rfl, ?hy9⟩) hHeld ?rest9
    case hy9 => (intro W hSw; (try dsimp only at hSw); obtain ⟨⟨s6, s7⟩, s8⟩ := hSw; go_simp; all_goals (with_reducible rfl))
    change wpAnyL _ _ _ _ _ _ _ _ (Act.put _ (some 23) _) _
    simp only [Act.put, List.setIfInBounds_toArray, List.set_cons_zero, List.set_cons_succ]
    refine wpAnyL_take [15, 16, 17, 18, 21] (i := 14) (v := ?v14) rfl (by kernel_rfl) (by kernel_rfl) (by kernel_rfl) (by kernel_rfl) (fun _ _ _ h => h) (Or.inl ⟨by rfl, ?hy14⟩) hHeld ?rest14
    case hy14 => (intro W hSw; (try dsimp only at hSw); obtain ⟨⟨s6, s7⟩, s8⟩ := hSw; go_simp; all_goals (with_reducible rfl))
    change wpAnyL _ _ _ _ _ _ _ _ (Act.put _ (some 28) _) _
    simp only [Act.put, List.setIfInBounds_toArray, List.set_cons_zero, List.set_cons_succ]
    refine wpAnyL_take [16, 17, 18, 21] (i := 15) (v := ?v15) rfl (by kernel_rfl) (by kernel_rfl) (by kernel_rfl) (by kernel_rfl) (fun _ _ _ h => h) (Or.inl ⟨by rfl, ?hy15⟩) hHeld ?rest15
    case hy15 => (intro W hSw; (try dsimp only at hSw); obtain ⟨⟨s6, s7⟩, s8⟩ := hSw; go_simp; all_goals (with_reducible rfl))
    change wpAnyL _ _ _ _ _ _ _ _ (Act.put _ (some 29) _) _
    simp only [Act.put, List.setIfInBounds_toArray, List.set_cons_zero, List.set_cons_succ]
    refine wpAnyL_take [17, 18, 21] (i := 16) (v := ?v16) rfl (by kernel_rfl) (by kernel_rfl) (by kernel_rfl) (by kernel_rfl) (fun _ _ _ h => h) (Or.inl ⟨by rfl, ?hy16⟩) hHeld ?rest16
    case hy16 => (intro W hSw; (try dsimp only at hSw); obtain ⟨⟨s6, s7⟩, s8⟩ := hSw; go_simp; all_goals (with_reducible rfl))
    change wpAnyL _ _ _ _ _ _ _ _ (Act.put _ (some 30) _) _
    simp only [Act.put, List.setIfInBounds_toArray, List.set_cons_zero, List.set_cons_succ]
    refine wpAnyL_one (i := 17) (by kernel_rfl) rfl (fun K hK => ?_)
    try simp only [List.getElem_toArray, List.getElem_cons_succ, List.getElem_cons_zero]
    go_simp
    obtain ⟨w2, hw2⟩ : ∃ W, W = (w.alloc (.cells (cellsR [(lf, ll + 1)]).toArray 69)).drew := ⟨_, rfl⟩
    have hw2b : (w.alloc (.cells #[.int .i64 (lf : Int), .int .i64 ((ll : Int) + 1)] 69)).drew = w2 := hw2.symm
    rw [hw2b]
    have hF2 : Fr (fun _ => False) w w2 := by rw [hw2]; exact (Fr.of_alloc _ _).join (Fr.of_drewN _ 1)
    have hc2 : ∀ j u, (cellsR [(lf, ll + 1)])[j]? = some u → w2.cell? ((⟨w.heap.size, 0, none⟩ : Addr).add j) = some u := by rw [hw2]; intro j u hu; rw [Addr.add_mid]; exact rangeAt_cells (w := (w.alloc (.cells (cellsR [(lf, ll + 1)]).toArray 69)).drew) (alloc_here w _) j u hu
    have HF2 := hide hF2
    have HC2 := hide hc2
    have hS2 := HSk.out w2 hF2
    have HO2 : Hid (OwnR w2 base (.slice ra rs.length rc) rs) := ownsRow_fr HO.out fun j hj => hF2.block j (World.ownsRow.lt HO.out j hj).2 (fun h => h)
    have HS2 := hide (Nat.le_trans hbs hF2.size)
    clear hw2 hw2b hF2 hc2
    refine hK.out _ _ (fun _ => hS2) (fun hHeld0 => ?_)
    have hHeld := hHeld0 (by decide)
    clear hHeld0
    clear hK K
    refine wpAnyL_one (i := 18) (by kernel_rfl) rfl (fun K hK => ?_)
    try simp only [List.getElem_toArray, List.getElem_cons_succ, List.getElem_cons_zero]
    rw [if_pos (by rfl)]
    refine wp_appR (.tmp 18) (.tmp 31) (by rfl) base (.slice ra rs.length rc) rs (by rfl) HO2.out ⟨w.heap.size, 0, none⟩ 1 (lf, ll + 1) (by rfl) HC2.out hrl HS2.out ?_
    intro a3 c3 w3 hO3 hF3 hA3
    have hM3 : w3.heap[M]? = some (.cells cs 71 (0, 0)) := cells_at (cells_at H.out HF2.out (fun e => e)) hF3 (fun e => by have := (World.ownsRow.lt HO2.out M e).1; omega)
    have n6 := cell_of hM3 H6.out
    have g6 := frozen_of (o := 6) hM3
    have hS3 := HSo.out w3 hM3
    have HM3 := hide hM3
    have HO3 := hide hO3
    have HF3 := hide hF3
    have HA3 := hide hA3
    clear hO3 hF3 hA3 hM3
    refine hK.out _ _ (fun _ => hS3) (fun hHeld0 => ?_)
    have hHeld := hHeld0 (by decide)
    clear hHeld0
    clear hK K
    refine wpAnyL_take [20, 21] (i := 19) (v := ?v19) rfl (by kernel_rfl) (by kernel_rfl) (by kernel_rfl) (by kernel_rfl) (fun _ _ _ h => h) (Or.inl ⟨by rfl, ?hy19⟩) hHeld ?rest19
    case hy19 => (intro W hSw; (try dsimp only at hSw); obtain ⟨⟨s6, s7⟩, s8⟩ := hSw; go_simp; all_goals (with_reducible rfl))
    change wpAnyL _ _ _ _ _ _ _ _ (Act.put _ (some 33) _) _
    simp only [Act.put, List.setIfInBounds_toArray, List.set_cons_zero, List.set_cons_succ]
    refine wpAnyL_take [21] (i := 20) (v := ?v20) rfl (by kernel_rfl) (by kernel_rfl) (by kernel_rfl) (by kernel_rfl) (fun _ _ _ h => h) (Or.inl ⟨by rfl, ?hy20⟩) hHeld ?rest20
    case hy20 => (intro W hSw; (try dsimp only at hSw); obtain ⟨⟨s6, s7⟩, s8⟩ := hSw; go_simp; all_goals (with_reducible rfl))
    change wpAnyL _ _ _ _ _ _ _ _ (Act.put _ (some 34) _) _
    simp only [Act.put, List.setIfInBounds_toArray, List.set_cons_zero, List.set_cons_succ]
    refine wpAnyL_one (i := 21) (by kernel_rfl) rfl (fun K hK => ?_)
    try simp only [List.getElem_toArray, List.getElem_cons_succ, List.getElem_cons_zero]
    go_simp
    refine hK.out _ _ (fun h => absurd rfl h) (fun _ => ?_)
    clear hK K
    refine wpAnyL_done (by kernel_rfl) ?_ _
    obtain ⟨w4, hw4⟩ : ∃ w4, w4 = w3.setCell ⟨M, 6, none⟩ (.slice a3 (rs.length + 1) c3) := ⟨_, rfl⟩
    rw [← hw4]
    have hb4 : w4.heap[M]? = some (.cells (cs.setIfInBounds 6 (.slice a3 (rs.length + 1) c3)) 71 (0, 0)) := by rw [hw4]; exact heap_setCell_own _ HM3.out
    have hF4 : Fr (fun j => j = M) w3 w4 := by rw [hw4]; exact Fr.of_setCell w3 ⟨M, 6, none⟩ _
    have hnum4 : Num w4 M 3 k rs.length := ⟨cell_of hb4 (by simpa using H3.out), cell_of hb4 (by simpa using H4.out), cell_of hb4 (by simpa using H5.out), frozen_of hb4, frozen_of hb4⟩
    have Hcn := hide (count_c M 3 k rs.length w4 hk (by omega) hnum4)
    have Hb4 := hide hb4
    have HF4 := hide hF4
    clear hw4 hb4 hF4 hnum4 hHeld hS2 hS3 n6 g6 m6 m7 m8
    go_wp2_with fail
    refine Hcn.out.mono ?_
    rintro e w5 ⟨rfl, d, rfl⟩
    go_wp2_with fail
    go_end0
    refine ⟨rfl, fun hx => by omega, fun _ _ => ⟨a3, c3, ?_, ?_, ?_, ?_⟩⟩
    · exact heap_setCell_own _ (heap_setCell_own _ Hb4.out)
    · have hFx : Fr (fun j => j = M) w3 (((w4.setCell ⟨M, 3 + 1, none⟩ (.int .i64 ((nextN k (rs.length + 1) : Nat) : Int))).setCell ⟨M, 3 + 2, none⟩ (.int .i64 ((wid k (rs.length + 1) : Nat) : Int))).drewN d) := ((HF4.out.join (Fr.of_setCell w4 ⟨M, 3 + 1, none⟩ _)).join (Fr.of_setCell _ ⟨M, 3 + 2, none⟩ _)).join ((Fr.of_drewN _ d).mono fun _ _ h => h.elim)
      refine ownsRow_fr HO3.out fun j hj => hFx.block j (World.ownsRow.lt HO3.out j hj).2 ?_
      intro e
      have := (World.ownsRow.lt HO3.out j hj).1
      have e2 : j = M := e
      omega
    · refine ((((HF2.out.trans HF3.out).trans HF4.out).trans (Fr.of_setCell w4 ⟨M, 3 + 1, none⟩ _)).trans (Fr.of_setCell _ ⟨M, 3 + 2, none⟩ _)).trans (Fr.of_drewN _ d) |>.mono fun j _ e => ?_
      rcases e with ((((e | e) | e) | e) | e) | e
      · exact e.elim
      · exact Or.inr e
      · exact Or.inl e
      · exact Or.inl e
      · exact Or.inl e
      · exact e.elim
    · rcases HA3.out with e | e
      · exact Or.inl e
      · refine Or.inr fun j hj => ?_
        have e3 := Option.some.inj (hj.symm.trans e)
        have := HF2.out.size
        omega
end Go.Proofs.Ytdbgolklgiadeaa
