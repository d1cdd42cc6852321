/-
  raster: insertionSortOrdered of numbers that lie in their order already.
-/
import Derived.Test.YthdilabmajaehaaRf
namespace Go.Proofs.Ythdilabmajaehaa
open Go.RowKit

/-- Numbers as cells. -/
def cellsQ (l : List Int) : List Value := l.map fun x => .int .u64 x

set_option maxHeartbeats 200000 in
theorem insert_c (g n : Nat) (l : List Int) (w : World) (hg : w.heap[g]? = some (.cells (cellsQ l).toArray 65 (0, 0))) (hn : l.length = n) (hn2 : n ≤ 1000) (hs : ∀ i, i + 1 < n → l.getD i 0 ≤ l.getD (i + 1) 0) :
    Calls Try.prog 58 #[.slice (some ⟨g, 0, none⟩) n n, .int .i64 0, .int .i64 (n : Int)] w fun e w' => e = .returned (.tuple #[]) ∧ Fr (fun _ => False) w w' := by
  have Hg := hide hg
  have Hn := hide hn
  have Hs := hide hs
  clear hg hn hs
  go_enter Try.func58, Try.ntmps58
  go_wp2_with fail
  go_loopw [6, 7] (fun v6 _ wr => ∃ i : Nat, v6 = .int .i64 (i : Int) ∧ 1 ≤ i ∧ i ≤ n + 1 ∧ Hid (Fr (fun _ => False) w wr)) (fun v6 _ _ => n + 1 - (intOf v6).toNat)
  case atStart => exact ⟨1, rfl, Nat.le_refl _, by omega, Fr.refl _ _⟩
  case round =>
    obtain ⟨i, rfl, hi1, hin, HF⟩ := hrel
    by_cases hlt : i < n
    · have hlti : (i : Int) < (n : Int) := by omega
      have hi0 : (0 : Int) < (i : Int) := by omega
      have hi0n : 0 < i := by omega
      have hi0d : decide (0 < i) = true := decide_eq_true hi0n
      obtain ⟨j, hj⟩ : ∃ j, j + 1 = i := ⟨i - 1, by omega⟩
      have hji : (i : Int) - 1 = (j : Int) := by omega
      have hjn : j < n := by omega
      have qj : IntKind.i64.wrap (j : Int) = (j : Int) := wrap_i64_id _ (by omega) (by omega)
      have hjni : (j : Int) < (n : Int) := by omega
      obtain ⟨A, hA⟩ : ∃ A, A = l.getD i 0 := ⟨_, rfl⟩
      obtain ⟨B, hB⟩ : ∃ B, B = l.getD j 0 := ⟨_, rfl⟩
      have hle : B ≤ A := by have := Hs.out j (by omega); rw [hj] at this; rw [hA, hB]; exact this
      have hlt2 : decide (A < B) = false := decide_eq_false (by omega)
      have HC : Hid (∀ W, Fr (fun _ => False) w W → W.cell? ⟨g, i, none⟩ = some (.int .u64 A) ∧ W.cell? ⟨g, j, none⟩ = some (.int .u64 B)) := fun W f => by
        have hb := cells_at Hg.out f (fun e => e)
        have hl := Hn.out
        refine ⟨cell_of hb ?_, cell_of hb ?_⟩
        · rw [← Array.getElem?_toList, hA]
          simp [cellsQ, List.getElem?_eq_getElem (show i < l.length by omega), List.getD_eq_getElem?_getD]
        · rw [← Array.getElem?_toList, hB]
          simp [cellsQ, List.getElem?_eq_getElem (show j < l.length by omega), List.getD_eq_getElem?_getD]
      clear hA hB hle
      have HF0 := hide HF.out
      go_wp2_with fail
      go_loopw [7] (fun v7 wr2 => v7 = .int .i64 (i : Int) ∧ Hid (Fr (fun _ => False) w wr2)) (fun _ _ => 0)
      case atStart => exact ⟨rfl, HF0.out⟩
      case round =>
        obtain ⟨rfl, HF⟩ := hrel
        go_upto_region 4 with fail
        refine wp_region_held_drew (S := fun w' => Fr (fun _ => False) w w') (by kernel_rfl) (by exact HF.out.join (Fr.of_drewN _ 1)) (fun hHeld => ?_)
        refine wpAnyH_take (i := 0) (v := ?v0) rfl (by kernel_rfl) (by kernel_rfl) (by kernel_rfl) (fun _ _ _ h => h) (Or.inl ⟨by rfl, ?hy0⟩) hHeld ?rest0
        case hy0 => (intro W hSw; (try dsimp only at hSw); obtain ⟨cA, cB⟩ := HC.out _ hSw; have t0 : decide ((0 : Int) < (i : Int)) = true := decide_eq_true hi0; go_simp; all_goals (with_reducible rfl))
        change wpAnyH _ _ _ _ _ _ _ (Act.put _ (some 16) _) _
        simp only [Act.put, List.setIfInBounds_toArray, List.set_cons_zero, List.set_cons_succ]
        refine wpAnyH_take (i := 1) (v := ?v1) rfl (by kernel_rfl) (by kernel_rfl) (by kernel_rfl) (fun _ _ _ h => h) (Or.inl ⟨by rfl, ?hy1⟩) hHeld ?rest1
        case hy1 => (intro W hSw; (try dsimp only at hSw); obtain ⟨cA, cB⟩ := HC.out _ hSw; have t0 : decide ((0 : Int) < (i : Int)) = true := decide_eq_true hi0; go_simp; all_goals (with_reducible rfl))
        change wpAnyH _ _ _ _ _ _ _ (Act.put _ (some 17) _) _
        simp only [Act.put, List.setIfInBounds_toArray, List.set_cons_zero, List.set_cons_succ]
        refine wpAnyH_take (i := 2) (v := ?v2) rfl (by kernel_rfl) (by kernel_rfl) (by kernel_rfl) (fun _ _ _ h => h) (Or.inl ⟨by rfl, ?hy2⟩) hHeld ?rest2
        case hy2 => (intro W hSw; (try dsimp only at hSw); obtain ⟨cA, cB⟩ := HC.out _ hSw; have t0 : decide ((0 : Int) < (i : Int)) = true := decide_eq_true hi0; go_simp; all_goals (with_reducible rfl))
        change wpAnyH _ _ _ _ _ _ _ (Act.put _ (some 18) _) _
        simp only [Act.put, List.setIfInBounds_toArray, List.set_cons_zero, List.set_cons_succ]
        refine wpAnyH_take (i := 3) (v := ?v3) rfl (by kernel_rfl) (by kernel_rfl) (by kernel_rfl) (fun _ _ _ h => h) (Or.inl ⟨by rfl, ?hy3⟩) hHeld ?rest3
        case hy3 => (intro W hSw; (try dsimp only at hSw); obtain ⟨cA, cB⟩ := HC.out _ hSw; have t0 : decide ((0 : Int) < (i : Int)) = true := decide_eq_true hi0; go_simp; all_goals (with_reducible rfl))
        change wpAnyH _ _ _ _ _ _ _ (Act.put _ (some 19) _) _
        simp only [Act.put, List.setIfInBounds_toArray, List.set_cons_zero, List.set_cons_succ]
        refine wpAnyH_take (i := 4) (v := ?v4) rfl (by kernel_rfl) (by kernel_rfl) (by kernel_rfl) (fun _ _ _ h => h) (Or.inl ⟨by rfl, ?hy4⟩) hHeld ?rest4
        case hy4 => (intro W hSw; (try dsimp only at hSw); obtain ⟨cA, cB⟩ := HC.out _ hSw; have t0 : decide ((0 : Int) < (i : Int)) = true := decide_eq_true hi0; go_simp; all_goals (with_reducible rfl))
        change wpAnyH _ _ _ _ _ _ _ (Act.put _ (some 20) _) _
        simp only [Act.put, List.setIfInBounds_toArray, List.set_cons_zero, List.set_cons_succ]
        refine wpAnyH_take (i := 5) (v := ?v5) rfl (by kernel_rfl) (by kernel_rfl) (by kernel_rfl) (fun _ _ _ h => h) (Or.inl ⟨by rfl, ?hy5⟩) hHeld ?rest5
        case hy5 => (intro W hSw; (try dsimp only at hSw); obtain ⟨cA, cB⟩ := HC.out _ hSw; have t0 : decide ((0 : Int) < (i : Int)) = true := decide_eq_true hi0; go_simp; all_goals (with_reducible rfl))
        change wpAnyH _ _ _ _ _ _ _ (Act.put _ (some 21) _) _
        simp only [Act.put, List.setIfInBounds_toArray, List.set_cons_zero, List.set_cons_succ]
        refine wpAnyH_take (i := 8) (v := ?v8) rfl (by kernel_rfl) (by kernel_rfl) (by kernel_rfl) (fun _ _ _ h => h) (Or.inl ⟨by rfl, ?hy8⟩) hHeld ?rest8
        case hy8 => (intro W hSw; (try dsimp only at hSw); obtain ⟨cA, cB⟩ := HC.out _ hSw; have t0 : decide ((0 : Int) < (i : Int)) = true := decide_eq_true hi0; go_simp; all_goals (with_reducible rfl))
        change wpAnyH _ _ _ _ _ _ _ (Act.put _ (some 24) _) _
        simp only [Act.put, List.setIfInBounds_toArray, List.set_cons_zero, List.set_cons_succ]
        refine wpAnyH_take (i := 9) (v := ?v9) rfl (by kernel_rfl) (by kernel_rfl) (by kernel_rfl) (fun _ _ _ h => h) (Or.inl ⟨by rfl, ?hy9⟩) hHeld ?rest9
        case hy9 => (intro W hSw; (try dsimp only at hSw); obtain ⟨cA, cB⟩ := HC.out _ hSw; have t0 : decide ((0 : Int) < (i : Int)) = true := decide_eq_true hi0; go_simp; all_goals (with_reducible rfl))
        change wpAnyH _ _ _ _ _ _ _ (Act.put _ (some 25) _) _
        simp only [Act.put, List.setIfInBounds_toArray, List.set_cons_zero, List.set_cons_succ]
        refine wpAnyH_take (i := 6) (v := ?v6) rfl (by kernel_rfl) (by kernel_rfl) (by kernel_rfl) (fun _ _ _ h => h) (Or.inl ⟨by rfl, ?hy6⟩) hHeld ?rest6
        case hy6 => (intro W hSw; (try dsimp only at hSw); obtain ⟨cA, cB⟩ := HC.out _ hSw; have t0 : decide ((0 : Int) < (i : Int)) = true := decide_eq_true hi0; go_simp; all_goals (with_reducible rfl))
        change wpAnyH _ _ _ _ _ _ _ (Act.put _ (some 22) _) _
        simp only [Act.put, List.setIfInBounds_toArray, List.set_cons_zero, List.set_cons_succ]
        refine wpAnyH_take (i := 10) (v := ?v10) rfl (by kernel_rfl) (by kernel_rfl) (by kernel_rfl) (fun _ _ _ h => h) (Or.inl ⟨by rfl, ?hy10⟩) hHeld ?rest10
        case hy10 => (intro W hSw; (try dsimp only at hSw); obtain ⟨cA, cB⟩ := HC.out _ hSw; have t0 : decide ((0 : Int) < (i : Int)) = true := decide_eq_true hi0; go_simp; all_goals (with_reducible rfl))
        change wpAnyH _ _ _ _ _ _ _ (Act.put _ (some 26) _) _
        simp only [Act.put, List.setIfInBounds_toArray, List.set_cons_zero, List.set_cons_succ]
        refine wpAnyH_take (i := 7) (v := ?v7) rfl (by kernel_rfl) (by kernel_rfl) (by kernel_rfl) (fun _ _ _ h => h) (Or.inl ⟨by rfl, ?hy7⟩) hHeld ?rest7
        case hy7 => (intro W hSw; (try dsimp only at hSw); obtain ⟨cA, cB⟩ := HC.out _ hSw; have t0 : decide ((0 : Int) < (i : Int)) = true := decide_eq_true hi0; go_simp; all_goals (with_reducible rfl))
        change wpAnyH _ _ _ _ _ _ _ (Act.put _ (some 23) _) _
        simp only [Act.put, List.setIfInBounds_toArray, List.set_cons_zero, List.set_cons_succ]
        refine wpAnyH_take (i := 11) (v := ?v11) rfl (by kernel_rfl) (by kernel_rfl) (by kernel_rfl) (fun _ _ _ h => h) (Or.inl ⟨by rfl, ?hy11⟩) hHeld ?rest11
        case hy11 => (intro W hSw; (try dsimp only at hSw); obtain ⟨cA, cB⟩ := HC.out _ hSw; have t0 : decide ((0 : Int) < (i : Int)) = true := decide_eq_true hi0; go_simp; all_goals (with_reducible rfl))
        change wpAnyH _ _ _ _ _ _ _ (Act.put _ (some 27) _) _
        simp only [Act.put, List.setIfInBounds_toArray, List.set_cons_zero, List.set_cons_succ]
        refine wpAnyH_take (i := 12) (v := ?v12) rfl (by kernel_rfl) (by kernel_rfl) (by kernel_rfl) (fun _ _ _ h => h) (Or.inl ⟨by rfl, ?hy12⟩) hHeld ?rest12
        case hy12 => (intro W hSw; (try dsimp only at hSw); obtain ⟨cA, cB⟩ := HC.out _ hSw; have t0 : decide ((0 : Int) < (i : Int)) = true := decide_eq_true hi0; go_simp; all_goals (with_reducible rfl))
        change wpAnyH _ _ _ _ _ _ _ (Act.put _ (some 28) _) _
        simp only [Act.put, List.setIfInBounds_toArray, List.set_cons_zero, List.set_cons_succ]
        refine wpAnyH_ready (rs := [13]) (by kernel_rfl) (by simp) ?_
        refine AllReadyH.cons rfl (fun K hK => ?_) AllReadyH.nil
        try simp only [List.getElem_toArray, List.getElem_cons_succ, List.getElem_cons_zero]
        go_simp
        refine (less_c _ _ _).mono ?_
        rintro e w1 ⟨rfl, rfl⟩
        refine hK.out _ _ hHeld (fun hHeld => ?_)
        clear hK K
        refine wpAnyH_take (i := 14) (v := ?v14) rfl (by kernel_rfl) (by kernel_rfl) (by kernel_rfl) (fun _ _ _ h => h) (Or.inl ⟨by rfl, ?hy14⟩) hHeld ?rest14
        case hy14 => (intro W hSw; (try dsimp only at hSw); obtain ⟨cA, cB⟩ := HC.out _ hSw; have t0 : decide ((0 : Int) < (i : Int)) = true := decide_eq_true hi0; go_simp; all_goals (with_reducible rfl))
        change wpAnyH _ _ _ _ _ _ _ (Act.put _ (some 30) _) _
        simp only [Act.put, List.setIfInBounds_toArray, List.set_cons_zero, List.set_cons_succ]
        refine wpAnyH_done (by kernel_rfl) ?_ _
        go_wp2_with fail
        go_roundw
        case rel => exact ⟨i + 1, by go_num, by omega, by omega, hHeld⟩
        case measure => simp [intOf]; omega
    · have hlti : ¬ (i : Int) < (n : Int) := by omega
      go_wp2_with fail
      go_end0
      exact ⟨rfl, HF.out⟩
end Go.Proofs.Ythdilabmajaehaa
