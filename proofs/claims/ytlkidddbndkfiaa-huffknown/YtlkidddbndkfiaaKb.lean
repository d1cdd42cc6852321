/-
  HuffKnown: the closures under Guard.
-/
import Derived.Test.YtlkidddbndkfiaaKa
namespace Go.Proofs.Ytlkidddbndkfiaa
open Go.RowKit

set_option maxHeartbeats 800000 in
theorem closure26 (P1 lo hi C : Nat) (w : World) (h1 : w.heap[P1]? = some (.cells #[.pointer (some ⟨C, 0, none⟩)] 24 (0, 0))) (hC : Cd w lo hi C [0, 0, 1]) (hhi : hi ≤ w.heap.size) :
    Calls Try.prog 26 #[.pointer (some ⟨P1, 0, none⟩)] w fun e w' => (∃ er, e = errPanic er) ∧ Fr (fun _ => False) w w' := by
  have k1 := cell_of (o := 0) h1 rfl
  have H1 := hide h1
  have HC := hide hC
  clear h1 hC
  go_enter Try.func26, Try.ntmps26
  refine wp_region_held_drew (S := fun w' => w'.cell? ⟨P1, 0, none⟩ = some (.pointer (some ⟨C, 0, none⟩))) (by kernel_rfl) (by go_keep) (fun hHeld => ?_)
  refine wpAnyH_take (i := 0) (v := ?v0) rfl (by kernel_rfl) (by kernel_rfl) (by kernel_rfl) (fun _ _ _ h => h) (Or.inl ⟨by rfl, ?hy0⟩) hHeld ?rest0
  case hy0 => (intro W hSw; (try dsimp only at hSw); go_simp; all_goals (with_reducible rfl))
  change wpAnyH _ _ _ _ _ _ _ (Act.put _ (some 1) _) _
  simp only [Act.put, List.setIfInBounds_toArray, List.set_cons_zero, List.set_cons_succ]
  refine wpAnyH_ready (rs := [1]) (by kernel_rfl) (by simp) ?_
  refine AllReadyH.cons rfl (fun K hK => ?_) AllReadyH.nil
  try simp only [List.getElem_toArray, List.getElem_cons_succ, List.getElem_cons_zero]
  go_simp
  refine hK.out _ _ (by go_keep) (fun hHeld => ?_)
  clear hK K
  refine wpAnyH_ready (rs := [2]) (by kernel_rfl) (by simp) ?_
  refine AllReadyH.cons rfl (fun K hK => ?_) AllReadyH.nil
  try simp only [List.getElem_toArray, List.getElem_cons_succ, List.getElem_cons_zero]
  go_simp
  refine (newLow_k 1 1 rfl (by decide) w _ (by first | exact drew_fr _ | exact (drew_fr _).join (drew_fr _) | exact Fr.refl _ _)).mono ?_
  rintro e w2 ⟨B, rfl, hR, hW, hF⟩
  have HR := hide hR
  have HW := hide (Nat.le_trans hW hR.elo)
  have HF := hide hF
  have k2 := cell_fr hF H1.out
  clear hR hF hW
  refine hK.out _ _ k2 (fun hHeld => ?_)
  clear hK K
  refine wpAnyH_ready (rs := [3]) (by kernel_rfl) (by simp) ?_
  refine AllReadyH.cons rfl (fun K hK => ?_) AllReadyH.nil
  try simp only [List.getElem_toArray, List.getElem_cons_succ, List.getElem_cons_zero]
  go_simp
  refine (take_never lo hi C _ _ B [0, 0, 1] [1] _ _ _ (HC.out.keep HF.out (fun _ _ _ h => h)) HR.out (Or.inl (by have := HW.out; omega)) no_one).mono ?_
  rintro e w3 ⟨⟨er, rfl⟩, hF3⟩
  refine ⟨rfl, ⟨er, rfl⟩, (HF.out.trans hF3).mono fun k hk h => ?_⟩
  have := HW.out
  rcases h with h | h
  · exact h
  · exfalso
    omega

theorem cf26 (W : World) (a : Value) : (callFunc 26 #[a]).run Try.prog W = .ok (.enter 26 #[a]) W := by kernel_rfl

theorem guard26 (P1 lo hi C : Nat) (w : World) (h1 : w.heap[P1]? = some (.cells #[.pointer (some ⟨C, 0, none⟩)] 24 (0, 0))) (hC : Cd w lo hi C [0, 0, 1]) (hhi : hi ≤ w.heap.size) :
    Calls Try.prog 15 #[.func (.func 26) #[] #[.pointer (some ⟨P1, 0, none⟩)]] w fun e w' => e = .returned (.bool false) ∧ Fr (fun _ => False) w w' := by
  refine (guard_c 26 _ w (fun b w' => b = false ∧ Fr (fun _ => False) (w.alloc (.cells #[.bool false] 4)) w') (fun W => cf26 W _) ?_ ?_).mono ?_
  · refine (closure26 P1 lo hi C _ (by rw [Below.heap_alloc _ _ _ (lt_of h1)]; exact h1) (hC.keep (Fr.of_alloc w _) (fun _ _ _ h => h)) (by simp; omega)).mono ?_
    rintro e w' ⟨⟨er, rfl⟩, f⟩
    exact Or.inr ⟨⟨_, _, rfl⟩, rfl, f⟩
  · rintro b w' ⟨_, f⟩
    rw [f.block _ (by simp) (fun h => h)]
    exact heap_alloc_new _ _
  · rintro e w' ⟨b, w1, rfl, ⟨rfl, f⟩, rfl⟩
    exact ⟨rfl, guard_set f⟩

set_option maxHeartbeats 800000 in
theorem closure27 (P1 lo hi C : Nat) (w : World) (h1 : w.heap[P1]? = some (.cells #[.pointer (some ⟨C, 0, none⟩)] 24 (0, 0))) (hC : Cd w lo hi C []) (hhi : hi ≤ w.heap.size) :
    Calls Try.prog 27 #[.pointer (some ⟨P1, 0, none⟩)] w fun e w' => (∃ er, e = errPanic er) ∧ Fr (fun _ => False) w w' := by
  have k1 := cell_of (o := 0) h1 rfl
  have H1 := hide h1
  have HC := hide hC
  clear h1 hC
  go_enter Try.func27, Try.ntmps27
  refine wp_region_held_drew (S := fun w' => w'.cell? ⟨P1, 0, none⟩ = some (.pointer (some ⟨C, 0, none⟩))) (by kernel_rfl) (by go_keep) (fun hHeld => ?_)
  refine wpAnyH_take (i := 0) (v := ?v0) rfl (by kernel_rfl) (by kernel_rfl) (by kernel_rfl) (fun _ _ _ h => h) (Or.inl ⟨by rfl, ?hy0⟩) hHeld ?rest0
  case hy0 => (intro W hSw; (try dsimp only at hSw); go_simp; all_goals (with_reducible rfl))
  change wpAnyH _ _ _ _ _ _ _ (Act.put _ (some 1) _) _
  simp only [Act.put, List.setIfInBounds_toArray, List.set_cons_zero, List.set_cons_succ]
  refine wpAnyH_ready (rs := [1]) (by kernel_rfl) (by simp) ?_
  refine AllReadyH.cons rfl (fun K hK => ?_) AllReadyH.nil
  try simp only [List.getElem_toArray, List.getElem_cons_succ, List.getElem_cons_zero]
  go_simp
  refine hK.out _ _ (by go_keep) (fun hHeld => ?_)
  clear hK K
  refine wpAnyH_ready (rs := [2]) (by kernel_rfl) (by simp) ?_
  refine AllReadyH.cons rfl (fun K hK => ?_) AllReadyH.nil
  try simp only [List.getElem_toArray, List.getElem_cons_succ, List.getElem_cons_zero]
  go_simp
  refine (newLow_k 0 0 rfl (by decide) w _ (by first | exact drew_fr _ | exact (drew_fr _).join (drew_fr _) | exact Fr.refl _ _)).mono ?_
  rintro e w2 ⟨B, rfl, hR, hW, hF⟩
  have HR := hide hR
  have HW := hide (Nat.le_trans hW hR.elo)
  have HF := hide hF
  have k2 := cell_fr hF H1.out
  clear hR hF hW
  refine hK.out _ _ k2 (fun hHeld => ?_)
  clear hK K
  refine wpAnyH_ready (rs := [3]) (by kernel_rfl) (by simp) ?_
  refine AllReadyH.cons rfl (fun K hK => ?_) AllReadyH.nil
  try simp only [List.getElem_toArray, List.getElem_cons_succ, List.getElem_cons_zero]
  go_simp
  refine (take_never lo hi C _ _ B [] [0] _ _ _ (HC.out.keep HF.out (fun _ _ _ h => h)) HR.out (Or.inl (by have := HW.out; omega)) no_none).mono ?_
  rintro e w3 ⟨⟨er, rfl⟩, hF3⟩
  refine ⟨rfl, ⟨er, rfl⟩, (HF.out.trans hF3).mono fun k hk h => ?_⟩
  have := HW.out
  rcases h with h | h
  · exact h
  · exfalso
    omega

theorem cf27 (W : World) (a : Value) : (callFunc 27 #[a]).run Try.prog W = .ok (.enter 27 #[a]) W := by kernel_rfl

theorem guard27 (P1 lo hi C : Nat) (w : World) (h1 : w.heap[P1]? = some (.cells #[.pointer (some ⟨C, 0, none⟩)] 24 (0, 0))) (hC : Cd w lo hi C []) (hhi : hi ≤ w.heap.size) :
    Calls Try.prog 15 #[.func (.func 27) #[] #[.pointer (some ⟨P1, 0, none⟩)]] w fun e w' => e = .returned (.bool false) ∧ Fr (fun _ => False) w w' := by
  refine (guard_c 27 _ w (fun b w' => b = false ∧ Fr (fun _ => False) (w.alloc (.cells #[.bool false] 4)) w') (fun W => cf27 W _) ?_ ?_).mono ?_
  · refine (closure27 P1 lo hi C _ (by rw [Below.heap_alloc _ _ _ (lt_of h1)]; exact h1) (hC.keep (Fr.of_alloc w _) (fun _ _ _ h => h)) (by simp; omega)).mono ?_
    rintro e w' ⟨⟨er, rfl⟩, f⟩
    exact Or.inr ⟨⟨_, _, rfl⟩, rfl, f⟩
  · rintro b w' ⟨_, f⟩
    rw [f.block _ (by simp) (fun h => h)]
    exact heap_alloc_new _ _
  · rintro e w' ⟨b, w1, rfl, ⟨rfl, f⟩, rfl⟩
    exact ⟨rfl, guard_set f⟩

theorem cf25 (W : World) (a b : Value) : (callFunc 25 #[a, b]).run Try.prog W = .ok (.enter 25 #[a, b]) W := by kernel_rfl

theorem guard25 (P1 P13 lo hi C : Nat) (x : Int) (w : World) (h1 : w.heap[P1]? = some (.cells #[.pointer (some ⟨C, 0, none⟩)] 24 (0, 0))) (h13 : w.heap[P13]? = some (.cells #[.int .i64 x] 3 (0, 0))) (hC : Cd w lo hi C [0, 0, 1]) (hhi : hi ≤ w.heap.size) :
    Calls Try.prog 15 #[.func (.func 25) #[] #[.pointer (some ⟨P1, 0, none⟩), .pointer (some ⟨P13, 0, none⟩)]] w fun e w' => e = .returned (.bool true) ∧ w'.heap[P13]? = some (.cells #[.int .i64 2] 3 (0, 0)) ∧ Fr (fun k => k = P13) w w' := by
  have s13 := lt_of h13
  refine (guard_c 25 _ w (fun b w' => b = true ∧ w'.heap[P13]? = some (.cells #[.int .i64 2] 3 (0, 0)) ∧ Fr (fun k => k = P13) (w.alloc (.cells #[.bool false] 4)) w') (fun W => cf25 W _ _) ?_ ?_).mono ?_
  · refine (closure25 P1 P13 lo hi C x _ (by rw [Below.heap_alloc _ _ _ (lt_of h1)]; exact h1) (by rw [Below.heap_alloc _ _ _ (lt_of h13)]; exact h13) (hC.keep (Fr.of_alloc w _) (fun _ _ _ h => h)) (by simp; omega)).mono ?_
    rintro e w' ⟨rfl, h, f⟩
    exact Or.inl ⟨rfl, rfl, h, f⟩
  · rintro b w' ⟨_, _, f⟩
    rw [f.block _ (by simp) (by omega)]
    exact heap_alloc_new _ _
  · rintro e w' ⟨b, w1, rfl, ⟨rfl, h, f⟩, rfl⟩
    refine ⟨rfl, ?_, guard_set f⟩
    rw [Below.heap_setCell _ _ _ _ (by show P13 ≠ w.heap.size; omega)]
    exact h

end Go.Proofs.Ytlkidddbndkfiaa
