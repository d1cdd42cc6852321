/-
  Contracts of what recovers, of a slice.
-/
import Derived.Test.YtleeaofofofgmaaDoorMw
namespace Go.Proofs.YtleeaofofofgmaaDoor
open Go.RowKit

/-- A machine that is done with r. -/
def Mr (w : World) (M : Nat) : Except Nat (List Nat × Nat) → Prop
  | .ok (out, p) => Mf w M out ((p + 7) / 8) 0
  | .error er => Mf w M [] 0 er

set_option maxHeartbeats 400000 in
set_option maxRecDepth 100000 in
theorem reason_c (er : Int) (w : World) : Calls Tryd.prog 38 #[.iface 24 (.int .i64 er)] w fun e w' => e = .returned (.int .i64 er) ∧ w = w' := by
  have ht : ∀ W : World, (Instr.typeAssert (.iface 24 (.int .i64 er)) 20 24 true).run Tryd.prog W = .ok (.tuple #[.int .i64 er, .bool true]) W := fun W => by kernel_rfl
  go_enter Tryd.func38, Tryd.ntmps38
  go_wp2
  go_ret
  exact ⟨rfl, rfl⟩

set_option maxHeartbeats 1000000 in
set_option maxRecDepth 100000 in
theorem catch_panicking (P M : Nat) (er : Nat) (older : List PanicEntry) (w : World) (hP : w.cell? ⟨P, 0, none⟩ = some (.pointer (some ⟨M, 0, none⟩))) (hPM : P ≠ M) (hM : Md w M) :
    CallsD Tryd.prog 37 #[.pointer (some ⟨P, 0, none⟩)] (.panicking ({ v := .iface 24 (.int .i64 (er : Int)), recovered := false } :: older)) w fun e u' w' =>
      e = .returned (.tuple #[]) ∧ u' = .panicking ({ v := .iface 24 (.int .i64 (er : Int)), recovered := true } :: older) ∧ Mf w' M [] 0 er ∧ Fr (fun k => k = M) w w' := by
  obtain ⟨cs0, hobj, hsz⟩ := hM
  have Hobj := hide hobj
  refine callsD_of_wpS Tryd.func37 rfl fun c₀ cs hu => ?_
  apply wpS_seq
  apply wpS_region
  simp [wpOpsS, go_sem, recoverD, hu, Tryd.ntmps37, Exit.thenS]
  apply wpS_seq
  apply wpS_region
  simp [wpOpsS, go_sem, Exit.thenS]
  refine wpS_cond (t := true) (by simp [Act.eval, Array.replicate]) ?_
  simp only [if_true]
  refine wpS_of_wp ?_
  have et : (#[.pointer (some ⟨P, 0, none⟩)] ++ ((((Array.replicate 9 undef).setIfInBounds 1 (.iface 24 (.int .i64 (er : Int)))).setIfInBounds 0 (.iface 24 (.int .i64 (er : Int)))).setIfInBounds 2 (.iface 24 (.int .i64 (er : Int)))).setIfInBounds 3 (.bool true) : Array Value) = #[.pointer (some ⟨P, 0, none⟩), .iface 24 (.int .i64 (er : Int)), .iface 24 (.int .i64 (er : Int)), .iface 24 (.int .i64 (er : Int)), .bool true, undef, undef, undef, undef, undef] := rfl
  rw [et]
  clear et hobj
  refine wp_region_held_drew (S := fun w' => w'.cell? ⟨P, 0, none⟩ = some (.pointer (some ⟨M, 0, none⟩))) (by kernel_rfl) (by exact hP) (fun hHeld => ?_)
  refine wpAnyH_take (i := 0) (v := ?v0) rfl (by kernel_rfl) (by kernel_rfl) (by kernel_rfl) (fun _ _ _ h => h) (Or.inl ⟨by rfl, ?hy0⟩) hHeld ?rest0
  case hy0 => (intro W hSw; (try dsimp only at hSw); go_simp; all_goals (with_reducible rfl))
  change wpAnyH _ _ _ _ _ _ _ (Act.put _ (some 5) _) _
  simp only [Act.put, List.setIfInBounds_toArray, List.set_cons_zero, List.set_cons_succ]
  refine wpAnyH_take (i := 1) (v := ?v1) rfl (by kernel_rfl) (by kernel_rfl) (by kernel_rfl) (fun _ _ _ h => h) (Or.inl ⟨by rfl, ?hy1⟩) hHeld ?rest1
  case hy1 => (intro W hSw; (try dsimp only at hSw); go_simp; all_goals (with_reducible rfl))
  change wpAnyH _ _ _ _ _ _ _ (Act.put _ (some 6) _) _
  simp only [Act.put, List.setIfInBounds_toArray, List.set_cons_zero, List.set_cons_succ]
  refine wpAnyH_ready (rs := [2]) (by kernel_rfl) (by simp) ?_
  refine AllReadyH.cons rfl (fun K hK => ?_) AllReadyH.nil
  try simp only [List.getElem_toArray, List.getElem_cons_succ, List.getElem_cons_zero]
  go_simp
  refine (reason_c er _).mono ?_
  rintro e w1 ⟨rfl, rfl⟩
  refine hK.out _ _ hHeld (fun hHeld => ?_)
  clear hK K
  refine wpAnyH_take (i := 3) (v := ?v3) rfl (by kernel_rfl) (by kernel_rfl) (by kernel_rfl) (fun _ _ _ h => h) (Or.inl ⟨by rfl, ?hy3⟩) hHeld ?rest3
  case hy3 => (intro W hSw; (try dsimp only at hSw); go_simp; all_goals (with_reducible rfl))
  change wpAnyH _ _ _ _ _ _ _ (Act.put _ (some 8) _) _
  simp only [Act.put, List.setIfInBounds_toArray, List.set_cons_zero, List.set_cons_succ]
  refine wpAnyH_take (i := 4) (v := ?v4) rfl (by kernel_rfl) (by kernel_rfl) (by kernel_rfl) (fun _ _ _ h => h) (Or.inl ⟨by rfl, ?hy4⟩) hHeld ?rest4
  case hy4 => (intro W hSw; (try dsimp only at hSw); go_simp; all_goals (with_reducible rfl))
  change wpAnyH _ _ _ _ _ _ _ (Act.put _ (some 9) _) _
  simp only [Act.put, List.setIfInBounds_toArray, List.set_cons_zero, List.set_cons_succ]
  refine wpAnyH_ready (rs := [5]) (by kernel_rfl) (by simp) ?_
  refine AllReadyH.cons rfl (fun K hK => ?_) AllReadyH.nil
  try simp only [List.getElem_toArray, List.getElem_cons_succ, List.getElem_cons_zero]
  rw [if_pos (by rfl)]
  refine wp_store_row 68 (.tmp 9) (.tmp 8) rfl M 68 _ _ rfl rfl Hobj.out (by kernel_rfl) hsz (by simp [Value.oneCell']) ?_
  refine hK.out _ _ ((cell_setRow_other _ _ _ _ hPM).trans hHeld) (fun hHeld => ?_)
  clear hK K
  refine wpAnyH_done (by kernel_rfl) ?_ _
  have fr : Fr (fun k => k = M) w (w.drew.setRow M #[.pointer none, .int .i64 0, .int .i64 0, .int .i64 0, .bool false, .int .i64 0, .int .i64 0, .pointer none, .pointer none, .pointer none, .pointer none, .slice none 0 0, .int .i64 0, .int .i64 (er : Int), .bool true]) :=
    ⟨rfl, rfl, rfl, by simp, fun j _ hj => setRow_other _ _ _ _ hj⟩
  have hf : Mf (w.drew.setRow M #[.pointer none, .int .i64 0, .int .i64 0, .int .i64 0, .bool false, .int .i64 0, .int .i64 0, .pointer none, .pointer none, .pointer none, .pointer none, .slice none 0 0, .int .i64 0, .int .i64 (er : Int), .bool true]) M [] 0 er :=
    ⟨_, setRow_heap w.drew M _ _ 68 _ Hobj.out, ⟨0, World.ownsRow_nil _ _ _ _⟩, fun g hg => by cases hg⟩
  refine ⟨rfl, .panicking ({ v := .iface 24 (.int .i64 (er : Int)), recovered := true } :: older), by cases c₀; rfl, .tuple #[], by simp [results, Tryd.results37], rfl, rfl, hf, fr⟩

theorem catch_idle (P : Addr) (w : World) :
    CallsD Tryd.prog 37 #[.pointer (some P)] .returning w fun e u' w' => e = .returned (.tuple #[]) ∧ u' = .returning ∧ w' = w := by
  refine callsD_of_wpS Tryd.func37 rfl fun c₀ cs hu => ?_
  apply wpS_seq
  apply wpS_region
  simp [wpOpsS, go_sem, recoverD, hu, Tryd.ntmps37, Exit.thenS]
  apply wpS_seq
  apply wpS_region
  simp [wpOpsS, go_sem, Exit.thenS]
  refine wpS_cond (t := false) (by simp [Act.eval, Array.replicate]) ?_
  simp only [Bool.false_eq_true, if_false]
  refine wpS_of_wp (wp_skip ?_)
  cases c₀
  simp_all [bodyPostS, results, Tryd.results37]
end Go.Proofs.YtleeaofofofgmaaDoor
