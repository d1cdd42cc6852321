/-
  lzw: the writer takes a value.
-/
import Derived.Test.YtdbgolklgiadeaaYi
namespace Go.Proofs.Ytdbgolklgiadeaa
open Go.RowKit

set_option maxHeartbeats 800000 in
set_option maxRecDepth 100000 in
/-- The first value. -/
theorem take_0 (lo A mb k n : Nat) (first : Bool) (F : Nat → Nat → Option Nat) (mn v p : Nat) (x : Nat) (w : World) (h : Wk w lo A mb k n first (-1) F mn v p) (hx : x < 256) :
    Calls Try.prog 36 #[.pointer (some ⟨A, 0, none⟩), .int .u8 (x : Int)] w fun e w' => e = .returned (.tuple #[]) ∧ Wk w' lo A mb k n first (x : Int) F mn v p ∧ Fr (fun j => lo ≤ j) w w' := by
  obtain ⟨_, _, _, _, _, _, m6, hfz⟩ := h.cell
  have f6 := hfz 6
  have H := hide h
  have q1 : IntKind.i64.wrap (x : Int) = (x : Int) := wrap_i64_id _ (by omega) (by omega)
  clear h hfz
  go_enter Try.func36, Try.ntmps36
  go_wp2
  refine bodyPost_ret (results_none rfl _ _ _) rfl ?_
  exact ⟨rfl, H.out.setRow x, (Fr.of_setCell w ⟨A, 6, none⟩ _).mono fun j _ e => by rw [e]; exact H.out.hA⟩

/-- What the writer's map says at a key, as its look-up answers. -/
theorem Mp.lookAll {w : World} {b n : Nat} {F : Nat → Nat → Option Nat} (h : Mp w b n F) {r v : Nat} (hr : r < 5000) (hv : v < 256) : ∃ x : Int, (∀ W, Fr (fun _ => False) w W → (Instr.lookup 86 (.map (some b)) (.agg #[.int .i64 (r : Int), .int .u8 (v : Int)]) true).run Try.prog W = .ok (.tuple #[.int .i64 x, .bool (F r v).isSome]) W) ∧ ∀ c, F r v = some c → x = (c : Int) := by
  obtain ⟨D, h1, h2⟩ := h.it
  have key : ∀ W, W.ownsMap Try.prog 90 (plainElem Try.prog 3) b n D → ∃ c : Int, (Instr.lookup 86 (.map (some b)) (kv r v) true).run Try.prog W = .ok (.tuple #[.int .i64 c, .bool (Maps.has D (.string (keyBytes [.int .i64 (r : Int), .int .u8 (v : Int)])))]) W ∧ D.atKey (.string (keyBytes [.int .i64 (r : Int), .int .u8 (v : Int)])) (.lit (.int .i64 0)) = .lit (.int .i64 c) := by
    intro W hW
    obtain ⟨x, ps, e1, e2⟩ := hW.look_ok Try.keyed Try.underlying86 (Try.zero3 W) (zd := .lit (.int .i64 0)) (zp := []) (plainElem_int Try.underlying3 (WalkArith.wf_i64 (by omega))) (key_of r v hr hv)
    obtain ⟨c, rfl, hc, _⟩ := plainElem_int_inv Try.underlying3 e2
    simp only [Prod.mk.injEq] at hc
    exact ⟨c, e1, hc.1⟩
  obtain ⟨x, e1, e2⟩ := key w h1
  have hhas : Maps.has D (.string (keyBytes [.int .i64 (r : Int), .int .u8 (v : Int)])) = (F r v).isSome := by
    cases hF : F r v with
    | none => exact (h2 r v hr hv).1 hF
    | some c => exact ((h2 r v hr hv).2 c hF).1
  refine ⟨x, fun W f => ?_, fun c hc => ?_⟩
  · obtain ⟨es, clock, hb, rr⟩ := h1
    obtain ⟨x', e3, e4⟩ := key W ⟨es, clock, (f.block b h.lt (fun e => e)).trans hb, rr⟩
    rw [e2] at e4
    injection e4 with e4
    injection e4 with _ e4
    rw [← hhas, e4]
    exact e3
  · have := ((h2 r v hr hv).2 c hc).2
    rw [e2] at this
    injection this with this
    injection this with _ this

set_option maxHeartbeats 1600000 in
set_option maxRecDepth 100000 in
/-- A longer row is there. -/
theorem take_a (lo A mb k n : Nat) (first : Bool) (r : Nat) (F : Nat → Nat → Option Nat) (mn v p : Nat) (x c : Nat) (w : World) (h : Wk w lo A mb k n first (r : Int) F mn v p) (hr : r < 5000) (hx : x < 256) (hF : F r x = some c) :
    Calls Try.prog 36 #[.pointer (some ⟨A, 0, none⟩), .int .u8 (x : Int)] w fun e w' => e = .returned (.tuple #[]) ∧ Wk w' lo A mb k n first (c : Int) F mn v p ∧ Fr (fun j => lo ≤ j) w w' := by
  obtain ⟨_, _, _, _, m4, _, m6, hfz⟩ := h.cell
  have f6 := hfz 6
  have hr1 : ((r : Int) == -1) = false := by rw [beq_eq_false_iff_ne]; omega
  obtain ⟨y, hl, hy⟩ := h.mp.lookAll hr hx
  have hyc := hy c hF
  rw [hF, hyc] at hl
  simp only [Option.isSome_some] at hl
  obtain ⟨K, hK⟩ : ∃ K, K = w.heap.size := ⟨_, rfl⟩
  have H := hide h
  have HL := hide hl
  have HK := hide hK
  have FA : Hid (Fr (fun _ => False) w (w.alloc (.cells #[.int .i64 (r : Int), .int .u8 (x : Int)] 90))) := Fr.of_alloc _ _
  have HKc : Hid ((w.alloc (.cells #[.int .i64 (r : Int), .int .u8 (x : Int)] 90)).heap[K]? = some (.cells #[.int .i64 (r : Int), .int .u8 (x : Int)] 90 (0, 0))) := heap_alloc_at hK
  have HH := hide (h.fr FA.out)
  obtain ⟨w1, hw1⟩ : ∃ w1, w1 = w.alloc (.cells #[.int .i64 (r : Int), .int .u8 (x : Int)] 90) := ⟨_, rfl⟩
  rw [← hw1] at FA HKc HH
  have Hw1 := hide hw1
  clear h hl hy hK hfz hw1
  go_enter Try.func36, Try.ntmps36
  go_upto_region 3 with fail
  rw [← HK.out, ← Hw1.out]
  have HFz : Hid (Fr (fun _ => False) w w1.drew) := FA.out.join (Fr.of_drewN w1 1)
  have s4 : w1.cell? ⟨A, 4, none⟩ = some (.map (some mb)) := HH.out.cell.2.2.2.2.1
  have k0 : w1.cell? ⟨K, 0, none⟩ = some (.int .i64 (r : Int)) := cell_of HKc.out rfl
  have k1 : w1.cell? ⟨K, 1, none⟩ = some (.int .u8 (x : Int)) := cell_of HKc.out rfl
  have hl1 := HL.out w1.drew HFz.out
  refine wp_region_held_drew (S := fun W' => W'.cell? ⟨A, 4, none⟩ = some (.map (some mb)) ∧ W'.cell? ⟨K, 0, none⟩ = some (.int .i64 (r : Int)) ∧ W'.cell? ⟨K, 1, none⟩ = some (.int .u8 (x : Int)) ∧ (Instr.lookup 86 (.map (some mb)) (.agg #[.int .i64 (r : Int), .int .u8 (x : Int)]) true).run Try.prog W' = .ok (.tuple #[.int .i64 (c : Int), .bool true]) W') (by kernel_rfl) ⟨s4, k0, k1, hl1⟩ (fun hHeld => ?_)
  refine wpAnyH_take (i := 0) (v := ?v0) rfl (by kernel_rfl) (by kernel_rfl) (by kernel_rfl) (fun _ _ _ h => h) (Or.inl ⟨by rfl, ?hy0⟩) hHeld ?rest0
  case hy0 => (intro W hSw; (try dsimp only at hSw); obtain ⟨t4, u0, u1, tl⟩ := hSw; go_simp; all_goals (with_reducible rfl))
  change wpAnyH _ _ _ _ _ _ _ (Act.put _ (some 24) _) _
  simp only [Act.put, List.setIfInBounds_toArray, List.set_cons_zero, List.set_cons_succ]
  refine wpAnyH_take (i := 4) (v := ?v4) rfl (by kernel_rfl) (by kernel_rfl) (by kernel_rfl) (fun _ _ _ h => h) (Or.inl ⟨by rfl, ?hy4⟩) hHeld ?rest4
  case hy4 => (intro W hSw; (try dsimp only at hSw); obtain ⟨t4, u0, u1, tl⟩ := hSw; go_simp; all_goals (with_reducible rfl))
  change wpAnyH _ _ _ _ _ _ _ (Act.put _ (some 28) _) _
  simp only [Act.put, List.setIfInBounds_toArray, List.set_cons_zero, List.set_cons_succ]
  refine wpAnyH_take (i := 1) (v := ?v1) rfl (by kernel_rfl) (by kernel_rfl) (by kernel_rfl) (fun _ _ _ h => h) (Or.inl ⟨by rfl, ?hy1⟩) hHeld ?rest1
  case hy1 => (intro W hSw; (try dsimp only at hSw); obtain ⟨t4, u0, u1, tl⟩ := hSw; go_simp; all_goals (with_reducible rfl))
  change wpAnyH _ _ _ _ _ _ _ (Act.put _ (some 25) _) _
  simp only [Act.put, List.setIfInBounds_toArray, List.set_cons_zero, List.set_cons_succ]
  refine wpAnyH_take (i := 2) (v := ?v2) rfl (by kernel_rfl) (by kernel_rfl) (by kernel_rfl) (fun _ _ _ h => h) (Or.inl ⟨by rfl, ?hy2⟩) hHeld ?rest2
  case hy2 => (intro W hSw; (try dsimp only at hSw); obtain ⟨t4, u0, u1, tl⟩ := hSw; go_simp; all_goals (with_reducible rfl))
  change wpAnyH _ _ _ _ _ _ _ (Act.put _ (some 26) _) _
  simp only [Act.put, List.setIfInBounds_toArray, List.set_cons_zero, List.set_cons_succ]
  refine wpAnyH_take (i := 3) (v := ?v3) rfl (by kernel_rfl) (by kernel_rfl) (by kernel_rfl) (fun _ _ _ h => h) (Or.inl ⟨by rfl, ?hy3⟩) hHeld ?rest3
  case hy3 => (intro W hSw; (try dsimp only at hSw); obtain ⟨t4, u0, u1, tl⟩ := hSw; go_simp; all_goals (with_reducible rfl))
  change wpAnyH _ _ _ _ _ _ _ (Act.put _ (some 27) _) _
  simp only [Act.put, List.setIfInBounds_toArray, List.set_cons_zero, List.set_cons_succ]
  refine wpAnyH_take (i := 5) (v := ?v5) rfl (by kernel_rfl) (by kernel_rfl) (by kernel_rfl) (fun _ _ _ h => h) (Or.inl ⟨by rfl, ?hy5⟩) hHeld ?rest5
  case hy5 => (intro W hSw; (try dsimp only at hSw); obtain ⟨t4, u0, u1, tl⟩ := hSw; go_simp; all_goals (with_reducible rfl))
  change wpAnyH _ _ _ _ _ _ _ (Act.put _ (some 29) _) _
  simp only [Act.put, List.setIfInBounds_toArray, List.set_cons_zero, List.set_cons_succ]
  refine wpAnyH_take (i := 6) (v := ?v6) rfl (by kernel_rfl) (by kernel_rfl) (by kernel_rfl) (fun _ _ _ h => h) (Or.inl ⟨by rfl, ?hy6⟩) hHeld ?rest6
  case hy6 => (intro W hSw; (try dsimp only at hSw); obtain ⟨t4, u0, u1, tl⟩ := hSw; go_simp; all_goals (with_reducible rfl))
  change wpAnyH _ _ _ _ _ _ _ (Act.put _ (some 23) _) _
  simp only [Act.put, List.setIfInBounds_toArray, List.set_cons_zero, List.set_cons_succ]
  refine wpAnyH_take (i := 7) (v := ?v7) rfl (by kernel_rfl) (by kernel_rfl) (by kernel_rfl) (fun _ _ _ h => h) (Or.inl ⟨by rfl, ?hy7⟩) hHeld ?rest7
  case hy7 => (intro W hSw; (try dsimp only at hSw); obtain ⟨t4, u0, u1, tl⟩ := hSw; go_simp; all_goals (with_reducible rfl))
  change wpAnyH _ _ _ _ _ _ _ (Act.put _ (some 30) _) _
  simp only [Act.put, List.setIfInBounds_toArray, List.set_cons_zero, List.set_cons_succ]
  refine wpAnyH_take (i := 8) (v := ?v8) rfl (by kernel_rfl) (by kernel_rfl) (by kernel_rfl) (fun _ _ _ h => h) (Or.inl ⟨by rfl, ?hy8⟩) hHeld ?rest8
  case hy8 => (intro W hSw; (try dsimp only at hSw); obtain ⟨t4, u0, u1, tl⟩ := hSw; go_simp; all_goals (with_reducible rfl))
  change wpAnyH _ _ _ _ _ _ _ (Act.put _ (some 31) _) _
  simp only [Act.put, List.setIfInBounds_toArray, List.set_cons_zero, List.set_cons_succ]
  refine wpAnyH_take (i := 9) (v := ?v9) rfl (by kernel_rfl) (by kernel_rfl) (by kernel_rfl) (fun _ _ _ h => h) (Or.inl ⟨by rfl, ?hy9⟩) hHeld ?rest9
  case hy9 => (intro W hSw; (try dsimp only at hSw); obtain ⟨t4, u0, u1, tl⟩ := hSw; go_simp; all_goals (with_reducible rfl))
  change wpAnyH _ _ _ _ _ _ _ (Act.put _ (some 5) _) _
  simp only [Act.put, List.setIfInBounds_toArray, List.set_cons_zero, List.set_cons_succ]
  refine wpAnyH_take (i := 10) (v := ?v10) rfl (by kernel_rfl) (by kernel_rfl) (by kernel_rfl) (fun _ _ _ h => h) (Or.inl ⟨by rfl, ?hy10⟩) hHeld ?rest10
  case hy10 => (intro W hSw; (try dsimp only at hSw); obtain ⟨t4, u0, u1, tl⟩ := hSw; go_simp; all_goals (with_reducible rfl))
  change wpAnyH _ _ _ _ _ _ _ (Act.put _ (some 6) _) _
  simp only [Act.put, List.setIfInBounds_toArray, List.set_cons_zero, List.set_cons_succ]
  refine wpAnyH_done (by kernel_rfl) ?_ _
  clear hHeld s4 k0 k1 hl1
  have HH2 := hide (HH.out.fr (Fr.of_drewN w1 1))
  have HF2 := hide (HFz.out.mono (S' := fun j => lo ≤ j) fun _ _ e => e.elim)
  obtain ⟨w2, hw2⟩ : ∃ w2, w2 = w1.drew := ⟨_, rfl⟩
  have hw2b : w1.drewN 1 = w2 := by rw [hw2]; rfl
  rw [hw2b] at HH2
  rw [← hw2] at HF2 ⊢
  obtain ⟨_, _, _, _, _, _, q6, qfz⟩ := HH2.out.cell
  have g6 := qfz 6
  clear qfz hw2 hw2b m4 m6 f6 HKc FA HFz
  go_wp2_with fail
  refine bodyPost_ret (results_none rfl _ _ _) rfl ?_
  exact ⟨rfl, HH2.out.setRow c, HF2.out.join ((Fr.of_setCell w2 ⟨A, 6, none⟩ _).mono fun j _ e => by rw [e]; exact HH2.out.hA)⟩
end Go.Proofs.Ytdbgolklgiadeaa
