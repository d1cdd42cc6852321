/-
  lzw: a Clear is put; a writer is made.
-/
import Derived.Test.YtdbgolklgiadeaaYh
namespace Go.Proofs.Ytdbgolklgiadeaa
open Go.RowKit

theorem Mp.clearAll {w : World} {b n : Nat} {F : Nat → Nat → Option Nat} (h : Mp w b n F) : ∃ w', (∀ ty, (Builtin.clear_ #[86] ty #[.map (some b)]).run Try.prog w = .ok (.tuple #[]) w') ∧ Mp w' b 0 (fun _ _ => none) ∧ Fr (fun j => j = b) w w' := by
  obtain ⟨w', h1, h2, h3⟩ := h.clear 0
  refine ⟨w', fun ty => ?_, h2, h3⟩
  rw [← h1]
  rfl

theorem Wk.setMap {w w' : World} {lo A mb k n : Nat} {first : Bool} {row : Int} {F G : Nat → Nat → Option Nat} {mn mm v p : Nat} (h : Wk w lo A mb k n first row F mn v p) (hm : Mp w' mb mm G) (f : Fr (fun j => j = mb) w w') : Wk w' lo A mb k n first row G mm v p := by
  obtain ⟨cs, g, os, h1, h2, h3, h4, h5⟩ := h.it
  exact ⟨⟨cs, g, os, h1.keep f (fun e => h.ap e.symm) (fun j e e2 => (h5 j e).2 e2), h2, h3, h4, h5⟩, hm, h.hA, h.hm, h.ap⟩

set_option maxHeartbeats 1600000 in
set_option maxRecDepth 100000 in
/-- A Clear is written. -/
theorem putClear_c (lo A mb k n : Nat) (first : Bool) (row : Int) (F : Nat → Nat → Option Nat) (mn v p : Nat) (w : World) (hk : 2 ≤ k ∧ k ≤ 8) (h : Wk w lo A mb k n first row F mn v p) (hp : p ≤ 2147480000) (hlo : lo ≤ w.heap.size) :
    Calls Try.prog 45 #[.pointer (some ⟨A, 0, none⟩)] w fun e w' => e = .returned (.tuple #[]) ∧ Wk w' lo A mb k 0 true row (fun _ _ => none) 0 (v + 2 ^ k * 2 ^ p) (p + wid k n) ∧ Fr (fun j => lo ≤ j) w w' := by
  obtain ⟨_, m1, _, m3, _, _, _, _⟩ := h.cell
  have hw := wid_le k hk n
  have hlt : 2 ^ k < 2 ^ wid k n := Nat.pow_lt_pow_right (by omega) (by omega)
  obtain ⟨W, hW⟩ : ∃ W, W = wid k n := ⟨_, rfl⟩
  rw [← hW] at m3 hw hlt ⊢
  obtain ⟨P, hP⟩ : ∃ P, P = 2 ^ k := ⟨_, rfl⟩
  rw [← hP] at m1
  have HPut : Hid (∀ W', Fr (fun _ => False) w W' → Calls Try.prog 48 #[.pointer (some ⟨A, 7, none⟩), .int .i64 (P : Int), .int .i64 (W : Int)] W' fun e w' => e = .returned (.tuple #[]) ∧ Wk w' lo A mb k n first row F mn (v + 2 ^ k * 2 ^ p) (p + W) ∧ Fr (fun j => lo ≤ j) W' w') := fun W' F' => by
    rw [hP]
    exact ((h.fr F').put (2 ^ k) W hp (by omega) hlt (Nat.le_trans hlo F'.size)).mono fun e w'' ⟨a, b, c⟩ => ⟨a, b, Sk.low c⟩
  have hA := hide h.hA
  have hM := hide h.hm
  have HP := hide hP
  have HW := hide hW
  clear h hW hP hlt
  go_enter Try.func45, Try.ntmps45
  go_upto_region 0 with fail
  have HFz : Hid (Fr (fun _ => False) w w.drew) := Fr.of_drewN w 1
  refine wp_region_held_drew (S := fun W' => W'.cell? ⟨A, 1, none⟩ = some (.int .i64 (P : Int)) ∧ W'.cell? ⟨A, 3, none⟩ = some (.int .i64 (W : Int))) (by kernel_rfl) ⟨m1, m3⟩ (fun hHeld => ?_)
  refine wpAnyH_take (i := 0) (v := ?v0) rfl (by kernel_rfl) (by kernel_rfl) (by kernel_rfl) (fun _ _ _ h => h) (Or.inl ⟨by rfl, ?hy0⟩) hHeld ?rest0
  case hy0 => (intro W hSw; (try dsimp only at hSw); obtain ⟨s1, s3⟩ := hSw; go_simp; all_goals (with_reducible rfl))
  change wpAnyH _ _ _ _ _ _ _ (Act.put _ (some 2) _) _
  simp only [Act.put, List.setIfInBounds_toArray, List.set_cons_zero, List.set_cons_succ]
  refine wpAnyH_take (i := 3) (v := ?v3) rfl (by kernel_rfl) (by kernel_rfl) (by kernel_rfl) (fun _ _ _ h => h) (Or.inl ⟨by rfl, ?hy3⟩) hHeld ?rest3
  case hy3 => (intro W hSw; (try dsimp only at hSw); obtain ⟨s1, s3⟩ := hSw; go_simp; all_goals (with_reducible rfl))
  change wpAnyH _ _ _ _ _ _ _ (Act.put _ (some 5) _) _
  simp only [Act.put, List.setIfInBounds_toArray, List.set_cons_zero, List.set_cons_succ]
  refine wpAnyH_take (i := 8) (v := ?v8) rfl (by kernel_rfl) (by kernel_rfl) (by kernel_rfl) (fun _ _ _ h => h) (Or.inl ⟨by rfl, ?hy8⟩) hHeld ?rest8
  case hy8 => (intro W hSw; (try dsimp only at hSw); obtain ⟨s1, s3⟩ := hSw; go_simp; all_goals (with_reducible rfl))
  change wpAnyH _ _ _ _ _ _ _ (Act.put _ (some 10) _) _
  simp only [Act.put, List.setIfInBounds_toArray, List.set_cons_zero, List.set_cons_succ]
  refine wpAnyH_take (i := 1) (v := ?v1) rfl (by kernel_rfl) (by kernel_rfl) (by kernel_rfl) (fun _ _ _ h => h) (Or.inl ⟨by rfl, ?hy1⟩) hHeld ?rest1
  case hy1 => (intro W hSw; (try dsimp only at hSw); obtain ⟨s1, s3⟩ := hSw; go_simp; all_goals (with_reducible rfl))
  change wpAnyH _ _ _ _ _ _ _ (Act.put _ (some 3) _) _
  simp only [Act.put, List.setIfInBounds_toArray, List.set_cons_zero, List.set_cons_succ]
  refine wpAnyH_take (i := 4) (v := ?v4) rfl (by kernel_rfl) (by kernel_rfl) (by kernel_rfl) (fun _ _ _ h => h) (Or.inl ⟨by rfl, ?hy4⟩) hHeld ?rest4
  case hy4 => (intro W hSw; (try dsimp only at hSw); obtain ⟨s1, s3⟩ := hSw; go_simp; all_goals (with_reducible rfl))
  change wpAnyH _ _ _ _ _ _ _ (Act.put _ (some 6) _) _
  simp only [Act.put, List.setIfInBounds_toArray, List.set_cons_zero, List.set_cons_succ]
  refine wpAnyH_take (i := 9) (v := ?v9) rfl (by kernel_rfl) (by kernel_rfl) (by kernel_rfl) (fun _ _ _ h => h) (Or.inl ⟨by rfl, ?hy9⟩) hHeld ?rest9
  case hy9 => (intro W hSw; (try dsimp only at hSw); obtain ⟨s1, s3⟩ := hSw; go_simp; all_goals (with_reducible rfl))
  change wpAnyH _ _ _ _ _ _ _ (Act.put _ (some 11) _) _
  simp only [Act.put, List.setIfInBounds_toArray, List.set_cons_zero, List.set_cons_succ]
  refine wpAnyH_take (i := 2) (v := ?v2) rfl (by kernel_rfl) (by kernel_rfl) (by kernel_rfl) (fun _ _ _ h => h) (Or.inl ⟨by rfl, ?hy2⟩) hHeld ?rest2
  case hy2 => (intro W hSw; (try dsimp only at hSw); obtain ⟨s1, s3⟩ := hSw; go_simp; all_goals (with_reducible rfl))
  change wpAnyH _ _ _ _ _ _ _ (Act.put _ (some 4) _) _
  simp only [Act.put, List.setIfInBounds_toArray, List.set_cons_zero, List.set_cons_succ]
  refine wpAnyH_take (i := 5) (v := ?v5) rfl (by kernel_rfl) (by kernel_rfl) (by kernel_rfl) (fun _ _ _ h => h) (Or.inl ⟨by rfl, ?hy5⟩) hHeld ?rest5
  case hy5 => (intro W hSw; (try dsimp only at hSw); obtain ⟨s1, s3⟩ := hSw; go_simp; all_goals (with_reducible rfl))
  change wpAnyH _ _ _ _ _ _ _ (Act.put _ (some 7) _) _
  simp only [Act.put, List.setIfInBounds_toArray, List.set_cons_zero, List.set_cons_succ]
  refine wpAnyH_take (i := 10) (v := ?v10) rfl (by kernel_rfl) (by kernel_rfl) (by kernel_rfl) (fun _ _ _ h => h) (Or.inl ⟨by rfl, ?hy10⟩) hHeld ?rest10
  case hy10 => (intro W hSw; (try dsimp only at hSw); obtain ⟨s1, s3⟩ := hSw; go_simp; all_goals (with_reducible rfl))
  change wpAnyH _ _ _ _ _ _ _ (Act.put _ (some 12) _) _
  simp only [Act.put, List.setIfInBounds_toArray, List.set_cons_zero, List.set_cons_succ]
  refine wpAnyH_take (i := 6) (v := ?v6) rfl (by kernel_rfl) (by kernel_rfl) (by kernel_rfl) (fun _ _ _ h => h) (Or.inl ⟨by rfl, ?hy6⟩) hHeld ?rest6
  case hy6 => (intro W hSw; (try dsimp only at hSw); obtain ⟨s1, s3⟩ := hSw; go_simp; all_goals (with_reducible rfl))
  change wpAnyH _ _ _ _ _ _ _ (Act.put _ (some 8) _) _
  simp only [Act.put, List.setIfInBounds_toArray, List.set_cons_zero, List.set_cons_succ]
  refine wpAnyH_take (i := 11) (v := ?v11) rfl (by kernel_rfl) (by kernel_rfl) (by kernel_rfl) (fun _ _ _ h => h) (Or.inl ⟨by rfl, ?hy11⟩) hHeld ?rest11
  case hy11 => (intro W hSw; (try dsimp only at hSw); obtain ⟨s1, s3⟩ := hSw; go_simp; all_goals (with_reducible rfl))
  change wpAnyH _ _ _ _ _ _ _ (Act.put _ (some 13) _) _
  simp only [Act.put, List.setIfInBounds_toArray, List.set_cons_zero, List.set_cons_succ]
  refine wpAnyH_take (i := 7) (v := ?v7) rfl (by kernel_rfl) (by kernel_rfl) (by kernel_rfl) (fun _ _ _ h => h) (Or.inl ⟨by rfl, ?hy7⟩) hHeld ?rest7
  case hy7 => (intro W hSw; (try dsimp only at hSw); obtain ⟨s1, s3⟩ := hSw; go_simp; all_goals (with_reducible rfl))
  change wpAnyH _ _ _ _ _ _ _ (Act.put _ (some 9) _) _
  simp only [Act.put, List.setIfInBounds_toArray, List.set_cons_zero, List.set_cons_succ]
  refine wpAnyH_take (i := 12) (v := ?v12) rfl (by kernel_rfl) (by kernel_rfl) (by kernel_rfl) (fun _ _ _ h => h) (Or.inl ⟨by rfl, ?hy12⟩) hHeld ?rest12
  case hy12 => (intro W hSw; (try dsimp only at hSw); obtain ⟨s1, s3⟩ := hSw; go_simp; all_goals (with_reducible rfl))
  change wpAnyH _ _ _ _ _ _ _ (Act.put _ (some 14) _) _
  simp only [Act.put, List.setIfInBounds_toArray, List.set_cons_zero, List.set_cons_succ]
  refine wpAnyH_ready (rs := [13]) (by kernel_rfl) (by simp) ?_
  refine AllReadyH.cons rfl (fun K hK => ?_) AllReadyH.nil
  try simp only [List.getElem_toArray, List.getElem_cons_succ, List.getElem_cons_zero]
  go_simp
  refine (HPut.out _ HFz.out).mono ?_
  rintro e w1 ⟨rfl, hk1, hF1⟩
  have hS1 : w1.cell? ⟨A, 1, none⟩ = some (.int .i64 (P : Int)) ∧ w1.cell? ⟨A, 3, none⟩ = some (.int .i64 (W : Int)) := ⟨by rw [HP.out]; exact hk1.cell.2.1, by rw [HW.out]; exact hk1.cell.2.2.2.1⟩
  have HK1 := hide hk1
  have HF1 := hide (show Fr (fun j => lo ≤ j) w w1 from (HFz.out.mono fun _ _ e => e.elim).join hF1)
  clear hk1 hF1
  refine hK.out _ _ hS1 (fun hHeld => ?_)
  clear hK K
  refine wpAnyH_done (by kernel_rfl) ?_ _
  clear hHeld m1 m3 hS1
  obtain ⟨m0, _⟩ := HK1.out.cell
  obtain ⟨X, hX⟩ : ∃ X, X = 2 ^ k := ⟨_, rfl⟩
  obtain ⟨Y, hY⟩ : ∃ Y, Y = nextN k 0 := ⟨_, rfl⟩
  obtain ⟨Z, hZ⟩ : ∃ Z, Z = wid k 0 := ⟨_, rfl⟩
  have Hn := hide (newNumbers_c k hk w1)
  unfold numC at Hn
  rw [← hX, ← hY, ← hZ] at Hn
  have HX := hide hX
  have HY := hide hY
  have HZ := hide hZ
  clear hX hY hZ
  go_wp2_with fail
  refine Hn.out.mono ?_
  rintro e w2 ⟨rfl, hF2⟩
  have hK2 := HK1.out.fr hF2
  have HF2 := hide (HF1.out.join (hF2.mono fun _ _ e => e.elim))
  obtain ⟨_, m1, m2, m3, m4, _, _, hfz⟩ := hK2.cell
  have f1 := hfz 1
  have f2 := hfz 2
  have f3 := hfz 3
  obtain ⟨v1, hv1⟩ : ∃ v1, v1 = Value.int .i64 ((2 ^ k : Nat) : Int) := ⟨_, rfl⟩
  obtain ⟨v2, hv2⟩ : ∃ v1, v1 = Value.int .i64 ((nextN k n : Nat) : Int) := ⟨_, rfl⟩
  obtain ⟨v3, hv3⟩ : ∃ v1, v1 = Value.int .i64 ((wid k n : Nat) : Int) := ⟨_, rfl⟩
  rw [← hv1] at m1
  rw [← hv2] at m2
  rw [← hv3] at m3
  have HK2 := hide hK2
  clear hF2 hfz hv1 hv2 hv3 hK2 m0
  go_upto_region 2 with fail
  obtain ⟨w3, hw3⟩ : ∃ w3, w3 = ((w2.setCell ⟨A, 1, none⟩ (.int .i64 (X : Int))).setCell ⟨A, 2, none⟩ (.int .i64 (Y : Int))).setCell ⟨A, 3, none⟩ (.int .i64 (Z : Int)) := ⟨_, rfl⟩
  rw [← hw3]
  have hK3 : Wk w3 lo A mb k 0 first row F mn (v + 2 ^ k * 2 ^ p) (p + W) := by
    rw [hw3, HX.out, HY.out, HZ.out]
    exact HK2.out.setAgain
  have hF3 : Fr (fun j => lo ≤ j) w w3 := by
    rw [hw3]
    exact HF2.out.join ((((Fr.of_setCell w2 ⟨A, 1, none⟩ _).join (Fr.of_setCell _ ⟨A, 2, none⟩ _)).join (Fr.of_setCell _ ⟨A, 3, none⟩ _)).mono fun j _ e => by rw [e]; exact hA.out)
  obtain ⟨w4, hrun, hmp4, hF4⟩ := hK3.mp.clearAll
  have hK4 := hK3.setMap hmp4 hF4
  obtain ⟨_, _, _, _, q4, _, _, _⟩ := hK3.cell
  obtain ⟨_, _, _, _, _, m5, _, hfz⟩ := hK4.cell
  have f5 := hfz 5
  have HK4 := hide hK4
  have HF4 := hide (hF3.join (hF4.mono fun j _ e => by rw [e]; exact hM.out))
  clear hw3 hK3 hF3 hmp4 hF4 hK4 hfz m1 m2 m3 m4 f1 f2 f3
  go_wp2_with fail
  go_end0
  exact ⟨rfl, HK4.out.setFirst true, HF4.out.join ((Fr.of_setCell w4 ⟨A, 5, none⟩ (.bool true)).mono fun j _ e => by rw [e]; exact hA.out)⟩

set_option maxHeartbeats 1600000 in
set_option maxRecDepth 100000 in
/-- A writer is made. -/
theorem newWriter_c (k : Nat) (w : World) (hk : 2 ≤ k ∧ k ≤ 8) :
    Calls Try.prog 35 #[.int .i64 (k : Int)] w fun e w' => ∃ A mb, e = .returned (.pointer (some ⟨A, 0, none⟩)) ∧ Wk w' w.heap.size A mb k 0 true (-1) (fun _ _ => none) 0 (0 + 2 ^ k * 2 ^ 0) (0 + wid k 0) ∧ Fr (fun _ => False) w w' := by
  have hmm := @run_makeMap Try.prog
  obtain ⟨X, hX⟩ : ∃ X, X = 2 ^ k := ⟨_, rfl⟩
  obtain ⟨Y, hY⟩ : ∃ Y, Y = nextN k 0 := ⟨_, rfl⟩
  obtain ⟨Z, hZ⟩ : ∃ Z, Z = wid k 0 := ⟨_, rfl⟩
  have Hn := hide (newNumbers_c k hk w)
  unfold numC at Hn
  rw [← hX, ← hY, ← hZ] at Hn
  have HX := hide hX
  have HY := hide hY
  have HZ := hide hZ
  clear hX hY hZ
  go_enter Try.func35, Try.ntmps35
  go_wp2_with fail
  refine Hn.out.mono ?_
  rintro e w1 ⟨rfl, hF1⟩
  have HF1 := hide hF1
  clear hF1
  go_upto_region 2 with fail
  obtain ⟨mb, hmb⟩ : ∃ mb, mb = w1.heap.size := ⟨_, rfl⟩
  obtain ⟨A, hA⟩ : ∃ A, A = w1.heap.size + 1 := ⟨_, rfl⟩
  rw [← hA, ← hmb]
  have hobj : ∀ cs, ((w1.alloc (.map #[] 0)).alloc (.cells cs 88)).heap[A]? = some (.cells cs 88 (0, 0)) := fun cs => heap_alloc_at (by rw [hA]; simp)
  have hmap : ∀ o, Mp ((w1.alloc (.map #[] 0)).alloc o) mb 0 (fun _ _ => none) := fun o => by rw [hmb]; exact (Mp.made w1).fr (Fr.of_alloc _ _) (fun e => e)
  have hfr : ∀ o, Fr (fun _ => False) w ((w1.alloc (.map #[] 0)).alloc o) := fun o => (HF1.out.join (Fr.of_alloc _ _)).join (Fr.of_alloc _ _)
  have hw1 := HF1.out.size
  have Hobj := hide hobj
  have Hmap := hide hmap
  have Hfr := hide hfr
  have Hb := hide (show w.heap.size ≤ A ∧ w.heap.size ≤ mb ∧ mb ≠ A from ⟨by omega, by omega, by omega⟩)
  clear hobj hmap hfr hmb hA
  obtain ⟨cs, hcs⟩ : ∃ cs : Array Value, cs = #[.int .i64 (k : Int), .int .i64 (X : Int), .int .i64 (Y : Int), .int .i64 (Z : Int), .map (some mb), .bool false, .int .i64 (-1), .slice none 0 0, .int .i64 0, .slice none 0 0, .int .i64 0] := ⟨_, rfl⟩
  rw [← hcs]
  have hwc : WC cs k 0 mb false (-1) := by
    rw [hcs, HX.out, HY.out, HZ.out]
    exact ⟨rfl, rfl, rfl, rfl, rfl, rfl, rfl, rfl⟩
  obtain ⟨w2, hw2⟩ : ∃ w2, w2 = (w1.alloc (.map #[] 0)).alloc (.cells cs 88) := ⟨_, rfl⟩
  rw [← hw2]
  have hk2 : Wk w2 w.heap.size A mb k 0 false (-1) (fun _ _ => none) 0 0 0 := by
    rw [hw2]
    refine ⟨⟨cs, none, [], ⟨⟨.slice none 0 0, Hobj.out cs, by rw [hcs]; rfl, by rw [hcs]; rfl, World.ownsRow_nil _ _ _ _, rfl⟩, fun j e => by cases e⟩, ⟨rfl, fun b hb => (by cases hb), by simp [leNum]⟩, by simp [leNum], hwc, fun j e => by cases e⟩, Hmap.out _, Hb.out.1, Hb.out.2.1, Hb.out.2.2⟩
  have hf2 : Fr (fun _ => False) w w2 := by rw [hw2]; exact Hfr.out _
  have HC := hide (putClear_c w.heap.size A mb k 0 false (-1) (fun _ _ => none) 0 0 0 w2 hk hk2 (by omega) hf2.size)
  have HF2 := hide hf2
  clear hcs hwc hw2 hk2 hf2
  go_wp2_with fail
  refine HC.out.mono ?_
  rintro e w3 ⟨rfl, hk3, hF3⟩
  have HK3 := hide hk3
  have HF3 := hide ((HF2.out.trans hF3).mono fun j hj e => e.elim id fun e => by omega)
  clear hk3 hF3
  go_wp2_with fail
  go_ret
  exact ⟨A, mb, rfl, HK3.out, HF3.out⟩
end Go.Proofs.Ytdbgolklgiadeaa
