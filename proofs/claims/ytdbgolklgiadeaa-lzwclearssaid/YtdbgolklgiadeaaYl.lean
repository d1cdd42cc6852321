/-
  lzw: the writer's end; values that fit.
-/
import Derived.Test.YtdbgolklgiadeaaYk
namespace Go.Proofs.Ytdbgolklgiadeaa
open Go.RowKit

set_option maxRecDepth 100000 in
theorem low_outO (B o : Nat) (ov : Value) (os : List Nat) (w : World) (h : w.cell? ⟨B, o + 2, none⟩ = some ov) (hl : Lies w ov os) (hlen : os.length ≤ 2147483648) :
    Calls Try.prog 50 #[.pointer (some ⟨B, o, none⟩)] w fun e w' => ∃ a c, e = .returned (.slice a os.length c) ∧ OwnB w' w.heap.size (.slice a os.length c) os ∧ Fr (fun _ => False) w w' := by
  have Hc := hide (clone_c ov os w hl hlen)
  clear hl
  go_enter Try.func50, Try.ntmps50
  go_wp2_with fail
  refine Hc.out.mono ?_
  rintro e w1 ⟨a, c, rfl, ho, hb⟩
  have HO := hide ho
  have HF := hide ((Fr.of_below hb).mono (S' := fun _ => False) fun j hj e => by omega)
  clear ho hb
  go_wp2_with fail
  go_ret
  exact ⟨a, c, rfl, HO.out, HF.out⟩

/-- What the writer hands out. -/
structure Wend (w : World) (lo v p : Nat) (e : Ending) (w' : World) : Prop where
  it : ∃ Z a c, e = .returned (.slice a Z.length c) ∧ OwnB w' w.heap.size (.slice a Z.length c) Z ∧ LowSt Z p ∧ leNum Z = v ∧ Fr (fun j => lo ≤ j) w w'

/-- A writer's bits are handed out. -/
theorem Wk.out {w : World} {lo A mb k n : Nat} {first : Bool} {row : Int} {F : Nat → Nat → Option Nat} {mn v p : Nat} (h : Wk w lo A mb k n first row F mn v p) (hp : p ≤ 2147480000) :
    Calls Try.prog 50 #[.pointer (some ⟨A, 7, none⟩)] w fun e w' => ∃ Z a c, e = .returned (.slice a Z.length c) ∧ OwnB w' w.heap.size (.slice a Z.length c) Z ∧ LowSt Z p ∧ leNum Z = v ∧ Fr (fun _ => False) w w' := by
  obtain ⟨cs, g, os, h1, h2, h3, h4, h5⟩ := h.it
  obtain ⟨ov, e1, e2, e3, e4, e5⟩ := h1.eobj
  refine (low_outO A 7 ov os w (cell_of e1 e2) (lies_own e4) (by rw [h2.len]; omega)).mono ?_
  rintro e w' ⟨a, c, rfl, ho, hf⟩
  exact ⟨os, a, c, rfl, ho, h2, h3, hf⟩

set_option maxHeartbeats 3200000 in
set_option maxRecDepth 100000 in
/-- The end, behind no row. -/
theorem end_0 (lo A mb k n : Nat) (first : Bool) (F : Nat → Nat → Option Nat) (mn v p : Nat) (w : World) (hk : 2 ≤ k ∧ k ≤ 8) (h : Wk w lo A mb k n first (-1) F mn v p) (hp : p ≤ 2147400000) (hlo : lo ≤ w.heap.size) :
    Calls Try.prog 37 #[.pointer (some ⟨A, 0, none⟩)] w (Wend w lo (v + (2 ^ k + 1) * 2 ^ p) (p + wid k n)) := by
  obtain ⟨_, _, _, m3, _, _, m6, _⟩ := h.cell
  have hw := wid_le k hk n
  have hlt : 2 ^ k + 1 < 2 ^ wid k n := by
    have h1 : 2 ^ (k + 1) ≤ 2 ^ wid k n := Nat.pow_le_pow_right (by omega) hw.1
    have h2 : 2 ^ 2 ≤ 2 ^ k := Nat.pow_le_pow_right (by omega) hk.1
    rw [Nat.pow_succ] at h1
    omega
  obtain ⟨W, hW⟩ : ∃ W, W = wid k n := ⟨_, rfl⟩
  rw [← hW] at m3 hw hlt ⊢
  obtain ⟨P, hP⟩ : ∃ P, P = 2 ^ k + 1 := ⟨_, rfl⟩
  have HEnd : Hid (∀ W', Fr (fun _ => False) w W' → Calls Try.prog 49 #[.pointer (some ⟨A, 1, none⟩)] W' fun e w' => e = .returned (.int .i64 (P : Int)) ∧ W' = w') := fun W' F' => by rw [hP]; exact end_c A 1 k n W' (by omega) (h.fr F').num
  have HPut : Hid (∀ W', Fr (fun _ => False) w W' → Calls Try.prog 48 #[.pointer (some ⟨A, 7, none⟩), .int .i64 (P : Int), .int .i64 (W : Int)] W' fun e w' => e = .returned (.tuple #[]) ∧ Wk w' lo A mb k n first (-1) F mn (v + (2 ^ k + 1) * 2 ^ p) (p + W) ∧ Fr (fun j => lo ≤ j) W' w') := fun W' F' => by
    rw [hP]
    exact ((h.fr F').put (2 ^ k + 1) W (by omega) (by omega) hlt (Nat.le_trans hlo F'.size)).mono fun e w'' ⟨a, b, c⟩ => ⟨a, b, Sk.low c⟩
  have HW := hide hW
  clear h hW hP hlt
  go_enter Try.func37, Try.ntmps37
  go_upto_region 3 with fail
  have HFz : Hid (Fr (fun _ => False) w w.drew) := Fr.of_drewN w 1
  refine wp_region_held_drew (S := fun W' => W'.cell? ⟨A, 3, none⟩ = some (.int .i64 (W : Int))) (by kernel_rfl) m3 (fun hHeld => ?_)
  refine wpAnyH_take (i := 0) (v := ?v0) rfl (by kernel_rfl) (by kernel_rfl) (by kernel_rfl) (fun _ _ _ h => h) (Or.inl ⟨by rfl, ?hy0⟩) hHeld ?rest0
  case hy0 => (intro W hSw; (try dsimp only at hSw); skip; go_simp; all_goals (with_reducible rfl))
  change wpAnyH _ _ _ _ _ _ _ (Act.put _ (some 10) _) _
  simp only [Act.put, List.setIfInBounds_toArray, List.set_cons_zero, List.set_cons_succ]
  refine wpAnyH_take (i := 3) (v := ?v3) rfl (by kernel_rfl) (by kernel_rfl) (by kernel_rfl) (fun _ _ _ h => h) (Or.inl ⟨by rfl, ?hy3⟩) hHeld ?rest3
  case hy3 => (intro W hSw; (try dsimp only at hSw); skip; go_simp; all_goals (with_reducible rfl))
  change wpAnyH _ _ _ _ _ _ _ (Act.put _ (some 13) _) _
  simp only [Act.put, List.setIfInBounds_toArray, List.set_cons_zero, List.set_cons_succ]
  refine wpAnyH_take (i := 7) (v := ?v7) rfl (by kernel_rfl) (by kernel_rfl) (by kernel_rfl) (fun _ _ _ h => h) (Or.inl ⟨by rfl, ?hy7⟩) hHeld ?rest7
  case hy7 => (intro W hSw; (try dsimp only at hSw); skip; go_simp; all_goals (with_reducible rfl))
  change wpAnyH _ _ _ _ _ _ _ (Act.put _ (some 17) _) _
  simp only [Act.put, List.setIfInBounds_toArray, List.set_cons_zero, List.set_cons_succ]
  refine wpAnyH_take (i := 1) (v := ?v1) rfl (by kernel_rfl) (by kernel_rfl) (by kernel_rfl) (fun _ _ _ h => h) (Or.inl ⟨by rfl, ?hy1⟩) hHeld ?rest1
  case hy1 => (intro W hSw; (try dsimp only at hSw); skip; go_simp; all_goals (with_reducible rfl))
  change wpAnyH _ _ _ _ _ _ _ (Act.put _ (some 11) _) _
  simp only [Act.put, List.setIfInBounds_toArray, List.set_cons_zero, List.set_cons_succ]
  refine wpAnyH_take (i := 4) (v := ?v4) rfl (by kernel_rfl) (by kernel_rfl) (by kernel_rfl) (fun _ _ _ h => h) (Or.inl ⟨by rfl, ?hy4⟩) hHeld ?rest4
  case hy4 => (intro W hSw; (try dsimp only at hSw); skip; go_simp; all_goals (with_reducible rfl))
  change wpAnyH _ _ _ _ _ _ _ (Act.put _ (some 14) _) _
  simp only [Act.put, List.setIfInBounds_toArray, List.set_cons_zero, List.set_cons_succ]
  refine wpAnyH_take (i := 8) (v := ?v8) rfl (by kernel_rfl) (by kernel_rfl) (by kernel_rfl) (fun _ _ _ h => h) (Or.inl ⟨by rfl, ?hy8⟩) hHeld ?rest8
  case hy8 => (intro W hSw; (try dsimp only at hSw); skip; go_simp; all_goals (with_reducible rfl))
  change wpAnyH _ _ _ _ _ _ _ (Act.put _ (some 18) _) _
  simp only [Act.put, List.setIfInBounds_toArray, List.set_cons_zero, List.set_cons_succ]
  refine wpAnyH_take (i := 2) (v := ?v2) rfl (by kernel_rfl) (by kernel_rfl) (by kernel_rfl) (fun _ _ _ h => h) (Or.inl ⟨by rfl, ?hy2⟩) hHeld ?rest2
  case hy2 => (intro W hSw; (try dsimp only at hSw); skip; go_simp; all_goals (with_reducible rfl))
  change wpAnyH _ _ _ _ _ _ _ (Act.put _ (some 12) _) _
  simp only [Act.put, List.setIfInBounds_toArray, List.set_cons_zero, List.set_cons_succ]
  refine wpAnyH_take (i := 5) (v := ?v5) rfl (by kernel_rfl) (by kernel_rfl) (by kernel_rfl) (fun _ _ _ h => h) (Or.inl ⟨by rfl, ?hy5⟩) hHeld ?rest5
  case hy5 => (intro W hSw; (try dsimp only at hSw); skip; go_simp; all_goals (with_reducible rfl))
  change wpAnyH _ _ _ _ _ _ _ (Act.put _ (some 15) _) _
  simp only [Act.put, List.setIfInBounds_toArray, List.set_cons_zero, List.set_cons_succ]
  refine wpAnyH_take (i := 9) (v := ?v9) rfl (by kernel_rfl) (by kernel_rfl) (by kernel_rfl) (fun _ _ _ h => h) (Or.inl ⟨by rfl, ?hy9⟩) hHeld ?rest9
  case hy9 => (intro W hSw; (try dsimp only at hSw); skip; go_simp; all_goals (with_reducible rfl))
  change wpAnyH _ _ _ _ _ _ _ (Act.put _ (some 19) _) _
  simp only [Act.put, List.setIfInBounds_toArray, List.set_cons_zero, List.set_cons_succ]
  refine wpAnyH_take (i := 10) (v := ?v10) rfl (by kernel_rfl) (by kernel_rfl) (by kernel_rfl) (fun _ _ _ h => h) (Or.inl ⟨by rfl, ?hy10⟩) hHeld ?rest10
  case hy10 => (intro W hSw; (try dsimp only at hSw); skip; go_simp; all_goals (with_reducible rfl))
  change wpAnyH _ _ _ _ _ _ _ (Act.put _ (some 20) _) _
  simp only [Act.put, List.setIfInBounds_toArray, List.set_cons_zero, List.set_cons_succ]
  refine wpAnyH_take (i := 11) (v := ?v11) rfl (by kernel_rfl) (by kernel_rfl) (by kernel_rfl) (fun _ _ _ h => h) (Or.inl ⟨by rfl, ?hy11⟩) hHeld ?rest11
  case hy11 => (intro W hSw; (try dsimp only at hSw); skip; go_simp; all_goals (with_reducible rfl))
  change wpAnyH _ _ _ _ _ _ _ (Act.put _ (some 21) _) _
  simp only [Act.put, List.setIfInBounds_toArray, List.set_cons_zero, List.set_cons_succ]
  refine wpAnyH_ready (rs := [6]) (by kernel_rfl) (by simp) ?_
  refine AllReadyH.cons rfl (fun K hK => ?_) AllReadyH.nil
  try simp only [List.getElem_toArray, List.getElem_cons_succ, List.getElem_cons_zero]
  go_simp
  refine (HEnd.out _ HFz.out).mono ?_
  rintro e w1 ⟨rfl, rfl⟩
  refine hK.out _ _ hHeld (fun hHeld => ?_)
  clear hK K
  refine wpAnyH_ready (rs := [12]) (by kernel_rfl) (by simp) ?_
  refine AllReadyH.cons rfl (fun K hK => ?_) AllReadyH.nil
  try simp only [List.getElem_toArray, List.getElem_cons_succ, List.getElem_cons_zero]
  go_simp
  refine (HPut.out _ HFz.out).mono ?_
  rintro e w1 ⟨rfl, hk1, hF1⟩
  have hS1 : w1.cell? ⟨A, 3, none⟩ = some (.int .i64 (W : Int)) := by rw [HW.out]; exact hk1.cell.2.2.2.1
  have HK1 := hide hk1
  have HF1 := hide (show Fr (fun j => lo ≤ j) w w1 from (HFz.out.mono fun _ _ e => e.elim).join hF1)
  clear hk1 hF1
  refine hK.out _ _ hS1 (fun hHeld => ?_)
  clear hK K
  refine wpAnyH_done (by kernel_rfl) ?_ _
  have HO := hide (HK1.out.out (by omega))
  clear hHeld m3 m6 hS1
  go_wp2_with fail
  refine HO.out.mono ?_
  rintro e w2 ⟨Z, a, c, rfl, ho, hz1, hz2, hf⟩
  have HO2 := hide (own_monoZ ho HF1.out.size)
  have HZ := hide (And.intro hz1 hz2)
  have HF2 := hide (HF1.out.join (hf.mono fun _ _ e => e.elim))
  clear ho hz1 hz2 hf
  go_wp2_with fail
  go_ret
  exact ⟨Z, a, c, rfl, HO2.out, HZ.out.1, HZ.out.2, HF2.out⟩

set_option maxHeartbeats 3200000 in
set_option maxRecDepth 100000 in
/-- The end, behind a row. -/
theorem end_r (lo A mb k n n' : Nat) (first : Bool) (r : Nat) (F : Nat → Nat → Option Nat) (mn v p : Nat) (w : World) (hk : 2 ≤ k ∧ k ≤ 8) (h : Wk w lo A mb k n first (r : Int) F mn v p) (hp : p ≤ 2147400000) (hr2 : r < 2 ^ wid k n) (hn : nextN k n < 4096) (hn' : n' = if first then n else n + 1) (hlo : lo ≤ w.heap.size) :
    Calls Try.prog 37 #[.pointer (some ⟨A, 0, none⟩)] w (Wend w lo (v + r * 2 ^ p + (2 ^ k + 1) * 2 ^ (p + wid k n)) (p + wid k n + wid k n')) := by
  obtain ⟨_, _, _, _, _, _, m6, _⟩ := h.cell
  have hr1 : ((r : Int) == -1) = false := by rw [beq_eq_false_iff_ne]; omega
  have hw := wid_le k hk n
  have hw' := wid_le k hk n'
  have HP := hide (putRow_c lo A mb k n first r F mn v p w hk h (by omega) hr2 hn hlo)
  rw [← hn'] at HP
  have hlt : 2 ^ k + 1 < 2 ^ wid k n' := by
    have h1 : 2 ^ (k + 1) ≤ 2 ^ wid k n' := Nat.pow_le_pow_right (by omega) hw'.1
    have h2 : 2 ^ 2 ≤ 2 ^ k := Nat.pow_le_pow_right (by omega) hk.1
    rw [Nat.pow_succ] at h1
    omega
  obtain ⟨W, hW⟩ : ∃ W, W = wid k n' := ⟨_, rfl⟩
  rw [← hW] at hw' hlt ⊢
  obtain ⟨P, hP⟩ : ∃ P, P = 2 ^ k + 1 := ⟨_, rfl⟩
  have HPe := hide hP
  have HW := hide hW
  have Hlt := hide hlt
  clear h hW hP hlt hn'
  go_enter Try.func37, Try.ntmps37
  go_wp2_with fail
  refine HP.out.mono ?_
  rintro e w3 ⟨rfl, hk3, hF3⟩
  have HK3 := hide hk3
  have HF3 := hide (Sk.low hF3)
  have m3 : w3.cell? ⟨A, 3, none⟩ = some (.int .i64 (W : Int)) := by rw [HW.out]; exact hk3.cell.2.2.2.1
  have hlo3 := Nat.le_trans hlo hF3.size
  have HEnd : Hid (∀ W', Fr (fun _ => False) w3 W' → Calls Try.prog 49 #[.pointer (some ⟨A, 1, none⟩)] W' fun e w' => e = .returned (.int .i64 (P : Int)) ∧ W' = w') := fun W' F' => by rw [HPe.out]; exact end_c A 1 k n' W' (by omega) (HK3.out.fr F').num
  have HPut : Hid (∀ W', Fr (fun _ => False) w3 W' → Calls Try.prog 48 #[.pointer (some ⟨A, 7, none⟩), .int .i64 (P : Int), .int .i64 (W : Int)] W' fun e w' => e = .returned (.tuple #[]) ∧ Wk w' lo A mb k n' false (r : Int) F mn (v + r * 2 ^ p + (2 ^ k + 1) * 2 ^ (p + wid k n)) (p + wid k n + W) ∧ Fr (fun j => lo ≤ j) W' w') := fun W' F' => by
    rw [HPe.out]
    exact ((HK3.out.fr F').put (2 ^ k + 1) W (by omega) (by omega) Hlt.out (Nat.le_trans hlo3 F'.size)).mono fun e w'' ⟨a, b, c⟩ => ⟨a, b, Sk.low c⟩
  clear hk3 hF3 hlo3
  go_upto_region 3 with fail
  have HFz : Hid (Fr (fun _ => False) w3 w3.drew) := Fr.of_drewN w3 1
  refine wp_region_held_drew (S := fun W' => W'.cell? ⟨A, 3, none⟩ = some (.int .i64 (W : Int))) (by kernel_rfl) m3 (fun hHeld => ?_)
  refine wpAnyH_take (i := 0) (v := ?v0) rfl (by kernel_rfl) (by kernel_rfl) (by kernel_rfl) (fun _ _ _ h => h) (Or.inl ⟨by rfl, ?hy0⟩) hHeld ?rest0
  case hy0 => (intro W hSw; (try dsimp only at hSw); skip; go_simp; all_goals (with_reducible rfl))
  change wpAnyH _ _ _ _ _ _ _ (Act.put _ (some 10) _) _
  simp only [Act.put, List.setIfInBounds_toArray, List.set_cons_zero, List.set_cons_succ]
  refine wpAnyH_take (i := 3) (v := ?v3) rfl (by kernel_rfl) (by kernel_rfl) (by kernel_rfl) (fun _ _ _ h => h) (Or.inl ⟨by rfl, ?hy3⟩) hHeld ?rest3
  case hy3 => (intro W hSw; (try dsimp only at hSw); skip; go_simp; all_goals (with_reducible rfl))
  change wpAnyH _ _ _ _ _ _ _ (Act.put _ (some 13) _) _
  simp only [Act.put, List.setIfInBounds_toArray, List.set_cons_zero, List.set_cons_succ]
  refine wpAnyH_take (i := 7) (v := ?v7) rfl (by kernel_rfl) (by kernel_rfl) (by kernel_rfl) (fun _ _ _ h => h) (Or.inl ⟨by rfl, ?hy7⟩) hHeld ?rest7
  case hy7 => (intro W hSw; (try dsimp only at hSw); skip; go_simp; all_goals (with_reducible rfl))
  change wpAnyH _ _ _ _ _ _ _ (Act.put _ (some 17) _) _
  simp only [Act.put, List.setIfInBounds_toArray, List.set_cons_zero, List.set_cons_succ]
  refine wpAnyH_take (i := 1) (v := ?v1) rfl (by kernel_rfl) (by kernel_rfl) (by kernel_rfl) (fun _ _ _ h => h) (Or.inl ⟨by rfl, ?hy1⟩) hHeld ?rest1
  case hy1 => (intro W hSw; (try dsimp only at hSw); skip; go_simp; all_goals (with_reducible rfl))
  change wpAnyH _ _ _ _ _ _ _ (Act.put _ (some 11) _) _
  simp only [Act.put, List.setIfInBounds_toArray, List.set_cons_zero, List.set_cons_succ]
  refine wpAnyH_take (i := 4) (v := ?v4) rfl (by kernel_rfl) (by kernel_rfl) (by kernel_rfl) (fun _ _ _ h => h) (Or.inl ⟨by rfl, ?hy4⟩) hHeld ?rest4
  case hy4 => (intro W hSw; (try dsimp only at hSw); skip; go_simp; all_goals (with_reducible rfl))
  change wpAnyH _ _ _ _ _ _ _ (Act.put _ (some 14) _) _
  simp only [Act.put, List.setIfInBounds_toArray, List.set_cons_zero, List.set_cons_succ]
  refine wpAnyH_take (i := 8) (v := ?v8) rfl (by kernel_rfl) (by kernel_rfl) (by kernel_rfl) (fun _ _ _ h => h) (Or.inl ⟨by rfl, ?hy8⟩) hHeld ?rest8
  case hy8 => (intro W hSw; (try dsimp only at hSw); skip; go_simp; all_goals (with_reducible rfl))
  change wpAnyH _ _ _ _ _ _ _ (Act.put _ (some 18) _) _
  simp only [Act.put, List.setIfInBounds_toArray, List.set_cons_zero, List.set_cons_succ]
  refine wpAnyH_take (i := 2) (v := ?v2) rfl (by kernel_rfl) (by kernel_rfl) (by kernel_rfl) (fun _ _ _ h => h) (Or.inl ⟨by rfl, ?hy2⟩) hHeld ?rest2
  case hy2 => (intro W hSw; (try dsimp only at hSw); skip; go_simp; all_goals (with_reducible rfl))
  change wpAnyH _ _ _ _ _ _ _ (Act.put _ (some 12) _) _
  simp only [Act.put, List.setIfInBounds_toArray, List.set_cons_zero, List.set_cons_succ]
  refine wpAnyH_take (i := 5) (v := ?v5) rfl (by kernel_rfl) (by kernel_rfl) (by kernel_rfl) (fun _ _ _ h => h) (Or.inl ⟨by rfl, ?hy5⟩) hHeld ?rest5
  case hy5 => (intro W hSw; (try dsimp only at hSw); skip; go_simp; all_goals (with_reducible rfl))
  change wpAnyH _ _ _ _ _ _ _ (Act.put _ (some 15) _) _
  simp only [Act.put, List.setIfInBounds_toArray, List.set_cons_zero, List.set_cons_succ]
  refine wpAnyH_take (i := 9) (v := ?v9) rfl (by kernel_rfl) (by kernel_rfl) (by kernel_rfl) (fun _ _ _ h => h) (Or.inl ⟨by rfl, ?hy9⟩) hHeld ?rest9
  case hy9 => (intro W hSw; (try dsimp only at hSw); skip; go_simp; all_goals (with_reducible rfl))
  change wpAnyH _ _ _ _ _ _ _ (Act.put _ (some 19) _) _
  simp only [Act.put, List.setIfInBounds_toArray, List.set_cons_zero, List.set_cons_succ]
  refine wpAnyH_take (i := 10) (v := ?v10) rfl (by kernel_rfl) (by kernel_rfl) (by kernel_rfl) (fun _ _ _ h => h) (Or.inl ⟨by rfl, ?hy10⟩) hHeld ?rest10
  case hy10 => (intro W hSw; (try dsimp only at hSw); skip; go_simp; all_goals (with_reducible rfl))
  change wpAnyH _ _ _ _ _ _ _ (Act.put _ (some 20) _) _
  simp only [Act.put, List.setIfInBounds_toArray, List.set_cons_zero, List.set_cons_succ]
  refine wpAnyH_take (i := 11) (v := ?v11) rfl (by kernel_rfl) (by kernel_rfl) (by kernel_rfl) (fun _ _ _ h => h) (Or.inl ⟨by rfl, ?hy11⟩) hHeld ?rest11
  case hy11 => (intro W hSw; (try dsimp only at hSw); skip; go_simp; all_goals (with_reducible rfl))
  change wpAnyH _ _ _ _ _ _ _ (Act.put _ (some 21) _) _
  simp only [Act.put, List.setIfInBounds_toArray, List.set_cons_zero, List.set_cons_succ]
  refine wpAnyH_ready (rs := [6]) (by kernel_rfl) (by simp) ?_
  refine AllReadyH.cons rfl (fun K hK => ?_) AllReadyH.nil
  try simp only [List.getElem_toArray, List.getElem_cons_succ, List.getElem_cons_zero]
  go_simp
  refine (HEnd.out _ HFz.out).mono ?_
  rintro e w1 ⟨rfl, rfl⟩
  refine hK.out _ _ hHeld (fun hHeld => ?_)
  clear hK K
  refine wpAnyH_ready (rs := [12]) (by kernel_rfl) (by simp) ?_
  refine AllReadyH.cons rfl (fun K hK => ?_) AllReadyH.nil
  try simp only [List.getElem_toArray, List.getElem_cons_succ, List.getElem_cons_zero]
  go_simp
  refine (HPut.out _ HFz.out).mono ?_
  rintro e w1 ⟨rfl, hk1, hF1⟩
  have hS1 : w1.cell? ⟨A, 3, none⟩ = some (.int .i64 (W : Int)) := by rw [HW.out]; exact hk1.cell.2.2.2.1
  have HK1 := hide hk1
  have HF1 := hide (show Fr (fun j => lo ≤ j) w w1 from HF3.out.join ((HFz.out.mono fun _ _ e => e.elim).join hF1))
  clear hk1 hF1
  refine hK.out _ _ hS1 (fun hHeld => ?_)
  clear hK K
  refine wpAnyH_done (by kernel_rfl) ?_ _
  have HO := hide (HK1.out.out (by omega))
  clear hHeld m3 m6 hS1
  go_wp2_with fail
  refine HO.out.mono ?_
  rintro e w2 ⟨Z, a, c, rfl, ho, hz1, hz2, hf⟩
  have HO2 := hide (own_monoZ ho HF1.out.size)
  have HZ := hide (And.intro hz1 hz2)
  have HF2 := hide (HF1.out.join (hf.mono fun _ _ e => e.elim))
  clear ho hz1 hz2 hf
  go_wp2_with fail
  go_ret
  exact ⟨Z, a, c, rfl, HO2.out, HZ.out.1, HZ.out.2, HF2.out⟩

set_option maxHeartbeats 800000 in
set_option maxRecDepth 100000 in
/-- Are all values below a limit? -/
theorem allBelow_c (a : Option Addr) (c : Nat) (bs : List Nat) (L : Nat) (w : World) (h : Lies w (.slice a bs.length c) bs) (hb : ∀ b ∈ bs, b < 256) (hlen : bs.length ≤ 2147483648) :
    Calls Try.prog 34 #[.slice a bs.length c, .int .i64 (L : Int)] w fun e w' => e = .returned (.bool (decide (∀ b ∈ bs, b < L))) ∧ w = w' := by
  have HLz := hide (Lz.of h hb)
  have Hb := hide hb
  obtain ⟨B, hB⟩ : ∃ B, B = decide (∀ b ∈ bs, b < L) := ⟨_, rfl⟩
  rw [← hB]
  have HB := hide hB
  clear h hb hB
  go_enter Try.func34, Try.ntmps34
  go_wp2
  go_loop [9] (fun iv => ∃ i : Nat, i ≤ bs.length ∧ iv = .int .i64 (i : Int) ∧ ∀ b ∈ bs.take i, b < L) (fun iv => bs.length - (intOf iv).toNat)
  case atStart => exact ⟨0, Nat.zero_le _, rfl, fun b hb => by simp at hb⟩
  case round =>
    obtain ⟨i, hi, rfl, hall⟩ := hrel
    by_cases hlt : i < bs.length
    · obtain ⟨ad, rfl, hcell⟩ := HLz.out.2 i hlt
      have hx8 : bs.getD i 0 < 256 := Hb.out _ (getD_mem bs i hlt)
      have htk := getD_take_succ bs i hlt
      have hmem := getD_mem bs i hlt
      obtain ⟨x, hx⟩ : ∃ x, x = bs.getD i 0 := ⟨_, rfl⟩
      rw [← hx] at hcell hx8 htk hmem
      have q1 : IntKind.i64.wrap (x : Int) = (x : Int) := wrap_i64_id _ (by omega) (by omega)
      by_cases hxl : x < L
      · have h1 : ¬ (L : Int) ≤ (x : Int) := by omega
        have Hall : Hid (∀ b ∈ bs.take (i + 1), b < L) := by
          intro b hb
          rw [htk] at hb
          rcases List.mem_append.1 hb with hb | hb
          · exact hall b hb
          · simp at hb; omega
        clear hall hxl hx htk hmem
        go_wp2
        go_round
        case rel => exact ⟨i + 1, by omega, by go_num, Hall.out⟩
        case measure => simp [intOf]; omega
      · have h1 : (L : Int) ≤ (x : Int) := by omega
        have hd : Hid (B = false) := by show _ = _; rw [HB.out]; exact decide_eq_false fun hh => hxl (hh x hmem)
        clear hall hxl hx htk hmem
        go_wp2
        go_ret
        exact ⟨by rw [hd.out]; rfl, rfl⟩
    · have hd : Hid (B = true) := by show _ = _; rw [HB.out]; exact decide_eq_true fun b hb => hall b (by rw [List.take_of_length_le (by omega)]; exact hb)
      clear hall
      go_wp2
      go_ret
      exact ⟨by rw [hd.out]; rfl, rfl⟩
end Go.Proofs.Ytdbgolklgiadeaa
