/-
  palette: slices.Index of the clear colour.
-/
import Derived.Test.YthdilabmajaehaaYb
namespace Go.Proofs.Ythdilabmajaehaa
open Go.RowKit

/-- The place of the clear one. -/
def clearV (u : List (List Nat)) : Int := if [0, 0, 0, 0] ∈ u then ((u.idxOf [0, 0, 0, 0] : Nat) : Int) else -1

theorem clear_at {u : List (List Nat)} {k : Nat} (hk : k < u.length) (he : u.getD k [] = [0, 0, 0, 0]) (hb : ∀ j, j < k → u.getD j [] ≠ [0, 0, 0, 0]) : clearV u = (k : Int) := by
  have hm : [0, 0, 0, 0] ∈ u := by
    rw [← he, List.getD_eq_getElem?_getD, List.getElem?_eq_getElem hk]
    exact List.getElem_mem hk
  unfold clearV
  rw [if_pos hm]
  have h1 : u.idxOf [0, 0, 0, 0] < u.length := List.idxOf_lt_length_iff.2 hm
  have h2 : u[u.idxOf [0, 0, 0, 0]] = [0, 0, 0, 0] := List.getElem_idxOf h1
  rcases Nat.lt_trichotomy (u.idxOf [0, 0, 0, 0]) k with h | h | h
  · exact absurd (by rw [List.getD_eq_getElem?_getD, List.getElem?_eq_getElem h1]; exact h2) (hb _ h)
  · rw [h]
  · exfalso
    have h3 : u[k] = [0, 0, 0, 0] := by
      rw [List.getD_eq_getElem?_getD, List.getElem?_eq_getElem hk] at he
      exact he
    have h4 := List.not_of_lt_findIdx (p := (· == [0, 0, 0, 0])) (xs := u) (i := k) h
    simp [h3] at h4

theorem clear_none {u : List (List Nat)} (hb : ∀ j, j < u.length → u.getD j [] ≠ [0, 0, 0, 0]) : clearV u = -1 := by
  unfold clearV
  rw [if_neg]
  intro h
  obtain ⟨j, hj, e⟩ := List.getElem_of_mem h
  exact hb j hj (by rw [List.getD_eq_getElem?_getD, List.getElem?_eq_getElem hj]; exact e)

set_option maxHeartbeats 400000 in
set_option maxRecDepth 100000 in
theorem index_c (lo : Nat) (a : Option Addr) (L c : Nat) (u : List (List Nat)) (w : World) (ho : OwnP w lo (.slice a L c) u) (hg : ∀ x ∈ u, Good x) (hL : u.length ≤ 70000) :
    Calls Try.prog 51 #[.slice a L c, .agg (pxV 0 0 0 0)] w fun e w' => e = .returned (.int .i64 (clearV u)) ∧ Fr (fun _ => False) w w' := by
  have hLu := ho.len
  obtain ⟨w1, hw1⟩ : ∃ w1, w1 = w.alloc (.cells (pxV 0 0 0 0) 36) := ⟨_, rfl⟩
  obtain ⟨P, hP⟩ : ∃ P, P = w.heap.size := ⟨_, rfl⟩
  have hb1 : w1.heap[P]? = some (.cells (pxV 0 0 0 0) 36 (0, 0)) := by rw [hw1]; exact heap_alloc_at hP
  have hF1 : Fr (fun _ => False) w w1 := by rw [hw1]; exact Fr.of_alloc _ _
  have HO := hide (ho.keep hF1 fun _ _ h => h)
  have HF1 := hide hF1
  have Hb1 := hide hb1
  have Hw1 := hide hw1
  have HP := hide hP
  have Hg := hide hg
  have HLu := hide hLu
  have hL7 : L ≤ 70000 := by omega
  clear ho hg hL hLu hb1 hF1 hw1 hP
  go_enter Try.func51, Try.ntmps51
  go_wp2_with fail
  rw [← Hw1.out, ← HP.out]
  go_loopw [4, 5, 8] (fun _ _ v8 wr => ∃ k : Nat, v8 = .int .i64 (k : Int) ∧ k ≤ L ∧ Hid (∀ j, j < k → u.getD j [] ≠ [0, 0, 0, 0]) ∧ Hid (Fr (fun _ => False) w1 wr)) (fun _ _ v8 _ => L - (intOf v8).toNat)
  case atStart => exact ⟨0, rfl, Nat.zero_le _, fun j hj => absurd hj (Nat.not_lt_zero _), Fr.refl _ _⟩
  case round =>
    obtain ⟨k, rfl, hk, HB, HFw⟩ := hrel
    have hcw := cells_at Hb1.out HFw.out (fun e => e)
    have c0 := cell_of (o := 0) hcw rfl
    have c1 := cell_of (o := 1) hcw rfl
    have c2 := cell_of (o := 2) hcw rfl
    have c3 := cell_of (o := 3) hcw rfl
    clear hcw
    by_cases hkL : k < L
    · have hki : (k : Int) < (L : Int) := by omega
      have HOw := hide (HO.out.keep HFw.out fun _ _ h => h)
      have hkU : k < u.length := by rw [← HLu.out]; exact hkL
      obtain ⟨hf1, hf2, gl, rfl⟩ := HOw.out.form (by omega)
      clear hf1 hf2
      obtain ⟨a0, ha0⟩ : ∃ s, s = (u.getD k []).getD 0 0 := ⟨_, rfl⟩
      obtain ⟨a1, ha1⟩ : ∃ s, s = (u.getD k []).getD 1 0 := ⟨_, rfl⟩
      obtain ⟨a2, ha2⟩ : ∃ s, s = (u.getD k []).getD 2 0 := ⟨_, rfl⟩
      obtain ⟨a3, ha3⟩ : ∃ s, s = (u.getD k []).getD 3 0 := ⟨_, rfl⟩
      have d0 := HOw.out.cell (r := 0) hkU (by decide)
      have d1 := HOw.out.cell (r := 1) hkU (by decide)
      have d2 := HOw.out.cell (r := 2) hkU (by decide)
      have d3 := HOw.out.cell (r := 3) hkU (by decide)
      rw [← ha0, Nat.add_zero, Nat.mul_comm] at d0
      rw [← ha1, Nat.mul_comm] at d1
      rw [← ha2, Nat.mul_comm] at d2
      rw [← ha3, Nat.mul_comm] at d3
      have HUm : Hid (u.getD k [] ∈ u) := by show _ ∈ _; rw [List.getD_eq_getElem?_getD, List.getElem?_eq_getElem hkU]; exact List.getElem_mem hkU
      have HU : Hid (u.getD k [] = [a0, a1, a2, a3]) := by
        show _ = _
        rw [ha0, ha1, ha2, ha3]
        exact four_list (Hg.out _ HUm.out).1
      have HZs : ∀ x ∈ [a0, a1, a2, a3], x < 65536 := by rw [← HU.out]; exact (Hg.out _ HUm.out).2
      obtain ⟨Z, hZ⟩ : ∃ Z, Z = decide ([0, 0, 0, 0] = [a0, a1, a2, a3]) := ⟨_, rfl⟩
      have hE : ∀ w : World, (Op.equalIn 10000 36 (.agg #[.int .u16 0, .int .u16 0, .int .u16 0, .int .u16 0]) (.agg #[.int .u16 (a0 : Int), .int .u16 (a1 : Int), .int .u16 (a2 : Int), .int .u16 (a3 : Int)])).run Try.prog w = .ok Z w := fun w => by rw [hZ]; exact eq_four 0 0 0 0 a0 a1 a2 a3 (by decide) HZs w
      have HZ : Hid (Z = decide ([0, 0, 0, 0] = u.getD k [])) := by show _ = _; rw [hZ, HU.out]
      have HkU := hide hkU
      clear ha0 ha1 ha2 ha3 hZ HZs hkU
      go_upto_region 4 with fail
      refine wp_region_held_drew (S := fun W' => Fr (fun _ => False) wr W') (by kernel_rfl) (by exact Fr.drew1 _ wr) (fun hHeld => ?_)
      refine wpAnyH_take (i := 0) (v := ?v0) rfl (by kernel_rfl) (by kernel_rfl) (by kernel_rfl) (fun _ _ _ h => h) (Or.inl ⟨by rfl, ?hy0⟩) hHeld ?rest0
      case hy0 => (intro W hSw; (try dsimp only at hSw); have x0 := hSw.cell0 d0; have x1 := hSw.cell0 d1; have x2 := hSw.cell0 d2; have x3 := hSw.cell0 d3; have y0 := hSw.cell0 c0; have y1 := hSw.cell0 c1; have y2 := hSw.cell0 c2; have y3 := hSw.cell0 c3; go_simp; all_goals (with_reducible rfl))
      change wpAnyH _ _ _ _ _ _ _ (Act.put _ (some 11) _) _
      simp only [Act.put, List.setIfInBounds_toArray, List.set_cons_zero, List.set_cons_succ]
      refine wpAnyH_take (i := 1) (v := ?v1) rfl (by kernel_rfl) (by kernel_rfl) (by kernel_rfl) (fun _ _ _ h => h) (Or.inl ⟨by rfl, ?hy1⟩) hHeld ?rest1
      case hy1 => (intro W hSw; (try dsimp only at hSw); have x0 := hSw.cell0 d0; have x1 := hSw.cell0 d1; have x2 := hSw.cell0 d2; have x3 := hSw.cell0 d3; have y0 := hSw.cell0 c0; have y1 := hSw.cell0 c1; have y2 := hSw.cell0 c2; have y3 := hSw.cell0 c3; go_simp; all_goals (with_reducible rfl))
      change wpAnyH _ _ _ _ _ _ _ (Act.put _ (some 12) _) _
      simp only [Act.put, List.setIfInBounds_toArray, List.set_cons_zero, List.set_cons_succ]
      refine wpAnyH_take (i := 2) (v := ?v2) rfl (by kernel_rfl) (by kernel_rfl) (by kernel_rfl) (fun _ _ _ h => h) (Or.inl ⟨by rfl, ?hy2⟩) hHeld ?rest2
      case hy2 => (intro W hSw; (try dsimp only at hSw); have x0 := hSw.cell0 d0; have x1 := hSw.cell0 d1; have x2 := hSw.cell0 d2; have x3 := hSw.cell0 d3; have y0 := hSw.cell0 c0; have y1 := hSw.cell0 c1; have y2 := hSw.cell0 c2; have y3 := hSw.cell0 c3; go_simp; all_goals (with_reducible rfl))
      change wpAnyH _ _ _ _ _ _ _ (Act.put _ (some 13) _) _
      simp only [Act.put, List.setIfInBounds_toArray, List.set_cons_zero, List.set_cons_succ]
      refine wpAnyH_take (i := 3) (v := ?v3) rfl (by kernel_rfl) (by kernel_rfl) (by kernel_rfl) (fun _ _ _ h => h) (Or.inl ⟨by rfl, ?hy3⟩) hHeld ?rest3
      case hy3 => (intro W hSw; (try dsimp only at hSw); have x0 := hSw.cell0 d0; have x1 := hSw.cell0 d1; have x2 := hSw.cell0 d2; have x3 := hSw.cell0 d3; have y0 := hSw.cell0 c0; have y1 := hSw.cell0 c1; have y2 := hSw.cell0 c2; have y3 := hSw.cell0 c3; go_simp; all_goals (with_reducible rfl))
      change wpAnyH _ _ _ _ _ _ _ (Act.put _ (some 14) _) _
      simp only [Act.put, List.setIfInBounds_toArray, List.set_cons_zero, List.set_cons_succ]
      refine wpAnyH_take (i := 4) (v := ?v4) rfl (by kernel_rfl) (by kernel_rfl) (by kernel_rfl) (fun _ _ _ h => h) (Or.inl ⟨by rfl, ?hy4⟩) hHeld ?rest4
      case hy4 => (intro W hSw; (try dsimp only at hSw); have x0 := hSw.cell0 d0; have x1 := hSw.cell0 d1; have x2 := hSw.cell0 d2; have x3 := hSw.cell0 d3; have y0 := hSw.cell0 c0; have y1 := hSw.cell0 c1; have y2 := hSw.cell0 c2; have y3 := hSw.cell0 c3; go_simp; all_goals (with_reducible rfl))
      change wpAnyH _ _ _ _ _ _ _ (Act.put _ (some 15) _) _
      simp only [Act.put, List.setIfInBounds_toArray, List.set_cons_zero, List.set_cons_succ]
      refine wpAnyH_take (i := 5) (v := ?v5) rfl (by kernel_rfl) (by kernel_rfl) (by kernel_rfl) (fun _ _ _ h => h) (Or.inl ⟨by rfl, ?hy5⟩) hHeld ?rest5
      case hy5 => (intro W hSw; (try dsimp only at hSw); have x0 := hSw.cell0 d0; have x1 := hSw.cell0 d1; have x2 := hSw.cell0 d2; have x3 := hSw.cell0 d3; have y0 := hSw.cell0 c0; have y1 := hSw.cell0 c1; have y2 := hSw.cell0 c2; have y3 := hSw.cell0 c3; go_simp; all_goals (with_reducible rfl))
      change wpAnyH _ _ _ _ _ _ _ (Act.put _ (some 16) _) _
      simp only [Act.put, List.setIfInBounds_toArray, List.set_cons_zero, List.set_cons_succ]
      refine wpAnyH_done (by kernel_rfl) ?_ _
      clear d0 d1 d2 d3 c0 c1 c2 c3 hE
      cases Z with
      | false =>
        have HB2 : Hid (∀ j, j < k + 1 → u.getD j [] ≠ [0, 0, 0, 0]) := fun j hj => by
          by_cases e : j = k
          · rw [e]; exact fun h => of_decide_eq_false HZ.out.symm h.symm
          · exact HB.out j (by omega)
        go_wp2_with fail
        exact ⟨⟨k + 1, by go_num, by omega, HB2.out, HFw.out.join hHeld⟩, by simp [intOf]; omega⟩
      | true =>
        have hcl := clear_at HkU.out (of_decide_eq_true HZ.out.symm).symm HB.out
        have HCl := hide hcl
        clear hcl
        go_wp2_with fail
        go_ret
        exact ⟨by rw [HCl.out]; rfl, HF1.out.join (HFw.out.join hHeld)⟩
    · have hki : ¬ (k : Int) < (L : Int) := by omega
      have hcl := clear_none (u := u) (fun j hj => HB.out j (by have := HLu.out; omega))
      have HCl := hide hcl
      clear hcl
      go_wp2_with fail
      go_ret
      exact ⟨by rw [HCl.out]; rfl, HF1.out.join HFw.out⟩
end Go.Proofs.Ythdilabmajaehaa
