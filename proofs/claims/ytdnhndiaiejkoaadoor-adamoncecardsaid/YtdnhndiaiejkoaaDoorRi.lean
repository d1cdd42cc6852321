/-
  adam: Bytes of both.
-/
import Derived.Test.YtdnhndiaiejkoaaDoorRf
import Derived.BigQuiet
import Derived.Deep.RegionHeld3
namespace Go.Proofs.YtdnhndiaiejkoaaDoor
open Go.RowKit
set_option linter.unusedVariables false

def okP (q : Pz) : Bool := sideB q.w && sideB q.h
def rowsP (b : Int) (q : Pz) : Int := if 0 < q.w then q.h * (1 + rowV q.w b) else 0
def sumP (b : Int) (l : List Pz) : Int := (l.map (rowsP b)).sum
def bytesV (l : List Pz) (b : Int) : Int := if l.length ≤ 7 ∧ depB b = true ∧ (∀ k, k < l.length → okP (l.getD k default) = true) then sumP b l else 0
theorem sumP_snoc (b : Int) (l : List Pz) (k : Nat) (h : k < l.length) : sumP b (l.take (k + 1)) = sumP b (l.take k) + rowsP b (l.getD k default) := by
  rw [List.take_succ_eq_append_getElem h]
  simp only [sumP, List.map_append, List.sum_append, List.map_cons, List.map_nil, List.sum_cons, List.sum_nil, Int.add_zero, List.getD_eq_getElem?_getD, List.getElem?_eq_getElem h, Option.getD_some]
theorem mul_rows {h r : Int} (h0 : 0 ≤ h) (h1 : h ≤ 256) (r0 : 0 ≤ r) (r1 : r ≤ 2048) : 0 ≤ h * (1 + r) ∧ h * (1 + r) ≤ 524544 := by
  refine ⟨Int.mul_nonneg h0 (by omega), ?_⟩
  have e1 : h * (1 + r) ≤ 256 * (1 + r) := Int.mul_le_mul_of_nonneg_right h1 (by omega)
  omega
theorem rowsP_facts {b : Int} {q : Pz} (h : okP q = true) : 0 ≤ rowsP b q ∧ rowsP b q ≤ 524544 := by
  obtain ⟨h1, h2⟩ := (by simpa [okP] using h : sideB q.w = true ∧ sideB q.h = true)
  have h3 := (sideB_iff _).1 h2
  have h4 := rowV_facts q.w b
  unfold rowsP
  split
  · exact mul_rows h3.1 h3.2 h4.1 h4.2
  · omega
theorem sumP_facts {b : Int} {l : List Pz} : ∀ k, k ≤ l.length → (∀ j, j < k → okP (l.getD j default) = true) → 0 ≤ sumP b (l.take k) ∧ sumP b (l.take k) ≤ k * 524544
  | 0, _, _ => by simp [sumP]
  | k + 1, hk, h => by
    obtain ⟨h1, h2⟩ := sumP_facts (b := b) k (by omega) fun j hj => h j (by omega)
    obtain ⟨h3, h4⟩ := rowsP_facts (b := b) (h k (by omega))
    rw [sumP_snoc b l k (by omega)]
    push_cast
    omega
theorem bytesV_yes {l : List Pz} {b : Int} (h7 : l.length ≤ 7) (hb : depB b = true) (h : ∀ k, k < l.length → okP (l.getD k default) = true) : bytesV l b = sumP b l := if_pos ⟨h7, hb, h⟩
theorem bytesV_no {l : List Pz} {b : Int} (h : ¬ (l.length ≤ 7 ∧ depB b = true ∧ ∀ k, k < l.length → okP (l.getD k default) = true)) : bytesV l b = 0 := if_neg h
theorem ret0 {a b : Int} (h : a = b) : Ending.returned (.int .i64 a) = .returned (.int .i64 b) := by rw [h]

set_option maxHeartbeats 1600000 in
theorem bytes_c (a : Option Addr) (c : Nat) (l : List Pz) (b : Int) (w : World) (hl : LiesP w a l) (hlen : l.length ≤ 100000) :
    Calls Tryd.prog 14 #[.slice a l.length c, .int .i64 b] w fun e w' => e = .returned (.int .i64 (bytesV l b)) ∧ Fr (fun _ => False) w w' := by
  have Hl := hide hl
  clear hl
  by_cases h7 : l.length ≤ 7
  case neg =>
    have h8 : (7 : Int) < (l.length : Int) := by omega
    rw [bytesV_no fun h => h7 h.1]
    go_enter Tryd.func14, Tryd.ntmps14
    go_wp2
    go_ret
    exact ⟨rfl, Fr.refl _ _⟩
  have h8 : ¬ (7 : Int) < (l.length : Int) := by omega
  cases hb : depB b with
  | false =>
    rw [bytesV_no fun h => by rw [hb] at h; cases h.2.1]
    go_enter Tryd.func14, Tryd.ntmps14
    go_wp2_with (go_at_call 22; refine (depth_c b _).mono ?_; rintro e w2 ⟨rfl, h1⟩; replace h1 := h1.symm; subst h1; rw [hb])
    go_ret
    exact ⟨rfl, Fr.refl _ _⟩
  | true =>
    have HB := hide hb
    go_enter Tryd.func14, Tryd.ntmps14
    go_wp2_with (go_at_call 22; refine (depth_c b _).mono ?_; rintro e w2 ⟨rfl, h1⟩; replace h1 := h1.symm; subst h1; rw [hb])
    clear hb
    go_loopw [5, 18] (fun sv iv wr => ∃ (k : Nat) (S : Int), k ≤ l.length ∧ iv = .int .i64 k ∧ sv = .int .i64 S ∧ 0 ≤ S ∧ S ≤ 4000000 ∧ Hid (S = sumP b (l.take k)) ∧ Hid (∀ j, j < k → okP (l.getD j default) = true) ∧ Hid (Fr (fun _ => False) w wr)) (fun _ iv _ => l.length - (intOf iv).toNat)
    case atStart => exact ⟨0, 0, by omega, rfl, rfl, by omega, by omega, rfl, fun j hj => absurd hj (Nat.not_lt_zero _), Fr.refl _ _⟩
    case round =>
      obtain ⟨k, S, hkl, rfl, rfl, hS0, hS1, HS, HK, HF⟩ := hrel
      obtain ⟨wo, rfl⟩ : ∃ wo : World, wo = wr := ⟨_, rfl⟩
      by_cases hlt : k < l.length
      · obtain ⟨g, o, rfl, hA⟩ := Hl.out k hlt
        have h0 : (0 : Int) ≤ (k : Int) := by omega
        have h1 : (k : Int) < (l.length : Int) := by omega
        have HSN := hide (sumP_snoc b l k hlt)
        have HOK : Hid (okP (l.getD k default) = true → ∀ j, j < k + 1 → okP (l.getD j default) = true) := fun h j hj => by
          by_cases e : j = k
          · rw [e]; exact h
          · exact HK.out j (by omega)
        have HNO : Hid (okP (l.getD k default) = false → bytesV l b = 0) := fun h => bytesV_no fun hh => by have := hh.2.2 k hlt; rw [h] at this; cases this
        have hbd : okP (l.getD k default) = true → 0 ≤ sumP b (l.take (k + 1)) ∧ sumP b (l.take (k + 1)) ≤ 4000000 := fun h => by
          have := sumP_facts (b := b) (k + 1) (by omega) (HOK.out h)
          push_cast at this
          omega
        have HBD := hide hbd
        clear hbd
        obtain ⟨d0, d1, d2, d3, d4, d5⟩ := hA.fr0 HF.out
        generalize l.getD k default = q at *
        obtain ⟨x, y, dx, dy, pw, ph⟩ := q
        simp only [] at d0 d1 d2 d3 d4 d5
        go_upto_region 7 with fail
        obtain ⟨P, hP⟩ : ∃ P, P = wo.heap.size := ⟨_, rfl⟩
        obtain ⟨w2, hw2⟩ : ∃ w2, w2 = wo.alloc (.cells #[.int .i64 x, .int .i64 y, .int .i64 dx, .int .i64 dy, .int .i64 pw, .int .i64 ph] 32) := ⟨_, rfl⟩
        have hB2 : w2.heap[P]? = some (.cells #[.int .i64 x, .int .i64 y, .int .i64 dx, .int .i64 dy, .int .i64 pw, .int .i64 ph] 32 (0, 0)) := by rw [hw2]; exact heap_alloc_at hP
        have HF2 : Hid (Fr (fun _ => False) w w2) := by rw [hw2]; exact HF.out.join (Fr.of_alloc _ _)
        rw [← hw2, ← hP]
        clear hw2 hP d0 d1 d2 d3 d4 d5 HF
        have d4 := cell_of (o := 4) hB2 rfl
        have d5 := cell_of (o := 5) hB2 rfl
        clear hB2
        cases hs1 : sideB pw with
        | false =>
          have HZ := hide (HNO.out (by simp [okP, hs1]))
          clear HNO HOK HSN HBD
          go_wp2_with (go_at_call 23; refine (side_c pw _).mono ?_; rintro e w3 ⟨rfl, h1⟩; replace h1 := h1.symm; subst h1; rw [hs1])
          go_ret
          exact ⟨ret0 HZ.out.symm, HF2.out⟩
        | true =>
          cases hs2 : sideB ph with
          | false =>
            have HZ := hide (HNO.out (by simp [okP, hs2]))
            clear HNO HOK HSN HBD
            go_wp2_with (go_at_call 23; first | (refine (calls_args (side_c pw _) (by rfl)).mono ?_; rintro e w3 ⟨rfl, h1⟩; replace h1 := h1.symm; subst h1; rw [hs1]) | (refine (calls_args (side_c ph _) (by rfl)).mono ?_; rintro e w3 ⟨rfl, h1⟩; replace h1 := h1.symm; subst h1; rw [hs2]))
            go_ret
            exact ⟨ret0 HZ.out.symm, HF2.out⟩
          | true =>
            have hok : okP ⟨x, y, dx, dy, pw, ph⟩ = true := by simp [okP, hs1, hs2]
            have hs3 := (sideB_iff pw).1 hs1
            have hs4 := (sideB_iff ph).1 hs2
            have HBD2 := HBD.out hok
            rw [HSN.out, ← HS.out] at HBD2
            have HOK2 := hide (HOK.out hok)
            have HSN2 : Hid (S + rowsP b ⟨x, y, dx, dy, pw, ph⟩ = sumP b (l.take (k + 1))) := by show _ = _; rw [HSN.out, ← HS.out]
            clear HNO HOK HSN HBD HS HK
            by_cases hp0 : 0 < pw
            · have hr : rowsP b ⟨x, y, dx, dy, pw, ph⟩ = ph * (1 + rowV pw b) := if_pos hp0
              rw [hr] at HBD2 HSN2
              obtain ⟨r0, r1⟩ := rowV_facts pw b
              have HR := hide (fun w => row_c pw b w)
              generalize rowV pw b = V at *
              obtain ⟨m0, m1⟩ := mul_rows hs4.1 hs4.2 r0 r1
              have HW1 := hide (wrap_i64_id (1 + V) (by omega) (by omega))
              have HW2 := hide (wrap_i64_id (ph * (1 + V)) (by omega) (by omega))
              have HW3 := hide (wrap_i64_id (S + ph * (1 + V)) (by omega) (by omega))
              have HBD3 := hide HBD2
              clear hr HBD2
              go_upto_region 10 with (go_at_call 23; first | (refine (calls_args (side_c pw _) (by rfl)).mono ?_; rintro e w3 ⟨rfl, h1⟩; replace h1 := h1.symm; subst h1; rw [hs1]) | (refine (calls_args (side_c ph _) (by rfl)).mono ?_; rintro e w3 ⟨rfl, h1⟩; replace h1 := h1.symm; subst h1; rw [hs2]))
              refine wp_region_held_drew (S := fun W' => Fr (fun _ => False) w2 W') (by kernel_rfl) (by exact Fr.drew1 _ w2) (fun hHeld => ?_)
              refine wpAnyH_take (i := 0) (v := ?v0) rfl (by kernel_rfl) (by kernel_rfl) (by kernel_rfl) (fun _ _ _ h => h) (Or.inl ⟨by rfl, ?hy0⟩) hHeld ?rest0
              case hy0 => (intro W hSw; (try dsimp only at hSw); have z4 := hSw.cell0 d4; have z5 := hSw.cell0 d5; go_simp; all_goals (with_reducible rfl))
              change wpAnyH _ _ _ _ _ _ _ (Act.put _ (some 35) _) _
              simp only [Act.put, List.setIfInBounds_toArray, List.set_cons_zero, List.set_cons_succ]
              refine wpAnyH_take (i := 1) (v := ?v1) rfl (by kernel_rfl) (by kernel_rfl) (by kernel_rfl) (fun _ _ _ h => h) (Or.inl ⟨by rfl, ?hy1⟩) hHeld ?rest1
              case hy1 => (intro W hSw; (try dsimp only at hSw); have z4 := hSw.cell0 d4; have z5 := hSw.cell0 d5; go_simp; all_goals (with_reducible rfl))
              change wpAnyH _ _ _ _ _ _ _ (Act.put _ (some 36) _) _
              simp only [Act.put, List.setIfInBounds_toArray, List.set_cons_zero, List.set_cons_succ]
              refine wpAnyH_take (i := 3) (v := ?v3) rfl (by kernel_rfl) (by kernel_rfl) (by kernel_rfl) (fun _ _ _ h => h) (Or.inl ⟨by rfl, ?hy3⟩) hHeld ?rest3
              case hy3 => (intro W hSw; (try dsimp only at hSw); have z4 := hSw.cell0 d4; have z5 := hSw.cell0 d5; go_simp; all_goals (with_reducible rfl))
              change wpAnyH _ _ _ _ _ _ _ (Act.put _ (some 38) _) _
              simp only [Act.put, List.setIfInBounds_toArray, List.set_cons_zero, List.set_cons_succ]
              refine wpAnyH_take (i := 5) (v := ?v5) rfl (by kernel_rfl) (by kernel_rfl) (by kernel_rfl) (fun _ _ _ h => h) (Or.inl ⟨by rfl, ?hy5⟩) hHeld ?rest5
              case hy5 => (intro W hSw; (try dsimp only at hSw); have z4 := hSw.cell0 d4; have z5 := hSw.cell0 d5; go_simp; all_goals (with_reducible rfl))
              change wpAnyH _ _ _ _ _ _ _ (Act.put _ (some 40) _) _
              simp only [Act.put, List.setIfInBounds_toArray, List.set_cons_zero, List.set_cons_succ]
              refine wpAnyH_take (i := 2) (v := ?v2) rfl (by kernel_rfl) (by kernel_rfl) (by kernel_rfl) (fun _ _ _ h => h) (Or.inl ⟨by rfl, ?hy2⟩) hHeld ?rest2
              case hy2 => (intro W hSw; (try dsimp only at hSw); have z4 := hSw.cell0 d4; have z5 := hSw.cell0 d5; go_simp; all_goals (with_reducible rfl))
              change wpAnyH _ _ _ _ _ _ _ (Act.put _ (some 37) _) _
              simp only [Act.put, List.setIfInBounds_toArray, List.set_cons_zero, List.set_cons_succ]
              refine wpAnyH_take (i := 4) (v := ?v4) rfl (by kernel_rfl) (by kernel_rfl) (by kernel_rfl) (fun _ _ _ h => h) (Or.inl ⟨by rfl, ?hy4⟩) hHeld ?rest4
              case hy4 => (intro W hSw; (try dsimp only at hSw); have z4 := hSw.cell0 d4; have z5 := hSw.cell0 d5; go_simp; all_goals (with_reducible rfl))
              change wpAnyH _ _ _ _ _ _ _ (Act.put _ (some 39) _) _
              simp only [Act.put, List.setIfInBounds_toArray, List.set_cons_zero, List.set_cons_succ]
              refine wpAnyH_ready (rs := [6]) (by kernel_rfl) (by simp) ?_
              refine AllReadyH.cons rfl (fun K hK => ?_) AllReadyH.nil
              try simp only [List.getElem_toArray, List.getElem_cons_succ, List.getElem_cons_zero]
              go_simp
              refine (HR.out _).mono ?_
              rintro e v ⟨rfl, rfl⟩
              refine hK.out _ _ hHeld (fun hHeld => ?_)
              clear hK K
              refine wpAnyH_take (i := 7) (v := ?v7) rfl (by kernel_rfl) (by kernel_rfl) (by kernel_rfl) (fun _ _ _ h => h) (Or.inl ⟨by rfl, ?hy7⟩) hHeld ?rest7
              case hy7 => (intro W hSw; (try dsimp only at hSw); have z4 := hSw.cell0 d4; have z5 := hSw.cell0 d5; go_simp; all_goals (with_reducible rfl))
              change wpAnyH _ _ _ _ _ _ _ (Act.put _ (some 42) _) _
              simp only [Act.put, List.setIfInBounds_toArray, List.set_cons_zero, List.set_cons_succ]
              refine wpAnyH_take (i := 8) (v := ?v8) rfl (by kernel_rfl) (by kernel_rfl) (by kernel_rfl) (fun _ _ _ h => h) (Or.inl ⟨by rfl, ?hy8⟩) hHeld ?rest8
              case hy8 => (intro W hSw; (try dsimp only at hSw); have z4 := hSw.cell0 d4; have z5 := hSw.cell0 d5; go_simp; all_goals (with_reducible rfl))
              change wpAnyH _ _ _ _ _ _ _ (Act.put _ (some 43) _) _
              simp only [Act.put, List.setIfInBounds_toArray, List.set_cons_zero, List.set_cons_succ]
              refine wpAnyH_take (i := 9) (v := ?v9) rfl (by kernel_rfl) (by kernel_rfl) (by kernel_rfl) (fun _ _ _ h => h) (Or.inl ⟨by rfl, ?hy9⟩) hHeld ?rest9
              case hy9 => (intro W hSw; (try dsimp only at hSw); have z4 := hSw.cell0 d4; have z5 := hSw.cell0 d5; go_simp; all_goals (with_reducible rfl))
              change wpAnyH _ _ _ _ _ _ _ (Act.put _ (some 44) _) _
              simp only [Act.put, List.setIfInBounds_toArray, List.set_cons_zero, List.set_cons_succ]
              refine wpAnyH_take (i := 10) (v := ?v10) rfl (by kernel_rfl) (by kernel_rfl) (by kernel_rfl) (fun _ _ _ h => h) (Or.inl ⟨by rfl, ?hy10⟩) hHeld ?rest10
              case hy10 => (intro W hSw; (try dsimp only at hSw); have z4 := hSw.cell0 d4; have z5 := hSw.cell0 d5; go_simp; all_goals (with_reducible rfl))
              change wpAnyH _ _ _ _ _ _ _ (Act.put _ (some 5) _) _
              simp only [Act.put, List.setIfInBounds_toArray, List.set_cons_zero, List.set_cons_succ]
              refine wpAnyH_done (by kernel_rfl) ?_ _
              have HF3 := hide (HF2.out.join (Fr.drew1 (fun _ => False) w2))
              clear hHeld HF2
              go_wp2
              go_roundw
              case rel => exact ⟨k + 1, S + ph * (1 + V), hlt, by go_num, by rw [HW1.out, HW2.out, HW3.out], HBD3.out.1, HBD3.out.2, HSN2.out, HOK2.out, HF3.out⟩
              case measure => simp [intOf]; omega
            · have hr : rowsP b ⟨x, y, dx, dy, pw, ph⟩ = 0 := if_neg hp0
              rw [hr] at HBD2 HSN2
              clear hr
              go_wp2_with (go_at_call 23; first | (refine (calls_args (side_c pw _) (by rfl)).mono ?_; rintro e w3 ⟨rfl, h1⟩; replace h1 := h1.symm; subst h1; rw [hs1]) | (refine (calls_args (side_c ph _) (by rfl)).mono ?_; rintro e w3 ⟨rfl, h1⟩; replace h1 := h1.symm; subst h1; rw [hs2]))
              go_roundw
              case rel => exact ⟨k + 1, S, hlt, by go_num, rfl, hS0, hS1, by show _ = _; rw [← HSN2.out]; omega, HOK2.out, HF2.out⟩
              case measure => simp [intOf]; omega
      · have hke : k = l.length := by omega
        subst hke
        rw [List.take_length] at HS
        have HZ := hide (bytesV_yes h7 HB.out HK.out)
        go_wp2
        go_ret
        exact ⟨ret0 (by rw [HZ.out, HS.out]), HF.out⟩
end Go.Proofs.YtdnhndiaiejkoaaDoor
