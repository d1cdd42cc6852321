/-
  depth: DepthPixel.
-/
import Derived.Test.YthdilabmajaehaaXc
namespace Go.Proofs.Ythdilabmajaehaa
open Go.RowKit

/-- One sample set. -/
theorem Own.set1 {w : World} {lo g n c k v : Nat} {px : List Nat} (h : Own w lo (some ⟨g, 0, none⟩) n c px) (hv : v < 65536) :
    Own (w.setCell ⟨g, k, none⟩ (.int .u16 (v : Int))) lo (some ⟨g, 0, none⟩) n c (px.set k v) := by
  have hl := h.len
  rcases h.own.2 with ⟨e, _⟩ | ⟨g', cap, cur, hvv, hg, hh, hc, hm, hs, ht⟩
  · cases e
  cases hvv
  refine ⟨⟨by simp [cellsU]; omega, Or.inr ⟨g, c, _, rfl, hg, heap_setCell_own _ hh, hc, hm, by simpa using hs, ?_⟩⟩, fun b hb => ?_⟩
  · rw [Nat.mul_one] at ht ⊢
    rw [Array.toList_setIfInBounds, List.take_set, ht]
    simp [cellsU, List.map_set]
  · rcases List.mem_or_eq_of_mem_set hb with hb | hb
    · exact h.small b hb
    · rw [hb]; exact hv

/-- One sample changed: the others are bytes' still. -/
theorem allE_set {px : List Nat} {k s : Nat} (hk : k < px.length) (h : allE px = true) : allE (px.set k s) = eightOk s := by
  unfold allE at h ⊢
  rw [List.all_eq_true] at h
  cases he : eightOk s with
  | true =>
    rw [List.all_eq_true]
    intro x hx
    rcases List.mem_or_eq_of_mem_set hx with h1 | h1
    · exact h x h1
    · rw [h1]; exact he
  | false =>
    rw [List.all_eq_false]
    refine ⟨s, ?_, by simp [he]⟩
    have e : (px.set k s)[k]? = some s := by rw [List.getElem?_set_self hk]
    exact List.mem_of_getElem? e

theorem fitsV_two {px : List Nat} {m : Nat} (h : fitsV 2 px m = true) : allE px = true := by
  unfold fitsV fitsG at h
  rw [if_neg (by decide), if_pos rfl, Bool.and_eq_true] at h
  exact h.1

/-- What DepthPixel asks of the numbers. -/
theorem pixel_facts {px : List Nat} {k s m : Nat} (hk : k < px.length) (q : List Nat) (hq : q = px.set k s) : ∃ (B B3 G E : Bool) (r : Nat), fitsV 3 px m = B ∧ fitsV 3 q m = B3 ∧ fitsV 2 q m = G ∧ (s : Int).tmod 257 = (r : Int) ∧ r < 257 ∧ ((r : Int) == 0) = E ∧ (B = true → B3 = E) ∧ (G = true → B3 = true) ∧ fitsV 1 q m = true ∧ fitsV 0 q m = false ∧ fitsV 4 q m = false := by
  obtain ⟨r, hr, hrb, hre⟩ := eight_nums s
  have h3 : ∀ x : List Nat, fitsV 3 x m = allE x := fun x => by unfold fitsV; rw [if_neg (by decide), if_neg (by decide), if_pos rfl]
  refine ⟨_, _, _, decide (r = 0), r, rfl, rfl, rfl, hr, hrb, ?_, ?_, ?_, ?_, ?_, ?_⟩
  · by_cases h : r = 0
    · rw [h]; rfl
    · rw [decide_eq_false h]; exact beq_false_of_ne (by omega)
  · rw [h3, h3, hq]
    intro h
    rw [allE_set hk h, hre]
  · rw [h3]
    exact fitsV_two
  · unfold fitsV; rw [if_pos rfl]
  · unfold fitsV; rw [if_neg (by decide), if_neg (by decide), if_neg (by decide)]
  · unfold fitsV; rw [if_neg (by decide), if_neg (by decide), if_neg (by decide)]

set_option maxHeartbeats 1000000 in
set_option maxRecDepth 100000 in
theorem pixel_law (W H : Int) (a : Option Addr) (n c : Nat) (px : List Nat) (at_ s : Nat) (w : World) (hl : Lies w a px) (hp : px.length = n) (hc : n ≤ c) (hnil : a = none → n = 0 ∧ c = 0) (hat : at_ < 65536) (hs16 : s < 65536) :
    Calls Try.prog 6 #[rasV W H a n c, .int .u16 (at_ : Int), .int .u16 (s : Int)] w fun e w' => e = .returned (.bool true) ∧ Fr (fun _ => False) w w' := by
  obtain ⟨w1, hw1⟩ : ∃ w1, w1 = w.alloc (.cells #[.int .i64 W, .int .i64 H, .slice a n c] 24) := ⟨_, rfl⟩
  have hb1 : w1.heap[w.heap.size]? = some (.cells #[.int .i64 W, .int .i64 H, .slice a n c] 24 (0, 0)) := by rw [hw1]; exact heap_alloc_at rfl
  have hF1 : Fr (fun _ => False) w w1 := by rw [hw1]; exact Fr.of_alloc _ _
  obtain ⟨R, hR⟩ : ∃ R, R = w.heap.size := ⟨_, rfl⟩
  have HRw : Hid (R < w1.heap.size) := by rw [hR]; exact lt_of hb1
  rw [← hR] at hb1
  have HA := hide (awake9_c w1)
  have HL1 := hide (hl.keep0 hF1)
  have Hb1 := hide hb1
  have HF1 := hide hF1
  have Hw1 := hide hw1
  have HR := hide hR
  have Hp := hide hp
  have Hc := hide hc
  have Hnil := hide hnil
  have HM := hide (rmay_c W H a n c w1)
  have k0 := cell_of (o := 0) hb1 rfl
  have k1 := cell_of (o := 1) hb1 rfl
  have k2 := cell_of (o := 2) hb1 rfl
  clear hl hp hc hnil hb1 hF1 hw1 hR
  go_enter Try.func6, Try.ntmps6
  go_wp2_with fail
  rw [← Hw1.out, ← HR.out]
  refine HA.out.mono ?_
  rintro e w2 ⟨rfl, rfl⟩
  by_cases hbig : (4000 : Int) < (n : Int)
  · go_wp2_with fail
    go_ret
    exact ⟨rfl, HF1.out⟩
  have hn4 : n ≤ 4000 := by omega
  go_wp2_with fail
  refine HM.out.mono ?_
  rintro e w3 ⟨rfl, hF⟩
  have HF3 := hide (HF1.out.join hF)
  have Hb3 := hide (cells_at Hb1.out hF (fun e => e))
  have HL3 := hide (HL1.out.keep0 hF)
  have HS3 : Hid (w2.heap.size ≤ w3.heap.size) := hF.size
  clear hF k0 k1 k2
  cases hmay : mayB W H n with
  | false =>
    go_wp2_with fail
    go_ret
    exact ⟨rfl, HF3.out⟩
  | true =>
  obtain ⟨m, hm, hnm, hmb, hm1⟩ := may_nums hmay
  have hn0 : 0 < n := by omega
  obtain ⟨g, o, rfl, hgl⟩ := HL1.out.form (by rw [Hp.out]; exact hn0)
  have HFY := hide fun (f : Int) (b : Nat) (o : Nat) (cc : Nat) (q : List Nat) (hq : q.length = n) (hcc : n ≤ cc) (w : World) (h : Lies w (some ⟨b, o, none⟩) q) => fits_yes W H f (some ⟨b, o, none⟩) n cc m q w h hq hcc hmay hm
  have HRY := hide fun (b : Nat) (o : Nat) (cc : Nat) (q : List Nat) (hq : q.length = n) (hcc : n ≤ cc) (w : World) (h : Lies w (some ⟨b, o, none⟩) q) => rfits_yes W H 2 (some ⟨b, o, none⟩) n cc m q w h hq hcc hmay hm (by decide) (by decide)
  have Hgl := hide hgl
  have HC := hide (rcopy_c W H (some ⟨g, o, none⟩) n c px w3 HL3.out Hp.out Hnil.out (by omega))
  have Hmay := hide hmay
  clear hm hnm hmb hm1 hgl hmay
  have k0 := cell_of (o := 0) Hb3.out rfl
  have k1 := cell_of (o := 1) Hb3.out rfl
  have k2 := cell_of (o := 2) Hb3.out rfl
  go_wp2_with fail
  refine HC.out.mono ?_
  rintro e w4 ⟨a4, c4, rfl, ho, hF⟩
  obtain ⟨g4, cur, rfl, _, _, hc4, _⟩ := ho.form hn0
  have Hc4 := hide hc4
  have HO4 := hide ho
  have HF4 := hide (HF3.out.join hF)
  have Hb4 := hide (cells_at Hb3.out hF (fun e => e))
  have HL4 := hide (HL3.out.keep0 hF)
  clear k0 k1 k2 hF ho hc4
  obtain ⟨w5, hw5⟩ : ∃ w5, w5 = w4.alloc (.cells #[.int .i64 W, .int .i64 H, .slice (some ⟨g4, 0, none⟩) n c4] 24) := ⟨_, rfl⟩
  obtain ⟨Q, hQ⟩ : ∃ Q, Q = w4.heap.size := ⟨_, rfl⟩
  have hF : Fr (fun _ => False) w4 w5 := by rw [hw5]; exact Fr.of_alloc _ _
  have HQ5 : Hid (w5.heap[Q]? = some (.cells #[.int .i64 W, .int .i64 H, .slice (some ⟨g4, 0, none⟩) n c4] 24 (0, 0))) := by rw [hw5]; exact heap_alloc_at hQ
  have HO5 := hide (HO4.out.keep hF fun _ _ h => h)
  have HF5 := hide (HF4.out.join hF)
  have Hb5 := hide (cells_at Hb4.out hF (fun e => e))
  have HL5 := hide (HL4.out.keep0 hF)
  have Hw5 := hide hw5
  have HgQ : Hid (g4 < Q) := by rw [hQ]; exact HO4.out.lt.2
  have Hg3 : Hid (w3.heap.size ≤ g4) := HO4.out.lt.1
  have HQe := hide hQ
  have q2 := cell_of (o := 2) HQ5.out rfl
  rw [hw5, hQ] at q2
  clear hF hw5 hQ
  obtain ⟨k, hk⟩ : ∃ k, k = at_ % n := ⟨_, rfl⟩
  have hkn : k < n := by rw [hk]; exact Nat.mod_lt _ hn0
  have hkm : (at_ : Int).tmod (n : Int) = (k : Int) := by rw [Int.tmod_eq_emod_of_nonneg (by omega), hk]; omega
  have hn1 : ((n : Int) == 0) = false := beq_false_of_ne (by omega)
  have hn2 : ¬ n = 0 := by omega
  have hki : (k : Int) < (n : Int) := by omega
  clear hk
  obtain ⟨g', cur5, e5, _, hg5, _, hcs5, _⟩ := HO5.out.form hn0
  cases e5
  have z0 := HO5.out.lies.cell (j := k) (by have := Hp.out; omega)
  rw [Nat.zero_add] at z0
  have z1 : w5.frozen? ⟨g4, k, none⟩ = false := frozen_of hg5
  rw [Hw5.out] at z0 z1
  obtain ⟨w6, hw6⟩ : ∃ w6, w6 = w5.setCell ⟨g4, k, none⟩ (.int .u16 (s : Int)) := ⟨_, rfl⟩
  obtain ⟨q, hq⟩ : ∃ q, q = px.set k s := ⟨_, rfl⟩
  have hG : Fr (fun i => i = g4) w5 w6 := by rw [hw6]; exact Fr.of_setCell w5 ⟨g4, k, none⟩ _
  have HO6 : Hid (Own w6 w3.heap.size (some ⟨g4, 0, none⟩) n c4 q) := by rw [hw6, hq]; exact HO5.out.set1 hs16
  have HF6 : Hid (Fr (fun _ => False) w w6) := frJ HF5.out hG fun i e => by
    have e2 : i = g4 := e
    have := Hg3.out
    have := HF3.out.size
    omega
  have Hb6 := hide (cells_at Hb5.out hG (fun e => by
    have e2 : R = g4 := e
    have := Hg3.out
    have := HS3.out
    have := HRw.out
    omega))
  have HQ6 := hide (cells_at HQ5.out hG (fun e => by
    have e2 : Q = g4 := e
    have := HgQ.out
    omega))
  have HL6 := hide (HL5.out.keep hG fun ad e _ e2 => by
    cases e
    have e3 : g = g4 := e2
    have := Hg3.out
    have := HS3.out
    have := Hgl.out
    omega)
  have Hql : Hid (q.length = n) := by show _ = _; rw [hq, List.length_set]; exact Hp.out
  have Hw6 := hide hw6
  rw [Hw5.out] at hw6
  obtain ⟨B, B3, G, E, r, f1, f2, f3, hr, hrb, hE, h1, h2, f4, f5, f6⟩ := pixel_facts (m := m) (by rw [Hp.out]; exact hkn) q hq
  have HX := hide (HFY.out 3 g o c px Hp.out Hc.out w6 HL6.out)
  rw [f1] at HX
  have HB3 := hide fun (w : World) (h : Lies w (some ⟨g4, 0, none⟩) q) => HFY.out 3 g4 0 c4 q Hql.out Hc4.out w h
  have HG2 := hide fun (w : World) (h : Lies w (some ⟨g4, 0, none⟩) q) => HFY.out 2 g4 0 c4 q Hql.out Hc4.out w h
  have HR2 := hide fun (w : World) (h : Lies w (some ⟨g4, 0, none⟩) q) => HRY.out g4 0 c4 q Hql.out Hc4.out w h
  have HP1 := hide fun (w : World) (h : Lies w (some ⟨g4, 0, none⟩) q) => HFY.out 1 g4 0 c4 q Hql.out Hc4.out w h
  have HP0 := hide fun (w : World) (h : Lies w (some ⟨g4, 0, none⟩) q) => HFY.out 0 g4 0 c4 q Hql.out Hc4.out w h
  have HP4 := hide fun (w : World) (h : Lies w (some ⟨g4, 0, none⟩) q) => HFY.out 4 g4 0 c4 q Hql.out Hc4.out w h
  simp only [f2, f3, f4, f5, f6] at HB3 HG2 HR2 HP1 HP0 HP4
  have Hr := hide hr
  have HE := hide hE
  have H1 := hide h1
  have H2 := hide h2
  have k0 := cell_of (o := 0) Hb6.out rfl
  have k1 := cell_of (o := 1) Hb6.out rfl
  have k2 := cell_of (o := 2) Hb6.out rfl
  rw [hw6] at k0 k1 k2
  rw [Hw5.out] at Hw6
  clear hq hG hw6 f1 f2 f3 f4 f5 f6 hr hrb hE h1 h2 hg5 hcs5 hbig
  go_wp2_with fail
  rw [← Hw6.out, ← HQe.out]
  refine HX.out.mono ?_
  rintro e w7 ⟨hF, rfl⟩
  have HF7 := hide (HF6.out.join hF)
  have HQ7 := hide (cells_at HQ6.out hF (fun e => e))
  have HO7 := hide (HO6.out.keep hF fun _ _ h => h)
  clear hF k0 k1 k2 q2 z0 z1
  have k0 := cell_of (o := 0) HQ7.out rfl
  have k1 := cell_of (o := 1) HQ7.out rfl
  have k2 := cell_of (o := 2) HQ7.out rfl
  have hr := Hr.out
  have hE := HE.out
  cases B with
  | false =>
    clear hr hE
    have HC8 := hide (HG2.out w7 HO7.out.lies)
    go_wp2_with fail
    refine HC8.out.mono ?_
    rintro e w8 ⟨hF, rfl⟩
    have HF8 := hide (HF7.out.join hF)
    have HQ8 := hide (cells_at HQ7.out hF (fun e => e))
    have HO8 := hide (HO7.out.keep hF fun _ _ h => h)
    clear hF k0 k1 k2
    have k0 := cell_of (o := 0) HQ8.out rfl
    have k1 := cell_of (o := 1) HQ8.out rfl
    have k2 := cell_of (o := 2) HQ8.out rfl
    cases G with
    | false =>
      have HG := HG2
      have HR := HR2
      go_upto_region 13 with fail
      clear k0 k1 k2
      refine wp_region_held_drew (S := fun W' => Fr (fun _ => False) w8 W') (by kernel_rfl) (by exact Fr.drew1 _ w8) (fun hHeld => ?_)
      refine wpAnyH_take (i := 0) (v := ?v0a) rfl (by kernel_rfl) (by kernel_rfl) (by kernel_rfl) (fun _ _ _ h => h) (Or.inl ⟨by rfl, ?hy0a⟩) hHeld ?rest0a
      case hy0a => (intro W hSw; (try dsimp only at hSw); have hcs := cells_at HQ8.out hSw (fun e => e); have k0 := cell_of (o := 0) hcs rfl; have k1 := cell_of (o := 1) hcs rfl; have k2 := cell_of (o := 2) hcs rfl; go_simp; all_goals (with_reducible rfl))
      change wpAnyH _ _ _ _ _ _ _ (Act.put _ (some 52) _) _
      simp only [Act.put, List.setIfInBounds_toArray, List.set_cons_zero, List.set_cons_succ]
      refine wpAnyH_ready (rs := [1]) (by kernel_rfl) (by simp) ?_
      refine AllReadyH.cons rfl (fun K hK => ?_) AllReadyH.nil
      try simp only [List.getElem_toArray, List.getElem_cons_succ, List.getElem_cons_zero]
      go_simp
      refine (HP1.out _ (HO8.out.lies.keep0 hHeld)).mono ?_
      rintro e v1 ⟨hV1, rfl⟩
      refine hK.out _ _ (hHeld.join hV1) (fun hHeld => ?_)
      clear hK K
      refine wpAnyH_take (i := 2) (v := ?v2a) rfl (by kernel_rfl) (by kernel_rfl) (by kernel_rfl) (fun _ _ _ h => h) (Or.inl ⟨by rfl, ?hy2a⟩) hHeld ?rest2a
      case hy2a => (intro W hSw; (try dsimp only at hSw); have hcs := cells_at HQ8.out hSw (fun e => e); have k0 := cell_of (o := 0) hcs rfl; have k1 := cell_of (o := 1) hcs rfl; have k2 := cell_of (o := 2) hcs rfl; go_simp; all_goals (with_reducible rfl))
      change wpAnyH _ _ _ _ _ _ _ (Act.put _ (some 54) _) _
      simp only [Act.put, List.setIfInBounds_toArray, List.set_cons_zero, List.set_cons_succ]
      refine wpAnyH_take (i := 3) (v := ?v3a) rfl (by kernel_rfl) (by kernel_rfl) (by kernel_rfl) (fun _ _ _ h => h) (Or.inl ⟨by rfl, ?hy3a⟩) hHeld ?rest3a
      case hy3a => (intro W hSw; (try dsimp only at hSw); have hcs := cells_at HQ8.out hSw (fun e => e); have k0 := cell_of (o := 0) hcs rfl; have k1 := cell_of (o := 1) hcs rfl; have k2 := cell_of (o := 2) hcs rfl; go_simp; all_goals (with_reducible rfl))
      change wpAnyH _ _ _ _ _ _ _ (Act.put _ (some 55) _) _
      simp only [Act.put, List.setIfInBounds_toArray, List.set_cons_zero, List.set_cons_succ]
      refine wpAnyH_take (i := 5) (v := ?v5a) rfl (by kernel_rfl) (by kernel_rfl) (by kernel_rfl) (fun _ _ _ h => h) (Or.inl ⟨by rfl, ?hy5a⟩) hHeld ?rest5a
      case hy5a => (intro W hSw; (try dsimp only at hSw); have hcs := cells_at HQ8.out hSw (fun e => e); have k0 := cell_of (o := 0) hcs rfl; have k1 := cell_of (o := 1) hcs rfl; have k2 := cell_of (o := 2) hcs rfl; go_simp; all_goals (with_reducible rfl))
      change wpAnyH _ _ _ _ _ _ _ (Act.put _ (some 57) _) _
      simp only [Act.put, List.setIfInBounds_toArray, List.set_cons_zero, List.set_cons_succ]
      refine wpAnyH_ready (rs := [4]) (by kernel_rfl) (by simp) ?_
      refine AllReadyH.cons rfl (fun K hK => ?_) AllReadyH.nil
      try simp only [List.getElem_toArray, List.getElem_cons_succ, List.getElem_cons_zero]
      go_simp
      refine (HG.out _ (HO8.out.lies.keep0 hHeld)).mono ?_
      rintro e v4 ⟨hV4, rfl⟩
      refine hK.out _ _ (hHeld.join hV4) (fun hHeld => ?_)
      clear hK K
      refine wpAnyH_ready (rs := [6]) (by kernel_rfl) (by simp) ?_
      refine AllReadyH.cons rfl (fun K hK => ?_) AllReadyH.nil
      try simp only [List.getElem_toArray, List.getElem_cons_succ, List.getElem_cons_zero]
      go_simp
      refine (HR.out _ (HO8.out.lies.keep0 hHeld)).mono ?_
      rintro e v6 ⟨hV6, rfl⟩
      refine hK.out _ _ (hHeld.join hV6) (fun hHeld => ?_)
      clear hK K
      refine wpAnyH_take (i := 7) (v := ?v7a) rfl (by kernel_rfl) (by kernel_rfl) (by kernel_rfl) (fun _ _ _ h => h) (Or.inl ⟨by rfl, ?hy7a⟩) hHeld ?rest7a
      case hy7a => (intro W hSw; (try dsimp only at hSw); have hcs := cells_at HQ8.out hSw (fun e => e); have k0 := cell_of (o := 0) hcs rfl; have k1 := cell_of (o := 1) hcs rfl; have k2 := cell_of (o := 2) hcs rfl; go_simp; all_goals (with_reducible rfl))
      change wpAnyH _ _ _ _ _ _ _ (Act.put _ (some 59) _) _
      simp only [Act.put, List.setIfInBounds_toArray, List.set_cons_zero, List.set_cons_succ]
      refine wpAnyH_take (i := 8) (v := ?v8a) rfl (by kernel_rfl) (by kernel_rfl) (by kernel_rfl) (fun _ _ _ h => h) (Or.inl ⟨by rfl, ?hy8a⟩) hHeld ?rest8a
      case hy8a => (intro W hSw; (try dsimp only at hSw); have hcs := cells_at HQ8.out hSw (fun e => e); have k0 := cell_of (o := 0) hcs rfl; have k1 := cell_of (o := 1) hcs rfl; have k2 := cell_of (o := 2) hcs rfl; go_simp; all_goals (with_reducible rfl))
      change wpAnyH _ _ _ _ _ _ _ (Act.put _ (some 60) _) _
      simp only [Act.put, List.setIfInBounds_toArray, List.set_cons_zero, List.set_cons_succ]
      refine wpAnyH_take (i := 9) (v := ?v9a) rfl (by kernel_rfl) (by kernel_rfl) (by kernel_rfl) (fun _ _ _ h => h) (Or.inl ⟨by rfl, ?hy9a⟩) hHeld ?rest9a
      case hy9a => (intro W hSw; (try dsimp only at hSw); have hcs := cells_at HQ8.out hSw (fun e => e); have k0 := cell_of (o := 0) hcs rfl; have k1 := cell_of (o := 1) hcs rfl; have k2 := cell_of (o := 2) hcs rfl; go_simp; all_goals (with_reducible rfl))
      change wpAnyH _ _ _ _ _ _ _ (Act.put _ (some 61) _) _
      simp only [Act.put, List.setIfInBounds_toArray, List.set_cons_zero, List.set_cons_succ]
      refine wpAnyH_take (i := 10) (v := ?v10a) rfl (by kernel_rfl) (by kernel_rfl) (by kernel_rfl) (fun _ _ _ h => h) (Or.inl ⟨by rfl, ?hy10a⟩) hHeld ?rest10a
      case hy10a => (intro W hSw; (try dsimp only at hSw); have hcs := cells_at HQ8.out hSw (fun e => e); have k0 := cell_of (o := 0) hcs rfl; have k1 := cell_of (o := 1) hcs rfl; have k2 := cell_of (o := 2) hcs rfl; go_simp; all_goals (with_reducible rfl))
      change wpAnyH _ _ _ _ _ _ _ (Act.put _ (some 62) _) _
      simp only [Act.put, List.setIfInBounds_toArray, List.set_cons_zero, List.set_cons_succ]
      refine wpAnyH_ready (rs := [11]) (by kernel_rfl) (by simp) ?_
      refine AllReadyH.cons rfl (fun K hK => ?_) AllReadyH.nil
      try simp only [List.getElem_toArray, List.getElem_cons_succ, List.getElem_cons_zero]
      go_simp
      refine (HP0.out _ (HO8.out.lies.keep0 hHeld)).mono ?_
      rintro e v11 ⟨hV11, rfl⟩
      refine hK.out _ _ (hHeld.join hV11) (fun hHeld => ?_)
      clear hK K
      refine wpAnyH_take (i := 12) (v := ?v12a) rfl (by kernel_rfl) (by kernel_rfl) (by kernel_rfl) (fun _ _ _ h => h) (Or.inl ⟨by rfl, ?hy12a⟩) hHeld ?rest12a
      case hy12a => (intro W hSw; (try dsimp only at hSw); have hcs := cells_at HQ8.out hSw (fun e => e); have k0 := cell_of (o := 0) hcs rfl; have k1 := cell_of (o := 1) hcs rfl; have k2 := cell_of (o := 2) hcs rfl; go_simp; all_goals (with_reducible rfl))
      change wpAnyH _ _ _ _ _ _ _ (Act.put _ (some 64) _) _
      simp only [Act.put, List.setIfInBounds_toArray, List.set_cons_zero, List.set_cons_succ]
      refine wpAnyH_take (i := 13) (v := ?v13a) rfl (by kernel_rfl) (by kernel_rfl) (by kernel_rfl) (fun _ _ _ h => h) (Or.inl ⟨by rfl, ?hy13a⟩) hHeld ?rest13a
      case hy13a => (intro W hSw; (try dsimp only at hSw); have hcs := cells_at HQ8.out hSw (fun e => e); have k0 := cell_of (o := 0) hcs rfl; have k1 := cell_of (o := 1) hcs rfl; have k2 := cell_of (o := 2) hcs rfl; go_simp; all_goals (with_reducible rfl))
      change wpAnyH _ _ _ _ _ _ _ (Act.put _ (some 65) _) _
      simp only [Act.put, List.setIfInBounds_toArray, List.set_cons_zero, List.set_cons_succ]
      refine wpAnyH_take (i := 14) (v := ?v14a) rfl (by kernel_rfl) (by kernel_rfl) (by kernel_rfl) (fun _ _ _ h => h) (Or.inl ⟨by rfl, ?hy14a⟩) hHeld ?rest14a
      case hy14a => (intro W hSw; (try dsimp only at hSw); have hcs := cells_at HQ8.out hSw (fun e => e); have k0 := cell_of (o := 0) hcs rfl; have k1 := cell_of (o := 1) hcs rfl; have k2 := cell_of (o := 2) hcs rfl; go_simp; all_goals (with_reducible rfl))
      change wpAnyH _ _ _ _ _ _ _ (Act.put _ (some 66) _) _
      simp only [Act.put, List.setIfInBounds_toArray, List.set_cons_zero, List.set_cons_succ]
      refine wpAnyH_take (i := 15) (v := ?v15a) rfl (by kernel_rfl) (by kernel_rfl) (by kernel_rfl) (fun _ _ _ h => h) (Or.inl ⟨by rfl, ?hy15a⟩) hHeld ?rest15a
      case hy15a => (intro W hSw; (try dsimp only at hSw); have hcs := cells_at HQ8.out hSw (fun e => e); have k0 := cell_of (o := 0) hcs rfl; have k1 := cell_of (o := 1) hcs rfl; have k2 := cell_of (o := 2) hcs rfl; go_simp; all_goals (with_reducible rfl))
      change wpAnyH _ _ _ _ _ _ _ (Act.put _ (some 67) _) _
      simp only [Act.put, List.setIfInBounds_toArray, List.set_cons_zero, List.set_cons_succ]
      refine wpAnyH_ready (rs := [16]) (by kernel_rfl) (by simp) ?_
      refine AllReadyH.cons rfl (fun K hK => ?_) AllReadyH.nil
      try simp only [List.getElem_toArray, List.getElem_cons_succ, List.getElem_cons_zero]
      go_simp
      refine (HP4.out _ (HO8.out.lies.keep0 hHeld)).mono ?_
      rintro e v16 ⟨hV16, rfl⟩
      refine hK.out _ _ (hHeld.join hV16) (fun hHeld => ?_)
      clear hK K
      refine wpAnyH_take (i := 17) (v := ?v17a) rfl (by kernel_rfl) (by kernel_rfl) (by kernel_rfl) (fun _ _ _ h => h) (Or.inl ⟨by rfl, ?hy17a⟩) hHeld ?rest17a
      case hy17a => (intro W hSw; (try dsimp only at hSw); have hcs := cells_at HQ8.out hSw (fun e => e); have k0 := cell_of (o := 0) hcs rfl; have k1 := cell_of (o := 1) hcs rfl; have k2 := cell_of (o := 2) hcs rfl; go_simp; all_goals (with_reducible rfl))
      change wpAnyH _ _ _ _ _ _ _ (Act.put _ (some 69) _) _
      simp only [Act.put, List.setIfInBounds_toArray, List.set_cons_zero, List.set_cons_succ]
      refine wpAnyH_take (i := 18) (v := ?v18a) rfl (by kernel_rfl) (by kernel_rfl) (by kernel_rfl) (fun _ _ _ h => h) (Or.inl ⟨by rfl, ?hy18a⟩) hHeld ?rest18a
      case hy18a => (intro W hSw; (try dsimp only at hSw); have hcs := cells_at HQ8.out hSw (fun e => e); have k0 := cell_of (o := 0) hcs rfl; have k1 := cell_of (o := 1) hcs rfl; have k2 := cell_of (o := 2) hcs rfl; go_simp; all_goals (with_reducible rfl))
      change wpAnyH _ _ _ _ _ _ _ (Act.put _ (some 70) _) _
      simp only [Act.put, List.setIfInBounds_toArray, List.set_cons_zero, List.set_cons_succ]
      refine wpAnyH_take (i := 19) (v := ?v19a) rfl (by kernel_rfl) (by kernel_rfl) (by kernel_rfl) (fun _ _ _ h => h) (Or.inl ⟨by rfl, ?hy19a⟩) hHeld ?rest19a
      case hy19a => (intro W hSw; (try dsimp only at hSw); have hcs := cells_at HQ8.out hSw (fun e => e); have k0 := cell_of (o := 0) hcs rfl; have k1 := cell_of (o := 1) hcs rfl; have k2 := cell_of (o := 2) hcs rfl; go_simp; all_goals (with_reducible rfl))
      change wpAnyH _ _ _ _ _ _ _ (Act.put _ (some 6) _) _
      simp only [Act.put, List.setIfInBounds_toArray, List.set_cons_zero, List.set_cons_succ]
      refine wpAnyH_done (by kernel_rfl) ?_ _
      go_wp2_with fail
      go_ret
      exact ⟨by rfl, HF8.out.join hHeld⟩
    | true =>
      have HG := HG2
      have HR := HR2
      have HD8 := hide (HB3.out w8 HO8.out.lies)
      rw [H2.out rfl] at HD8
      go_wp2_with fail
      refine HD8.out.mono ?_
      rintro e w9 ⟨hF, rfl⟩
      have HF9 := hide (HF8.out.join hF)
      have HQ9 := hide (cells_at HQ8.out hF (fun e => e))
      have HO9 := hide (HO8.out.keep hF fun _ _ h => h)
      clear hF k0 k1 k2
      have k0 := cell_of (o := 0) HQ9.out rfl
      have k1 := cell_of (o := 1) HQ9.out rfl
      have k2 := cell_of (o := 2) HQ9.out rfl
      go_upto_region 13 with fail
      clear k0 k1 k2
      refine wp_region_held_drew (S := fun W' => Fr (fun _ => False) w9 W') (by kernel_rfl) (by exact Fr.drew1 _ w9) (fun hHeld => ?_)
      refine wpAnyH_take (i := 0) (v := ?v0b) rfl (by kernel_rfl) (by kernel_rfl) (by kernel_rfl) (fun _ _ _ h => h) (Or.inl ⟨by rfl, ?hy0b⟩) hHeld ?rest0b
      case hy0b => (intro W hSw; (try dsimp only at hSw); have hcs := cells_at HQ9.out hSw (fun e => e); have k0 := cell_of (o := 0) hcs rfl; have k1 := cell_of (o := 1) hcs rfl; have k2 := cell_of (o := 2) hcs rfl; go_simp; all_goals (with_reducible rfl))
      change wpAnyH _ _ _ _ _ _ _ (Act.put _ (some 52) _) _
      simp only [Act.put, List.setIfInBounds_toArray, List.set_cons_zero, List.set_cons_succ]
      refine wpAnyH_ready (rs := [1]) (by kernel_rfl) (by simp) ?_
      refine AllReadyH.cons rfl (fun K hK => ?_) AllReadyH.nil
      try simp only [List.getElem_toArray, List.getElem_cons_succ, List.getElem_cons_zero]
      go_simp
      refine (HP1.out _ (HO9.out.lies.keep0 hHeld)).mono ?_
      rintro e v1 ⟨hV1, rfl⟩
      refine hK.out _ _ (hHeld.join hV1) (fun hHeld => ?_)
      clear hK K
      refine wpAnyH_take (i := 2) (v := ?v2b) rfl (by kernel_rfl) (by kernel_rfl) (by kernel_rfl) (fun _ _ _ h => h) (Or.inl ⟨by rfl, ?hy2b⟩) hHeld ?rest2b
      case hy2b => (intro W hSw; (try dsimp only at hSw); have hcs := cells_at HQ9.out hSw (fun e => e); have k0 := cell_of (o := 0) hcs rfl; have k1 := cell_of (o := 1) hcs rfl; have k2 := cell_of (o := 2) hcs rfl; go_simp; all_goals (with_reducible rfl))
      change wpAnyH _ _ _ _ _ _ _ (Act.put _ (some 54) _) _
      simp only [Act.put, List.setIfInBounds_toArray, List.set_cons_zero, List.set_cons_succ]
      refine wpAnyH_take (i := 3) (v := ?v3b) rfl (by kernel_rfl) (by kernel_rfl) (by kernel_rfl) (fun _ _ _ h => h) (Or.inl ⟨by rfl, ?hy3b⟩) hHeld ?rest3b
      case hy3b => (intro W hSw; (try dsimp only at hSw); have hcs := cells_at HQ9.out hSw (fun e => e); have k0 := cell_of (o := 0) hcs rfl; have k1 := cell_of (o := 1) hcs rfl; have k2 := cell_of (o := 2) hcs rfl; go_simp; all_goals (with_reducible rfl))
      change wpAnyH _ _ _ _ _ _ _ (Act.put _ (some 55) _) _
      simp only [Act.put, List.setIfInBounds_toArray, List.set_cons_zero, List.set_cons_succ]
      refine wpAnyH_take (i := 5) (v := ?v5b) rfl (by kernel_rfl) (by kernel_rfl) (by kernel_rfl) (fun _ _ _ h => h) (Or.inl ⟨by rfl, ?hy5b⟩) hHeld ?rest5b
      case hy5b => (intro W hSw; (try dsimp only at hSw); have hcs := cells_at HQ9.out hSw (fun e => e); have k0 := cell_of (o := 0) hcs rfl; have k1 := cell_of (o := 1) hcs rfl; have k2 := cell_of (o := 2) hcs rfl; go_simp; all_goals (with_reducible rfl))
      change wpAnyH _ _ _ _ _ _ _ (Act.put _ (some 57) _) _
      simp only [Act.put, List.setIfInBounds_toArray, List.set_cons_zero, List.set_cons_succ]
      refine wpAnyH_ready (rs := [4]) (by kernel_rfl) (by simp) ?_
      refine AllReadyH.cons rfl (fun K hK => ?_) AllReadyH.nil
      try simp only [List.getElem_toArray, List.getElem_cons_succ, List.getElem_cons_zero]
      go_simp
      refine (HG.out _ (HO9.out.lies.keep0 hHeld)).mono ?_
      rintro e v4 ⟨hV4, rfl⟩
      refine hK.out _ _ (hHeld.join hV4) (fun hHeld => ?_)
      clear hK K
      refine wpAnyH_ready (rs := [6]) (by kernel_rfl) (by simp) ?_
      refine AllReadyH.cons rfl (fun K hK => ?_) AllReadyH.nil
      try simp only [List.getElem_toArray, List.getElem_cons_succ, List.getElem_cons_zero]
      go_simp
      refine (HR.out _ (HO9.out.lies.keep0 hHeld)).mono ?_
      rintro e v6 ⟨hV6, rfl⟩
      refine hK.out _ _ (hHeld.join hV6) (fun hHeld => ?_)
      clear hK K
      refine wpAnyH_take (i := 7) (v := ?v7b) rfl (by kernel_rfl) (by kernel_rfl) (by kernel_rfl) (fun _ _ _ h => h) (Or.inl ⟨by rfl, ?hy7b⟩) hHeld ?rest7b
      case hy7b => (intro W hSw; (try dsimp only at hSw); have hcs := cells_at HQ9.out hSw (fun e => e); have k0 := cell_of (o := 0) hcs rfl; have k1 := cell_of (o := 1) hcs rfl; have k2 := cell_of (o := 2) hcs rfl; go_simp; all_goals (with_reducible rfl))
      change wpAnyH _ _ _ _ _ _ _ (Act.put _ (some 59) _) _
      simp only [Act.put, List.setIfInBounds_toArray, List.set_cons_zero, List.set_cons_succ]
      refine wpAnyH_take (i := 8) (v := ?v8b) rfl (by kernel_rfl) (by kernel_rfl) (by kernel_rfl) (fun _ _ _ h => h) (Or.inl ⟨by rfl, ?hy8b⟩) hHeld ?rest8b
      case hy8b => (intro W hSw; (try dsimp only at hSw); have hcs := cells_at HQ9.out hSw (fun e => e); have k0 := cell_of (o := 0) hcs rfl; have k1 := cell_of (o := 1) hcs rfl; have k2 := cell_of (o := 2) hcs rfl; go_simp; all_goals (with_reducible rfl))
      change wpAnyH _ _ _ _ _ _ _ (Act.put _ (some 60) _) _
      simp only [Act.put, List.setIfInBounds_toArray, List.set_cons_zero, List.set_cons_succ]
      refine wpAnyH_take (i := 9) (v := ?v9b) rfl (by kernel_rfl) (by kernel_rfl) (by kernel_rfl) (fun _ _ _ h => h) (Or.inl ⟨by rfl, ?hy9b⟩) hHeld ?rest9b
      case hy9b => (intro W hSw; (try dsimp only at hSw); have hcs := cells_at HQ9.out hSw (fun e => e); have k0 := cell_of (o := 0) hcs rfl; have k1 := cell_of (o := 1) hcs rfl; have k2 := cell_of (o := 2) hcs rfl; go_simp; all_goals (with_reducible rfl))
      change wpAnyH _ _ _ _ _ _ _ (Act.put _ (some 61) _) _
      simp only [Act.put, List.setIfInBounds_toArray, List.set_cons_zero, List.set_cons_succ]
      refine wpAnyH_take (i := 10) (v := ?v10b) rfl (by kernel_rfl) (by kernel_rfl) (by kernel_rfl) (fun _ _ _ h => h) (Or.inl ⟨by rfl, ?hy10b⟩) hHeld ?rest10b
      case hy10b => (intro W hSw; (try dsimp only at hSw); have hcs := cells_at HQ9.out hSw (fun e => e); have k0 := cell_of (o := 0) hcs rfl; have k1 := cell_of (o := 1) hcs rfl; have k2 := cell_of (o := 2) hcs rfl; go_simp; all_goals (with_reducible rfl))
      change wpAnyH _ _ _ _ _ _ _ (Act.put _ (some 62) _) _
      simp only [Act.put, List.setIfInBounds_toArray, List.set_cons_zero, List.set_cons_succ]
      refine wpAnyH_ready (rs := [11]) (by kernel_rfl) (by simp) ?_
      refine AllReadyH.cons rfl (fun K hK => ?_) AllReadyH.nil
      try simp only [List.getElem_toArray, List.getElem_cons_succ, List.getElem_cons_zero]
      go_simp
      refine (HP0.out _ (HO9.out.lies.keep0 hHeld)).mono ?_
      rintro e v11 ⟨hV11, rfl⟩
      refine hK.out _ _ (hHeld.join hV11) (fun hHeld => ?_)
      clear hK K
      refine wpAnyH_take (i := 12) (v := ?v12b) rfl (by kernel_rfl) (by kernel_rfl) (by kernel_rfl) (fun _ _ _ h => h) (Or.inl ⟨by rfl, ?hy12b⟩) hHeld ?rest12b
      case hy12b => (intro W hSw; (try dsimp only at hSw); have hcs := cells_at HQ9.out hSw (fun e => e); have k0 := cell_of (o := 0) hcs rfl; have k1 := cell_of (o := 1) hcs rfl; have k2 := cell_of (o := 2) hcs rfl; go_simp; all_goals (with_reducible rfl))
      change wpAnyH _ _ _ _ _ _ _ (Act.put _ (some 64) _) _
      simp only [Act.put, List.setIfInBounds_toArray, List.set_cons_zero, List.set_cons_succ]
      refine wpAnyH_take (i := 13) (v := ?v13b) rfl (by kernel_rfl) (by kernel_rfl) (by kernel_rfl) (fun _ _ _ h => h) (Or.inl ⟨by rfl, ?hy13b⟩) hHeld ?rest13b
      case hy13b => (intro W hSw; (try dsimp only at hSw); have hcs := cells_at HQ9.out hSw (fun e => e); have k0 := cell_of (o := 0) hcs rfl; have k1 := cell_of (o := 1) hcs rfl; have k2 := cell_of (o := 2) hcs rfl; go_simp; all_goals (with_reducible rfl))
      change wpAnyH _ _ _ _ _ _ _ (Act.put _ (some 65) _) _
      simp only [Act.put, List.setIfInBounds_toArray, List.set_cons_zero, List.set_cons_succ]
      refine wpAnyH_take (i := 14) (v := ?v14b) rfl (by kernel_rfl) (by kernel_rfl) (by kernel_rfl) (fun _ _ _ h => h) (Or.inl ⟨by rfl, ?hy14b⟩) hHeld ?rest14b
      case hy14b => (intro W hSw; (try dsimp only at hSw); have hcs := cells_at HQ9.out hSw (fun e => e); have k0 := cell_of (o := 0) hcs rfl; have k1 := cell_of (o := 1) hcs rfl; have k2 := cell_of (o := 2) hcs rfl; go_simp; all_goals (with_reducible rfl))
      change wpAnyH _ _ _ _ _ _ _ (Act.put _ (some 66) _) _
      simp only [Act.put, List.setIfInBounds_toArray, List.set_cons_zero, List.set_cons_succ]
      refine wpAnyH_take (i := 15) (v := ?v15b) rfl (by kernel_rfl) (by kernel_rfl) (by kernel_rfl) (fun _ _ _ h => h) (Or.inl ⟨by rfl, ?hy15b⟩) hHeld ?rest15b
      case hy15b => (intro W hSw; (try dsimp only at hSw); have hcs := cells_at HQ9.out hSw (fun e => e); have k0 := cell_of (o := 0) hcs rfl; have k1 := cell_of (o := 1) hcs rfl; have k2 := cell_of (o := 2) hcs rfl; go_simp; all_goals (with_reducible rfl))
      change wpAnyH _ _ _ _ _ _ _ (Act.put _ (some 67) _) _
      simp only [Act.put, List.setIfInBounds_toArray, List.set_cons_zero, List.set_cons_succ]
      refine wpAnyH_ready (rs := [16]) (by kernel_rfl) (by simp) ?_
      refine AllReadyH.cons rfl (fun K hK => ?_) AllReadyH.nil
      try simp only [List.getElem_toArray, List.getElem_cons_succ, List.getElem_cons_zero]
      go_simp
      refine (HP4.out _ (HO9.out.lies.keep0 hHeld)).mono ?_
      rintro e v16 ⟨hV16, rfl⟩
      refine hK.out _ _ (hHeld.join hV16) (fun hHeld => ?_)
      clear hK K
      refine wpAnyH_take (i := 17) (v := ?v17b) rfl (by kernel_rfl) (by kernel_rfl) (by kernel_rfl) (fun _ _ _ h => h) (Or.inl ⟨by rfl, ?hy17b⟩) hHeld ?rest17b
      case hy17b => (intro W hSw; (try dsimp only at hSw); have hcs := cells_at HQ9.out hSw (fun e => e); have k0 := cell_of (o := 0) hcs rfl; have k1 := cell_of (o := 1) hcs rfl; have k2 := cell_of (o := 2) hcs rfl; go_simp; all_goals (with_reducible rfl))
      change wpAnyH _ _ _ _ _ _ _ (Act.put _ (some 69) _) _
      simp only [Act.put, List.setIfInBounds_toArray, List.set_cons_zero, List.set_cons_succ]
      refine wpAnyH_take (i := 18) (v := ?v18b) rfl (by kernel_rfl) (by kernel_rfl) (by kernel_rfl) (fun _ _ _ h => h) (Or.inl ⟨by rfl, ?hy18b⟩) hHeld ?rest18b
      case hy18b => (intro W hSw; (try dsimp only at hSw); have hcs := cells_at HQ9.out hSw (fun e => e); have k0 := cell_of (o := 0) hcs rfl; have k1 := cell_of (o := 1) hcs rfl; have k2 := cell_of (o := 2) hcs rfl; go_simp; all_goals (with_reducible rfl))
      change wpAnyH _ _ _ _ _ _ _ (Act.put _ (some 70) _) _
      simp only [Act.put, List.setIfInBounds_toArray, List.set_cons_zero, List.set_cons_succ]
      refine wpAnyH_take (i := 19) (v := ?v19b) rfl (by kernel_rfl) (by kernel_rfl) (by kernel_rfl) (fun _ _ _ h => h) (Or.inl ⟨by rfl, ?hy19b⟩) hHeld ?rest19b
      case hy19b => (intro W hSw; (try dsimp only at hSw); have hcs := cells_at HQ9.out hSw (fun e => e); have k0 := cell_of (o := 0) hcs rfl; have k1 := cell_of (o := 1) hcs rfl; have k2 := cell_of (o := 2) hcs rfl; go_simp; all_goals (with_reducible rfl))
      change wpAnyH _ _ _ _ _ _ _ (Act.put _ (some 6) _) _
      simp only [Act.put, List.setIfInBounds_toArray, List.set_cons_zero, List.set_cons_succ]
      refine wpAnyH_done (by kernel_rfl) ?_ _
      go_wp2_with fail
      go_ret
      exact ⟨by rfl, HF9.out.join hHeld⟩
  | true =>
    have HC8 := hide (HB3.out w7 HO7.out.lies)
    rw [H1.out rfl] at HC8
    go_wp2_with fail
    refine HC8.out.mono ?_
    rintro e w8 ⟨hF, rfl⟩
    have HF8 := hide (HF7.out.join hF)
    have HQ8 := hide (cells_at HQ7.out hF (fun e => e))
    have HO8 := hide (HO7.out.keep hF fun _ _ h => h)
    clear hF k0 k1 k2
    have k0 := cell_of (o := 0) HQ8.out rfl
    have k1 := cell_of (o := 1) HQ8.out rfl
    have k2 := cell_of (o := 2) HQ8.out rfl
    cases E with
    | false =>
      have HC9 := hide (HG2.out w8 HO8.out.lies)
      go_wp2_with fail
      refine HC9.out.mono ?_
      rintro e w9 ⟨hF, rfl⟩
      have HF9 := hide (HF8.out.join hF)
      have HQ9 := hide (cells_at HQ8.out hF (fun e => e))
      have HO9 := hide (HO8.out.keep hF fun _ _ h => h)
      clear hF k0 k1 k2
      have k0 := cell_of (o := 0) HQ9.out rfl
      have k1 := cell_of (o := 1) HQ9.out rfl
      have k2 := cell_of (o := 2) HQ9.out rfl
      cases G with
      | false =>
        have HG := HG2
        have HR := HR2
        go_upto_region 13 with fail
        clear k0 k1 k2
        refine wp_region_held_drew (S := fun W' => Fr (fun _ => False) w9 W') (by kernel_rfl) (by exact Fr.drew1 _ w9) (fun hHeld => ?_)
        refine wpAnyH_take (i := 0) (v := ?v0c) rfl (by kernel_rfl) (by kernel_rfl) (by kernel_rfl) (fun _ _ _ h => h) (Or.inl ⟨by rfl, ?hy0c⟩) hHeld ?rest0c
        case hy0c => (intro W hSw; (try dsimp only at hSw); have hcs := cells_at HQ9.out hSw (fun e => e); have k0 := cell_of (o := 0) hcs rfl; have k1 := cell_of (o := 1) hcs rfl; have k2 := cell_of (o := 2) hcs rfl; go_simp; all_goals (with_reducible rfl))
        change wpAnyH _ _ _ _ _ _ _ (Act.put _ (some 52) _) _
        simp only [Act.put, List.setIfInBounds_toArray, List.set_cons_zero, List.set_cons_succ]
        refine wpAnyH_ready (rs := [1]) (by kernel_rfl) (by simp) ?_
        refine AllReadyH.cons rfl (fun K hK => ?_) AllReadyH.nil
        try simp only [List.getElem_toArray, List.getElem_cons_succ, List.getElem_cons_zero]
        go_simp
        refine (HP1.out _ (HO9.out.lies.keep0 hHeld)).mono ?_
        rintro e v1 ⟨hV1, rfl⟩
        refine hK.out _ _ (hHeld.join hV1) (fun hHeld => ?_)
        clear hK K
        refine wpAnyH_take (i := 2) (v := ?v2c) rfl (by kernel_rfl) (by kernel_rfl) (by kernel_rfl) (fun _ _ _ h => h) (Or.inl ⟨by rfl, ?hy2c⟩) hHeld ?rest2c
        case hy2c => (intro W hSw; (try dsimp only at hSw); have hcs := cells_at HQ9.out hSw (fun e => e); have k0 := cell_of (o := 0) hcs rfl; have k1 := cell_of (o := 1) hcs rfl; have k2 := cell_of (o := 2) hcs rfl; go_simp; all_goals (with_reducible rfl))
        change wpAnyH _ _ _ _ _ _ _ (Act.put _ (some 54) _) _
        simp only [Act.put, List.setIfInBounds_toArray, List.set_cons_zero, List.set_cons_succ]
        refine wpAnyH_take (i := 3) (v := ?v3c) rfl (by kernel_rfl) (by kernel_rfl) (by kernel_rfl) (fun _ _ _ h => h) (Or.inl ⟨by rfl, ?hy3c⟩) hHeld ?rest3c
        case hy3c => (intro W hSw; (try dsimp only at hSw); have hcs := cells_at HQ9.out hSw (fun e => e); have k0 := cell_of (o := 0) hcs rfl; have k1 := cell_of (o := 1) hcs rfl; have k2 := cell_of (o := 2) hcs rfl; go_simp; all_goals (with_reducible rfl))
        change wpAnyH _ _ _ _ _ _ _ (Act.put _ (some 55) _) _
        simp only [Act.put, List.setIfInBounds_toArray, List.set_cons_zero, List.set_cons_succ]
        refine wpAnyH_take (i := 5) (v := ?v5c) rfl (by kernel_rfl) (by kernel_rfl) (by kernel_rfl) (fun _ _ _ h => h) (Or.inl ⟨by rfl, ?hy5c⟩) hHeld ?rest5c
        case hy5c => (intro W hSw; (try dsimp only at hSw); have hcs := cells_at HQ9.out hSw (fun e => e); have k0 := cell_of (o := 0) hcs rfl; have k1 := cell_of (o := 1) hcs rfl; have k2 := cell_of (o := 2) hcs rfl; go_simp; all_goals (with_reducible rfl))
        change wpAnyH _ _ _ _ _ _ _ (Act.put _ (some 57) _) _
        simp only [Act.put, List.setIfInBounds_toArray, List.set_cons_zero, List.set_cons_succ]
        refine wpAnyH_ready (rs := [4]) (by kernel_rfl) (by simp) ?_
        refine AllReadyH.cons rfl (fun K hK => ?_) AllReadyH.nil
        try simp only [List.getElem_toArray, List.getElem_cons_succ, List.getElem_cons_zero]
        go_simp
        refine (HG.out _ (HO9.out.lies.keep0 hHeld)).mono ?_
        rintro e v4 ⟨hV4, rfl⟩
        refine hK.out _ _ (hHeld.join hV4) (fun hHeld => ?_)
        clear hK K
        refine wpAnyH_ready (rs := [6]) (by kernel_rfl) (by simp) ?_
        refine AllReadyH.cons rfl (fun K hK => ?_) AllReadyH.nil
        try simp only [List.getElem_toArray, List.getElem_cons_succ, List.getElem_cons_zero]
        go_simp
        refine (HR.out _ (HO9.out.lies.keep0 hHeld)).mono ?_
        rintro e v6 ⟨hV6, rfl⟩
        refine hK.out _ _ (hHeld.join hV6) (fun hHeld => ?_)
        clear hK K
        refine wpAnyH_take (i := 7) (v := ?v7c) rfl (by kernel_rfl) (by kernel_rfl) (by kernel_rfl) (fun _ _ _ h => h) (Or.inl ⟨by rfl, ?hy7c⟩) hHeld ?rest7c
        case hy7c => (intro W hSw; (try dsimp only at hSw); have hcs := cells_at HQ9.out hSw (fun e => e); have k0 := cell_of (o := 0) hcs rfl; have k1 := cell_of (o := 1) hcs rfl; have k2 := cell_of (o := 2) hcs rfl; go_simp; all_goals (with_reducible rfl))
        change wpAnyH _ _ _ _ _ _ _ (Act.put _ (some 59) _) _
        simp only [Act.put, List.setIfInBounds_toArray, List.set_cons_zero, List.set_cons_succ]
        refine wpAnyH_take (i := 8) (v := ?v8c) rfl (by kernel_rfl) (by kernel_rfl) (by kernel_rfl) (fun _ _ _ h => h) (Or.inl ⟨by rfl, ?hy8c⟩) hHeld ?rest8c
        case hy8c => (intro W hSw; (try dsimp only at hSw); have hcs := cells_at HQ9.out hSw (fun e => e); have k0 := cell_of (o := 0) hcs rfl; have k1 := cell_of (o := 1) hcs rfl; have k2 := cell_of (o := 2) hcs rfl; go_simp; all_goals (with_reducible rfl))
        change wpAnyH _ _ _ _ _ _ _ (Act.put _ (some 60) _) _
        simp only [Act.put, List.setIfInBounds_toArray, List.set_cons_zero, List.set_cons_succ]
        refine wpAnyH_take (i := 9) (v := ?v9c) rfl (by kernel_rfl) (by kernel_rfl) (by kernel_rfl) (fun _ _ _ h => h) (Or.inl ⟨by rfl, ?hy9c⟩) hHeld ?rest9c
        case hy9c => (intro W hSw; (try dsimp only at hSw); have hcs := cells_at HQ9.out hSw (fun e => e); have k0 := cell_of (o := 0) hcs rfl; have k1 := cell_of (o := 1) hcs rfl; have k2 := cell_of (o := 2) hcs rfl; go_simp; all_goals (with_reducible rfl))
        change wpAnyH _ _ _ _ _ _ _ (Act.put _ (some 61) _) _
        simp only [Act.put, List.setIfInBounds_toArray, List.set_cons_zero, List.set_cons_succ]
        refine wpAnyH_take (i := 10) (v := ?v10c) rfl (by kernel_rfl) (by kernel_rfl) (by kernel_rfl) (fun _ _ _ h => h) (Or.inl ⟨by rfl, ?hy10c⟩) hHeld ?rest10c
        case hy10c => (intro W hSw; (try dsimp only at hSw); have hcs := cells_at HQ9.out hSw (fun e => e); have k0 := cell_of (o := 0) hcs rfl; have k1 := cell_of (o := 1) hcs rfl; have k2 := cell_of (o := 2) hcs rfl; go_simp; all_goals (with_reducible rfl))
        change wpAnyH _ _ _ _ _ _ _ (Act.put _ (some 62) _) _
        simp only [Act.put, List.setIfInBounds_toArray, List.set_cons_zero, List.set_cons_succ]
        refine wpAnyH_ready (rs := [11]) (by kernel_rfl) (by simp) ?_
        refine AllReadyH.cons rfl (fun K hK => ?_) AllReadyH.nil
        try simp only [List.getElem_toArray, List.getElem_cons_succ, List.getElem_cons_zero]
        go_simp
        refine (HP0.out _ (HO9.out.lies.keep0 hHeld)).mono ?_
        rintro e v11 ⟨hV11, rfl⟩
        refine hK.out _ _ (hHeld.join hV11) (fun hHeld => ?_)
        clear hK K
        refine wpAnyH_take (i := 12) (v := ?v12c) rfl (by kernel_rfl) (by kernel_rfl) (by kernel_rfl) (fun _ _ _ h => h) (Or.inl ⟨by rfl, ?hy12c⟩) hHeld ?rest12c
        case hy12c => (intro W hSw; (try dsimp only at hSw); have hcs := cells_at HQ9.out hSw (fun e => e); have k0 := cell_of (o := 0) hcs rfl; have k1 := cell_of (o := 1) hcs rfl; have k2 := cell_of (o := 2) hcs rfl; go_simp; all_goals (with_reducible rfl))
        change wpAnyH _ _ _ _ _ _ _ (Act.put _ (some 64) _) _
        simp only [Act.put, List.setIfInBounds_toArray, List.set_cons_zero, List.set_cons_succ]
        refine wpAnyH_take (i := 13) (v := ?v13c) rfl (by kernel_rfl) (by kernel_rfl) (by kernel_rfl) (fun _ _ _ h => h) (Or.inl ⟨by rfl, ?hy13c⟩) hHeld ?rest13c
        case hy13c => (intro W hSw; (try dsimp only at hSw); have hcs := cells_at HQ9.out hSw (fun e => e); have k0 := cell_of (o := 0) hcs rfl; have k1 := cell_of (o := 1) hcs rfl; have k2 := cell_of (o := 2) hcs rfl; go_simp; all_goals (with_reducible rfl))
        change wpAnyH _ _ _ _ _ _ _ (Act.put _ (some 65) _) _
        simp only [Act.put, List.setIfInBounds_toArray, List.set_cons_zero, List.set_cons_succ]
        refine wpAnyH_take (i := 14) (v := ?v14c) rfl (by kernel_rfl) (by kernel_rfl) (by kernel_rfl) (fun _ _ _ h => h) (Or.inl ⟨by rfl, ?hy14c⟩) hHeld ?rest14c
        case hy14c => (intro W hSw; (try dsimp only at hSw); have hcs := cells_at HQ9.out hSw (fun e => e); have k0 := cell_of (o := 0) hcs rfl; have k1 := cell_of (o := 1) hcs rfl; have k2 := cell_of (o := 2) hcs rfl; go_simp; all_goals (with_reducible rfl))
        change wpAnyH _ _ _ _ _ _ _ (Act.put _ (some 66) _) _
        simp only [Act.put, List.setIfInBounds_toArray, List.set_cons_zero, List.set_cons_succ]
        refine wpAnyH_take (i := 15) (v := ?v15c) rfl (by kernel_rfl) (by kernel_rfl) (by kernel_rfl) (fun _ _ _ h => h) (Or.inl ⟨by rfl, ?hy15c⟩) hHeld ?rest15c
        case hy15c => (intro W hSw; (try dsimp only at hSw); have hcs := cells_at HQ9.out hSw (fun e => e); have k0 := cell_of (o := 0) hcs rfl; have k1 := cell_of (o := 1) hcs rfl; have k2 := cell_of (o := 2) hcs rfl; go_simp; all_goals (with_reducible rfl))
        change wpAnyH _ _ _ _ _ _ _ (Act.put _ (some 67) _) _
        simp only [Act.put, List.setIfInBounds_toArray, List.set_cons_zero, List.set_cons_succ]
        refine wpAnyH_ready (rs := [16]) (by kernel_rfl) (by simp) ?_
        refine AllReadyH.cons rfl (fun K hK => ?_) AllReadyH.nil
        try simp only [List.getElem_toArray, List.getElem_cons_succ, List.getElem_cons_zero]
        go_simp
        refine (HP4.out _ (HO9.out.lies.keep0 hHeld)).mono ?_
        rintro e v16 ⟨hV16, rfl⟩
        refine hK.out _ _ (hHeld.join hV16) (fun hHeld => ?_)
        clear hK K
        refine wpAnyH_take (i := 17) (v := ?v17c) rfl (by kernel_rfl) (by kernel_rfl) (by kernel_rfl) (fun _ _ _ h => h) (Or.inl ⟨by rfl, ?hy17c⟩) hHeld ?rest17c
        case hy17c => (intro W hSw; (try dsimp only at hSw); have hcs := cells_at HQ9.out hSw (fun e => e); have k0 := cell_of (o := 0) hcs rfl; have k1 := cell_of (o := 1) hcs rfl; have k2 := cell_of (o := 2) hcs rfl; go_simp; all_goals (with_reducible rfl))
        change wpAnyH _ _ _ _ _ _ _ (Act.put _ (some 69) _) _
        simp only [Act.put, List.setIfInBounds_toArray, List.set_cons_zero, List.set_cons_succ]
        refine wpAnyH_take (i := 18) (v := ?v18c) rfl (by kernel_rfl) (by kernel_rfl) (by kernel_rfl) (fun _ _ _ h => h) (Or.inl ⟨by rfl, ?hy18c⟩) hHeld ?rest18c
        case hy18c => (intro W hSw; (try dsimp only at hSw); have hcs := cells_at HQ9.out hSw (fun e => e); have k0 := cell_of (o := 0) hcs rfl; have k1 := cell_of (o := 1) hcs rfl; have k2 := cell_of (o := 2) hcs rfl; go_simp; all_goals (with_reducible rfl))
        change wpAnyH _ _ _ _ _ _ _ (Act.put _ (some 70) _) _
        simp only [Act.put, List.setIfInBounds_toArray, List.set_cons_zero, List.set_cons_succ]
        refine wpAnyH_take (i := 19) (v := ?v19c) rfl (by kernel_rfl) (by kernel_rfl) (by kernel_rfl) (fun _ _ _ h => h) (Or.inl ⟨by rfl, ?hy19c⟩) hHeld ?rest19c
        case hy19c => (intro W hSw; (try dsimp only at hSw); have hcs := cells_at HQ9.out hSw (fun e => e); have k0 := cell_of (o := 0) hcs rfl; have k1 := cell_of (o := 1) hcs rfl; have k2 := cell_of (o := 2) hcs rfl; go_simp; all_goals (with_reducible rfl))
        change wpAnyH _ _ _ _ _ _ _ (Act.put _ (some 6) _) _
        simp only [Act.put, List.setIfInBounds_toArray, List.set_cons_zero, List.set_cons_succ]
        refine wpAnyH_done (by kernel_rfl) ?_ _
        go_wp2_with fail
        go_ret
        exact ⟨by rfl, HF9.out.join hHeld⟩
      | true =>
        have HG := HG2
        have HR := HR2
        have HD9 := hide (HB3.out w9 HO9.out.lies)
        rw [H2.out rfl] at HD9
        go_wp2_with fail
        refine HD9.out.mono ?_
        rintro e w10 ⟨hF, rfl⟩
        have HF10 := hide (HF9.out.join hF)
        have HQ10 := hide (cells_at HQ9.out hF (fun e => e))
        have HO10 := hide (HO9.out.keep hF fun _ _ h => h)
        clear hF k0 k1 k2
        have k0 := cell_of (o := 0) HQ10.out rfl
        have k1 := cell_of (o := 1) HQ10.out rfl
        have k2 := cell_of (o := 2) HQ10.out rfl
        go_upto_region 13 with fail
        clear k0 k1 k2
        refine wp_region_held_drew (S := fun W' => Fr (fun _ => False) w10 W') (by kernel_rfl) (by exact Fr.drew1 _ w10) (fun hHeld => ?_)
        refine wpAnyH_take (i := 0) (v := ?v0d) rfl (by kernel_rfl) (by kernel_rfl) (by kernel_rfl) (fun _ _ _ h => h) (Or.inl ⟨by rfl, ?hy0d⟩) hHeld ?rest0d
        case hy0d => (intro W hSw; (try dsimp only at hSw); have hcs := cells_at HQ10.out hSw (fun e => e); have k0 := cell_of (o := 0) hcs rfl; have k1 := cell_of (o := 1) hcs rfl; have k2 := cell_of (o := 2) hcs rfl; go_simp; all_goals (with_reducible rfl))
        change wpAnyH _ _ _ _ _ _ _ (Act.put _ (some 52) _) _
        simp only [Act.put, List.setIfInBounds_toArray, List.set_cons_zero, List.set_cons_succ]
        refine wpAnyH_ready (rs := [1]) (by kernel_rfl) (by simp) ?_
        refine AllReadyH.cons rfl (fun K hK => ?_) AllReadyH.nil
        try simp only [List.getElem_toArray, List.getElem_cons_succ, List.getElem_cons_zero]
        go_simp
        refine (HP1.out _ (HO10.out.lies.keep0 hHeld)).mono ?_
        rintro e v1 ⟨hV1, rfl⟩
        refine hK.out _ _ (hHeld.join hV1) (fun hHeld => ?_)
        clear hK K
        refine wpAnyH_take (i := 2) (v := ?v2d) rfl (by kernel_rfl) (by kernel_rfl) (by kernel_rfl) (fun _ _ _ h => h) (Or.inl ⟨by rfl, ?hy2d⟩) hHeld ?rest2d
        case hy2d => (intro W hSw; (try dsimp only at hSw); have hcs := cells_at HQ10.out hSw (fun e => e); have k0 := cell_of (o := 0) hcs rfl; have k1 := cell_of (o := 1) hcs rfl; have k2 := cell_of (o := 2) hcs rfl; go_simp; all_goals (with_reducible rfl))
        change wpAnyH _ _ _ _ _ _ _ (Act.put _ (some 54) _) _
        simp only [Act.put, List.setIfInBounds_toArray, List.set_cons_zero, List.set_cons_succ]
        refine wpAnyH_take (i := 3) (v := ?v3d) rfl (by kernel_rfl) (by kernel_rfl) (by kernel_rfl) (fun _ _ _ h => h) (Or.inl ⟨by rfl, ?hy3d⟩) hHeld ?rest3d
        case hy3d => (intro W hSw; (try dsimp only at hSw); have hcs := cells_at HQ10.out hSw (fun e => e); have k0 := cell_of (o := 0) hcs rfl; have k1 := cell_of (o := 1) hcs rfl; have k2 := cell_of (o := 2) hcs rfl; go_simp; all_goals (with_reducible rfl))
        change wpAnyH _ _ _ _ _ _ _ (Act.put _ (some 55) _) _
        simp only [Act.put, List.setIfInBounds_toArray, List.set_cons_zero, List.set_cons_succ]
        refine wpAnyH_take (i := 5) (v := ?v5d) rfl (by kernel_rfl) (by kernel_rfl) (by kernel_rfl) (fun _ _ _ h => h) (Or.inl ⟨by rfl, ?hy5d⟩) hHeld ?rest5d
        case hy5d => (intro W hSw; (try dsimp only at hSw); have hcs := cells_at HQ10.out hSw (fun e => e); have k0 := cell_of (o := 0) hcs rfl; have k1 := cell_of (o := 1) hcs rfl; have k2 := cell_of (o := 2) hcs rfl; go_simp; all_goals (with_reducible rfl))
        change wpAnyH _ _ _ _ _ _ _ (Act.put _ (some 57) _) _
        simp only [Act.put, List.setIfInBounds_toArray, List.set_cons_zero, List.set_cons_succ]
        refine wpAnyH_ready (rs := [4]) (by kernel_rfl) (by simp) ?_
        refine AllReadyH.cons rfl (fun K hK => ?_) AllReadyH.nil
        try simp only [List.getElem_toArray, List.getElem_cons_succ, List.getElem_cons_zero]
        go_simp
        refine (HG.out _ (HO10.out.lies.keep0 hHeld)).mono ?_
        rintro e v4 ⟨hV4, rfl⟩
        refine hK.out _ _ (hHeld.join hV4) (fun hHeld => ?_)
        clear hK K
        refine wpAnyH_ready (rs := [6]) (by kernel_rfl) (by simp) ?_
        refine AllReadyH.cons rfl (fun K hK => ?_) AllReadyH.nil
        try simp only [List.getElem_toArray, List.getElem_cons_succ, List.getElem_cons_zero]
        go_simp
        refine (HR.out _ (HO10.out.lies.keep0 hHeld)).mono ?_
        rintro e v6 ⟨hV6, rfl⟩
        refine hK.out _ _ (hHeld.join hV6) (fun hHeld => ?_)
        clear hK K
        refine wpAnyH_take (i := 7) (v := ?v7d) rfl (by kernel_rfl) (by kernel_rfl) (by kernel_rfl) (fun _ _ _ h => h) (Or.inl ⟨by rfl, ?hy7d⟩) hHeld ?rest7d
        case hy7d => (intro W hSw; (try dsimp only at hSw); have hcs := cells_at HQ10.out hSw (fun e => e); have k0 := cell_of (o := 0) hcs rfl; have k1 := cell_of (o := 1) hcs rfl; have k2 := cell_of (o := 2) hcs rfl; go_simp; all_goals (with_reducible rfl))
        change wpAnyH _ _ _ _ _ _ _ (Act.put _ (some 59) _) _
        simp only [Act.put, List.setIfInBounds_toArray, List.set_cons_zero, List.set_cons_succ]
        refine wpAnyH_take (i := 8) (v := ?v8d) rfl (by kernel_rfl) (by kernel_rfl) (by kernel_rfl) (fun _ _ _ h => h) (Or.inl ⟨by rfl, ?hy8d⟩) hHeld ?rest8d
        case hy8d => (intro W hSw; (try dsimp only at hSw); have hcs := cells_at HQ10.out hSw (fun e => e); have k0 := cell_of (o := 0) hcs rfl; have k1 := cell_of (o := 1) hcs rfl; have k2 := cell_of (o := 2) hcs rfl; go_simp; all_goals (with_reducible rfl))
        change wpAnyH _ _ _ _ _ _ _ (Act.put _ (some 60) _) _
        simp only [Act.put, List.setIfInBounds_toArray, List.set_cons_zero, List.set_cons_succ]
        refine wpAnyH_take (i := 9) (v := ?v9d) rfl (by kernel_rfl) (by kernel_rfl) (by kernel_rfl) (fun _ _ _ h => h) (Or.inl ⟨by rfl, ?hy9d⟩) hHeld ?rest9d
        case hy9d => (intro W hSw; (try dsimp only at hSw); have hcs := cells_at HQ10.out hSw (fun e => e); have k0 := cell_of (o := 0) hcs rfl; have k1 := cell_of (o := 1) hcs rfl; have k2 := cell_of (o := 2) hcs rfl; go_simp; all_goals (with_reducible rfl))
        change wpAnyH _ _ _ _ _ _ _ (Act.put _ (some 61) _) _
        simp only [Act.put, List.setIfInBounds_toArray, List.set_cons_zero, List.set_cons_succ]
        refine wpAnyH_take (i := 10) (v := ?v10d) rfl (by kernel_rfl) (by kernel_rfl) (by kernel_rfl) (fun _ _ _ h => h) (Or.inl ⟨by rfl, ?hy10d⟩) hHeld ?rest10d
        case hy10d => (intro W hSw; (try dsimp only at hSw); have hcs := cells_at HQ10.out hSw (fun e => e); have k0 := cell_of (o := 0) hcs rfl; have k1 := cell_of (o := 1) hcs rfl; have k2 := cell_of (o := 2) hcs rfl; go_simp; all_goals (with_reducible rfl))
        change wpAnyH _ _ _ _ _ _ _ (Act.put _ (some 62) _) _
        simp only [Act.put, List.setIfInBounds_toArray, List.set_cons_zero, List.set_cons_succ]
        refine wpAnyH_ready (rs := [11]) (by kernel_rfl) (by simp) ?_
        refine AllReadyH.cons rfl (fun K hK => ?_) AllReadyH.nil
        try simp only [List.getElem_toArray, List.getElem_cons_succ, List.getElem_cons_zero]
        go_simp
        refine (HP0.out _ (HO10.out.lies.keep0 hHeld)).mono ?_
        rintro e v11 ⟨hV11, rfl⟩
        refine hK.out _ _ (hHeld.join hV11) (fun hHeld => ?_)
        clear hK K
        refine wpAnyH_take (i := 12) (v := ?v12d) rfl (by kernel_rfl) (by kernel_rfl) (by kernel_rfl) (fun _ _ _ h => h) (Or.inl ⟨by rfl, ?hy12d⟩) hHeld ?rest12d
        case hy12d => (intro W hSw; (try dsimp only at hSw); have hcs := cells_at HQ10.out hSw (fun e => e); have k0 := cell_of (o := 0) hcs rfl; have k1 := cell_of (o := 1) hcs rfl; have k2 := cell_of (o := 2) hcs rfl; go_simp; all_goals (with_reducible rfl))
        change wpAnyH _ _ _ _ _ _ _ (Act.put _ (some 64) _) _
        simp only [Act.put, List.setIfInBounds_toArray, List.set_cons_zero, List.set_cons_succ]
        refine wpAnyH_take (i := 13) (v := ?v13d) rfl (by kernel_rfl) (by kernel_rfl) (by kernel_rfl) (fun _ _ _ h => h) (Or.inl ⟨by rfl, ?hy13d⟩) hHeld ?rest13d
        case hy13d => (intro W hSw; (try dsimp only at hSw); have hcs := cells_at HQ10.out hSw (fun e => e); have k0 := cell_of (o := 0) hcs rfl; have k1 := cell_of (o := 1) hcs rfl; have k2 := cell_of (o := 2) hcs rfl; go_simp; all_goals (with_reducible rfl))
        change wpAnyH _ _ _ _ _ _ _ (Act.put _ (some 65) _) _
        simp only [Act.put, List.setIfInBounds_toArray, List.set_cons_zero, List.set_cons_succ]
        refine wpAnyH_take (i := 14) (v := ?v14d) rfl (by kernel_rfl) (by kernel_rfl) (by kernel_rfl) (fun _ _ _ h => h) (Or.inl ⟨by rfl, ?hy14d⟩) hHeld ?rest14d
        case hy14d => (intro W hSw; (try dsimp only at hSw); have hcs := cells_at HQ10.out hSw (fun e => e); have k0 := cell_of (o := 0) hcs rfl; have k1 := cell_of (o := 1) hcs rfl; have k2 := cell_of (o := 2) hcs rfl; go_simp; all_goals (with_reducible rfl))
        change wpAnyH _ _ _ _ _ _ _ (Act.put _ (some 66) _) _
        simp only [Act.put, List.setIfInBounds_toArray, List.set_cons_zero, List.set_cons_succ]
        refine wpAnyH_take (i := 15) (v := ?v15d) rfl (by kernel_rfl) (by kernel_rfl) (by kernel_rfl) (fun _ _ _ h => h) (Or.inl ⟨by rfl, ?hy15d⟩) hHeld ?rest15d
        case hy15d => (intro W hSw; (try dsimp only at hSw); have hcs := cells_at HQ10.out hSw (fun e => e); have k0 := cell_of (o := 0) hcs rfl; have k1 := cell_of (o := 1) hcs rfl; have k2 := cell_of (o := 2) hcs rfl; go_simp; all_goals (with_reducible rfl))
        change wpAnyH _ _ _ _ _ _ _ (Act.put _ (some 67) _) _
        simp only [Act.put, List.setIfInBounds_toArray, List.set_cons_zero, List.set_cons_succ]
        refine wpAnyH_ready (rs := [16]) (by kernel_rfl) (by simp) ?_
        refine AllReadyH.cons rfl (fun K hK => ?_) AllReadyH.nil
        try simp only [List.getElem_toArray, List.getElem_cons_succ, List.getElem_cons_zero]
        go_simp
        refine (HP4.out _ (HO10.out.lies.keep0 hHeld)).mono ?_
        rintro e v16 ⟨hV16, rfl⟩
        refine hK.out _ _ (hHeld.join hV16) (fun hHeld => ?_)
        clear hK K
        refine wpAnyH_take (i := 17) (v := ?v17d) rfl (by kernel_rfl) (by kernel_rfl) (by kernel_rfl) (fun _ _ _ h => h) (Or.inl ⟨by rfl, ?hy17d⟩) hHeld ?rest17d
        case hy17d => (intro W hSw; (try dsimp only at hSw); have hcs := cells_at HQ10.out hSw (fun e => e); have k0 := cell_of (o := 0) hcs rfl; have k1 := cell_of (o := 1) hcs rfl; have k2 := cell_of (o := 2) hcs rfl; go_simp; all_goals (with_reducible rfl))
        change wpAnyH _ _ _ _ _ _ _ (Act.put _ (some 69) _) _
        simp only [Act.put, List.setIfInBounds_toArray, List.set_cons_zero, List.set_cons_succ]
        refine wpAnyH_take (i := 18) (v := ?v18d) rfl (by kernel_rfl) (by kernel_rfl) (by kernel_rfl) (fun _ _ _ h => h) (Or.inl ⟨by rfl, ?hy18d⟩) hHeld ?rest18d
        case hy18d => (intro W hSw; (try dsimp only at hSw); have hcs := cells_at HQ10.out hSw (fun e => e); have k0 := cell_of (o := 0) hcs rfl; have k1 := cell_of (o := 1) hcs rfl; have k2 := cell_of (o := 2) hcs rfl; go_simp; all_goals (with_reducible rfl))
        change wpAnyH _ _ _ _ _ _ _ (Act.put _ (some 70) _) _
        simp only [Act.put, List.setIfInBounds_toArray, List.set_cons_zero, List.set_cons_succ]
        refine wpAnyH_take (i := 19) (v := ?v19d) rfl (by kernel_rfl) (by kernel_rfl) (by kernel_rfl) (fun _ _ _ h => h) (Or.inl ⟨by rfl, ?hy19d⟩) hHeld ?rest19d
        case hy19d => (intro W hSw; (try dsimp only at hSw); have hcs := cells_at HQ10.out hSw (fun e => e); have k0 := cell_of (o := 0) hcs rfl; have k1 := cell_of (o := 1) hcs rfl; have k2 := cell_of (o := 2) hcs rfl; go_simp; all_goals (with_reducible rfl))
        change wpAnyH _ _ _ _ _ _ _ (Act.put _ (some 6) _) _
        simp only [Act.put, List.setIfInBounds_toArray, List.set_cons_zero, List.set_cons_succ]
        refine wpAnyH_done (by kernel_rfl) ?_ _
        go_wp2_with fail
        go_ret
        exact ⟨by rfl, HF10.out.join hHeld⟩
    | true =>
      have HC9 := hide (HG2.out w8 HO8.out.lies)
      go_wp2_with fail
      refine HC9.out.mono ?_
      rintro e w9 ⟨hF, rfl⟩
      have HF9 := hide (HF8.out.join hF)
      have HQ9 := hide (cells_at HQ8.out hF (fun e => e))
      have HO9 := hide (HO8.out.keep hF fun _ _ h => h)
      clear hF k0 k1 k2
      have k0 := cell_of (o := 0) HQ9.out rfl
      have k1 := cell_of (o := 1) HQ9.out rfl
      have k2 := cell_of (o := 2) HQ9.out rfl
      cases G with
      | false =>
        have HG := HG2
        have HR := HR2
        go_upto_region 13 with fail
        clear k0 k1 k2
        refine wp_region_held_drew (S := fun W' => Fr (fun _ => False) w9 W') (by kernel_rfl) (by exact Fr.drew1 _ w9) (fun hHeld => ?_)
        refine wpAnyH_take (i := 0) (v := ?v0e) rfl (by kernel_rfl) (by kernel_rfl) (by kernel_rfl) (fun _ _ _ h => h) (Or.inl ⟨by rfl, ?hy0e⟩) hHeld ?rest0e
        case hy0e => (intro W hSw; (try dsimp only at hSw); have hcs := cells_at HQ9.out hSw (fun e => e); have k0 := cell_of (o := 0) hcs rfl; have k1 := cell_of (o := 1) hcs rfl; have k2 := cell_of (o := 2) hcs rfl; go_simp; all_goals (with_reducible rfl))
        change wpAnyH _ _ _ _ _ _ _ (Act.put _ (some 52) _) _
        simp only [Act.put, List.setIfInBounds_toArray, List.set_cons_zero, List.set_cons_succ]
        refine wpAnyH_ready (rs := [1]) (by kernel_rfl) (by simp) ?_
        refine AllReadyH.cons rfl (fun K hK => ?_) AllReadyH.nil
        try simp only [List.getElem_toArray, List.getElem_cons_succ, List.getElem_cons_zero]
        go_simp
        refine (HP1.out _ (HO9.out.lies.keep0 hHeld)).mono ?_
        rintro e v1 ⟨hV1, rfl⟩
        refine hK.out _ _ (hHeld.join hV1) (fun hHeld => ?_)
        clear hK K
        refine wpAnyH_take (i := 2) (v := ?v2e) rfl (by kernel_rfl) (by kernel_rfl) (by kernel_rfl) (fun _ _ _ h => h) (Or.inl ⟨by rfl, ?hy2e⟩) hHeld ?rest2e
        case hy2e => (intro W hSw; (try dsimp only at hSw); have hcs := cells_at HQ9.out hSw (fun e => e); have k0 := cell_of (o := 0) hcs rfl; have k1 := cell_of (o := 1) hcs rfl; have k2 := cell_of (o := 2) hcs rfl; go_simp; all_goals (with_reducible rfl))
        change wpAnyH _ _ _ _ _ _ _ (Act.put _ (some 54) _) _
        simp only [Act.put, List.setIfInBounds_toArray, List.set_cons_zero, List.set_cons_succ]
        refine wpAnyH_take (i := 3) (v := ?v3e) rfl (by kernel_rfl) (by kernel_rfl) (by kernel_rfl) (fun _ _ _ h => h) (Or.inl ⟨by rfl, ?hy3e⟩) hHeld ?rest3e
        case hy3e => (intro W hSw; (try dsimp only at hSw); have hcs := cells_at HQ9.out hSw (fun e => e); have k0 := cell_of (o := 0) hcs rfl; have k1 := cell_of (o := 1) hcs rfl; have k2 := cell_of (o := 2) hcs rfl; go_simp; all_goals (with_reducible rfl))
        change wpAnyH _ _ _ _ _ _ _ (Act.put _ (some 55) _) _
        simp only [Act.put, List.setIfInBounds_toArray, List.set_cons_zero, List.set_cons_succ]
        refine wpAnyH_take (i := 5) (v := ?v5e) rfl (by kernel_rfl) (by kernel_rfl) (by kernel_rfl) (fun _ _ _ h => h) (Or.inl ⟨by rfl, ?hy5e⟩) hHeld ?rest5e
        case hy5e => (intro W hSw; (try dsimp only at hSw); have hcs := cells_at HQ9.out hSw (fun e => e); have k0 := cell_of (o := 0) hcs rfl; have k1 := cell_of (o := 1) hcs rfl; have k2 := cell_of (o := 2) hcs rfl; go_simp; all_goals (with_reducible rfl))
        change wpAnyH _ _ _ _ _ _ _ (Act.put _ (some 57) _) _
        simp only [Act.put, List.setIfInBounds_toArray, List.set_cons_zero, List.set_cons_succ]
        refine wpAnyH_ready (rs := [4]) (by kernel_rfl) (by simp) ?_
        refine AllReadyH.cons rfl (fun K hK => ?_) AllReadyH.nil
        try simp only [List.getElem_toArray, List.getElem_cons_succ, List.getElem_cons_zero]
        go_simp
        refine (HG.out _ (HO9.out.lies.keep0 hHeld)).mono ?_
        rintro e v4 ⟨hV4, rfl⟩
        refine hK.out _ _ (hHeld.join hV4) (fun hHeld => ?_)
        clear hK K
        refine wpAnyH_ready (rs := [6]) (by kernel_rfl) (by simp) ?_
        refine AllReadyH.cons rfl (fun K hK => ?_) AllReadyH.nil
        try simp only [List.getElem_toArray, List.getElem_cons_succ, List.getElem_cons_zero]
        go_simp
        refine (HR.out _ (HO9.out.lies.keep0 hHeld)).mono ?_
        rintro e v6 ⟨hV6, rfl⟩
        refine hK.out _ _ (hHeld.join hV6) (fun hHeld => ?_)
        clear hK K
        refine wpAnyH_take (i := 7) (v := ?v7e) rfl (by kernel_rfl) (by kernel_rfl) (by kernel_rfl) (fun _ _ _ h => h) (Or.inl ⟨by rfl, ?hy7e⟩) hHeld ?rest7e
        case hy7e => (intro W hSw; (try dsimp only at hSw); have hcs := cells_at HQ9.out hSw (fun e => e); have k0 := cell_of (o := 0) hcs rfl; have k1 := cell_of (o := 1) hcs rfl; have k2 := cell_of (o := 2) hcs rfl; go_simp; all_goals (with_reducible rfl))
        change wpAnyH _ _ _ _ _ _ _ (Act.put _ (some 59) _) _
        simp only [Act.put, List.setIfInBounds_toArray, List.set_cons_zero, List.set_cons_succ]
        refine wpAnyH_take (i := 8) (v := ?v8e) rfl (by kernel_rfl) (by kernel_rfl) (by kernel_rfl) (fun _ _ _ h => h) (Or.inl ⟨by rfl, ?hy8e⟩) hHeld ?rest8e
        case hy8e => (intro W hSw; (try dsimp only at hSw); have hcs := cells_at HQ9.out hSw (fun e => e); have k0 := cell_of (o := 0) hcs rfl; have k1 := cell_of (o := 1) hcs rfl; have k2 := cell_of (o := 2) hcs rfl; go_simp; all_goals (with_reducible rfl))
        change wpAnyH _ _ _ _ _ _ _ (Act.put _ (some 60) _) _
        simp only [Act.put, List.setIfInBounds_toArray, List.set_cons_zero, List.set_cons_succ]
        refine wpAnyH_take (i := 9) (v := ?v9e) rfl (by kernel_rfl) (by kernel_rfl) (by kernel_rfl) (fun _ _ _ h => h) (Or.inl ⟨by rfl, ?hy9e⟩) hHeld ?rest9e
        case hy9e => (intro W hSw; (try dsimp only at hSw); have hcs := cells_at HQ9.out hSw (fun e => e); have k0 := cell_of (o := 0) hcs rfl; have k1 := cell_of (o := 1) hcs rfl; have k2 := cell_of (o := 2) hcs rfl; go_simp; all_goals (with_reducible rfl))
        change wpAnyH _ _ _ _ _ _ _ (Act.put _ (some 61) _) _
        simp only [Act.put, List.setIfInBounds_toArray, List.set_cons_zero, List.set_cons_succ]
        refine wpAnyH_take (i := 10) (v := ?v10e) rfl (by kernel_rfl) (by kernel_rfl) (by kernel_rfl) (fun _ _ _ h => h) (Or.inl ⟨by rfl, ?hy10e⟩) hHeld ?rest10e
        case hy10e => (intro W hSw; (try dsimp only at hSw); have hcs := cells_at HQ9.out hSw (fun e => e); have k0 := cell_of (o := 0) hcs rfl; have k1 := cell_of (o := 1) hcs rfl; have k2 := cell_of (o := 2) hcs rfl; go_simp; all_goals (with_reducible rfl))
        change wpAnyH _ _ _ _ _ _ _ (Act.put _ (some 62) _) _
        simp only [Act.put, List.setIfInBounds_toArray, List.set_cons_zero, List.set_cons_succ]
        refine wpAnyH_ready (rs := [11]) (by kernel_rfl) (by simp) ?_
        refine AllReadyH.cons rfl (fun K hK => ?_) AllReadyH.nil
        try simp only [List.getElem_toArray, List.getElem_cons_succ, List.getElem_cons_zero]
        go_simp
        refine (HP0.out _ (HO9.out.lies.keep0 hHeld)).mono ?_
        rintro e v11 ⟨hV11, rfl⟩
        refine hK.out _ _ (hHeld.join hV11) (fun hHeld => ?_)
        clear hK K
        refine wpAnyH_take (i := 12) (v := ?v12e) rfl (by kernel_rfl) (by kernel_rfl) (by kernel_rfl) (fun _ _ _ h => h) (Or.inl ⟨by rfl, ?hy12e⟩) hHeld ?rest12e
        case hy12e => (intro W hSw; (try dsimp only at hSw); have hcs := cells_at HQ9.out hSw (fun e => e); have k0 := cell_of (o := 0) hcs rfl; have k1 := cell_of (o := 1) hcs rfl; have k2 := cell_of (o := 2) hcs rfl; go_simp; all_goals (with_reducible rfl))
        change wpAnyH _ _ _ _ _ _ _ (Act.put _ (some 64) _) _
        simp only [Act.put, List.setIfInBounds_toArray, List.set_cons_zero, List.set_cons_succ]
        refine wpAnyH_take (i := 13) (v := ?v13e) rfl (by kernel_rfl) (by kernel_rfl) (by kernel_rfl) (fun _ _ _ h => h) (Or.inl ⟨by rfl, ?hy13e⟩) hHeld ?rest13e
        case hy13e => (intro W hSw; (try dsimp only at hSw); have hcs := cells_at HQ9.out hSw (fun e => e); have k0 := cell_of (o := 0) hcs rfl; have k1 := cell_of (o := 1) hcs rfl; have k2 := cell_of (o := 2) hcs rfl; go_simp; all_goals (with_reducible rfl))
        change wpAnyH _ _ _ _ _ _ _ (Act.put _ (some 65) _) _
        simp only [Act.put, List.setIfInBounds_toArray, List.set_cons_zero, List.set_cons_succ]
        refine wpAnyH_take (i := 14) (v := ?v14e) rfl (by kernel_rfl) (by kernel_rfl) (by kernel_rfl) (fun _ _ _ h => h) (Or.inl ⟨by rfl, ?hy14e⟩) hHeld ?rest14e
        case hy14e => (intro W hSw; (try dsimp only at hSw); have hcs := cells_at HQ9.out hSw (fun e => e); have k0 := cell_of (o := 0) hcs rfl; have k1 := cell_of (o := 1) hcs rfl; have k2 := cell_of (o := 2) hcs rfl; go_simp; all_goals (with_reducible rfl))
        change wpAnyH _ _ _ _ _ _ _ (Act.put _ (some 66) _) _
        simp only [Act.put, List.setIfInBounds_toArray, List.set_cons_zero, List.set_cons_succ]
        refine wpAnyH_take (i := 15) (v := ?v15e) rfl (by kernel_rfl) (by kernel_rfl) (by kernel_rfl) (fun _ _ _ h => h) (Or.inl ⟨by rfl, ?hy15e⟩) hHeld ?rest15e
        case hy15e => (intro W hSw; (try dsimp only at hSw); have hcs := cells_at HQ9.out hSw (fun e => e); have k0 := cell_of (o := 0) hcs rfl; have k1 := cell_of (o := 1) hcs rfl; have k2 := cell_of (o := 2) hcs rfl; go_simp; all_goals (with_reducible rfl))
        change wpAnyH _ _ _ _ _ _ _ (Act.put _ (some 67) _) _
        simp only [Act.put, List.setIfInBounds_toArray, List.set_cons_zero, List.set_cons_succ]
        refine wpAnyH_ready (rs := [16]) (by kernel_rfl) (by simp) ?_
        refine AllReadyH.cons rfl (fun K hK => ?_) AllReadyH.nil
        try simp only [List.getElem_toArray, List.getElem_cons_succ, List.getElem_cons_zero]
        go_simp
        refine (HP4.out _ (HO9.out.lies.keep0 hHeld)).mono ?_
        rintro e v16 ⟨hV16, rfl⟩
        refine hK.out _ _ (hHeld.join hV16) (fun hHeld => ?_)
        clear hK K
        refine wpAnyH_take (i := 17) (v := ?v17e) rfl (by kernel_rfl) (by kernel_rfl) (by kernel_rfl) (fun _ _ _ h => h) (Or.inl ⟨by rfl, ?hy17e⟩) hHeld ?rest17e
        case hy17e => (intro W hSw; (try dsimp only at hSw); have hcs := cells_at HQ9.out hSw (fun e => e); have k0 := cell_of (o := 0) hcs rfl; have k1 := cell_of (o := 1) hcs rfl; have k2 := cell_of (o := 2) hcs rfl; go_simp; all_goals (with_reducible rfl))
        change wpAnyH _ _ _ _ _ _ _ (Act.put _ (some 69) _) _
        simp only [Act.put, List.setIfInBounds_toArray, List.set_cons_zero, List.set_cons_succ]
        refine wpAnyH_take (i := 18) (v := ?v18e) rfl (by kernel_rfl) (by kernel_rfl) (by kernel_rfl) (fun _ _ _ h => h) (Or.inl ⟨by rfl, ?hy18e⟩) hHeld ?rest18e
        case hy18e => (intro W hSw; (try dsimp only at hSw); have hcs := cells_at HQ9.out hSw (fun e => e); have k0 := cell_of (o := 0) hcs rfl; have k1 := cell_of (o := 1) hcs rfl; have k2 := cell_of (o := 2) hcs rfl; go_simp; all_goals (with_reducible rfl))
        change wpAnyH _ _ _ _ _ _ _ (Act.put _ (some 70) _) _
        simp only [Act.put, List.setIfInBounds_toArray, List.set_cons_zero, List.set_cons_succ]
        refine wpAnyH_take (i := 19) (v := ?v19e) rfl (by kernel_rfl) (by kernel_rfl) (by kernel_rfl) (fun _ _ _ h => h) (Or.inl ⟨by rfl, ?hy19e⟩) hHeld ?rest19e
        case hy19e => (intro W hSw; (try dsimp only at hSw); have hcs := cells_at HQ9.out hSw (fun e => e); have k0 := cell_of (o := 0) hcs rfl; have k1 := cell_of (o := 1) hcs rfl; have k2 := cell_of (o := 2) hcs rfl; go_simp; all_goals (with_reducible rfl))
        change wpAnyH _ _ _ _ _ _ _ (Act.put _ (some 6) _) _
        simp only [Act.put, List.setIfInBounds_toArray, List.set_cons_zero, List.set_cons_succ]
        refine wpAnyH_done (by kernel_rfl) ?_ _
        go_wp2_with fail
        go_ret
        exact ⟨by rfl, HF9.out.join hHeld⟩
      | true =>
        have HG := HG2
        have HR := HR2
        have HD9 := hide (HB3.out w9 HO9.out.lies)
        rw [H2.out rfl] at HD9
        go_wp2_with fail
        refine HD9.out.mono ?_
        rintro e w10 ⟨hF, rfl⟩
        have HF10 := hide (HF9.out.join hF)
        have HQ10 := hide (cells_at HQ9.out hF (fun e => e))
        have HO10 := hide (HO9.out.keep hF fun _ _ h => h)
        clear hF k0 k1 k2
        have k0 := cell_of (o := 0) HQ10.out rfl
        have k1 := cell_of (o := 1) HQ10.out rfl
        have k2 := cell_of (o := 2) HQ10.out rfl
        go_upto_region 13 with fail
        clear k0 k1 k2
        refine wp_region_held_drew (S := fun W' => Fr (fun _ => False) w10 W') (by kernel_rfl) (by exact Fr.drew1 _ w10) (fun hHeld => ?_)
        refine wpAnyH_take (i := 0) (v := ?v0f) rfl (by kernel_rfl) (by kernel_rfl) (by kernel_rfl) (fun _ _ _ h => h) (Or.inl ⟨by rfl, ?hy0f⟩) hHeld ?rest0f
        case hy0f => (intro W hSw; (try dsimp only at hSw); have hcs := cells_at HQ10.out hSw (fun e => e); have k0 := cell_of (o := 0) hcs rfl; have k1 := cell_of (o := 1) hcs rfl; have k2 := cell_of (o := 2) hcs rfl; go_simp; all_goals (with_reducible rfl))
        change wpAnyH _ _ _ _ _ _ _ (Act.put _ (some 52) _) _
        simp only [Act.put, List.setIfInBounds_toArray, List.set_cons_zero, List.set_cons_succ]
        refine wpAnyH_ready (rs := [1]) (by kernel_rfl) (by simp) ?_
        refine AllReadyH.cons rfl (fun K hK => ?_) AllReadyH.nil
        try simp only [List.getElem_toArray, List.getElem_cons_succ, List.getElem_cons_zero]
        go_simp
        refine (HP1.out _ (HO10.out.lies.keep0 hHeld)).mono ?_
        rintro e v1 ⟨hV1, rfl⟩
        refine hK.out _ _ (hHeld.join hV1) (fun hHeld => ?_)
        clear hK K
        refine wpAnyH_take (i := 2) (v := ?v2f) rfl (by kernel_rfl) (by kernel_rfl) (by kernel_rfl) (fun _ _ _ h => h) (Or.inl ⟨by rfl, ?hy2f⟩) hHeld ?rest2f
        case hy2f => (intro W hSw; (try dsimp only at hSw); have hcs := cells_at HQ10.out hSw (fun e => e); have k0 := cell_of (o := 0) hcs rfl; have k1 := cell_of (o := 1) hcs rfl; have k2 := cell_of (o := 2) hcs rfl; go_simp; all_goals (with_reducible rfl))
        change wpAnyH _ _ _ _ _ _ _ (Act.put _ (some 54) _) _
        simp only [Act.put, List.setIfInBounds_toArray, List.set_cons_zero, List.set_cons_succ]
        refine wpAnyH_take (i := 3) (v := ?v3f) rfl (by kernel_rfl) (by kernel_rfl) (by kernel_rfl) (fun _ _ _ h => h) (Or.inl ⟨by rfl, ?hy3f⟩) hHeld ?rest3f
        case hy3f => (intro W hSw; (try dsimp only at hSw); have hcs := cells_at HQ10.out hSw (fun e => e); have k0 := cell_of (o := 0) hcs rfl; have k1 := cell_of (o := 1) hcs rfl; have k2 := cell_of (o := 2) hcs rfl; go_simp; all_goals (with_reducible rfl))
        change wpAnyH _ _ _ _ _ _ _ (Act.put _ (some 55) _) _
        simp only [Act.put, List.setIfInBounds_toArray, List.set_cons_zero, List.set_cons_succ]
        refine wpAnyH_take (i := 5) (v := ?v5f) rfl (by kernel_rfl) (by kernel_rfl) (by kernel_rfl) (fun _ _ _ h => h) (Or.inl ⟨by rfl, ?hy5f⟩) hHeld ?rest5f
        case hy5f => (intro W hSw; (try dsimp only at hSw); have hcs := cells_at HQ10.out hSw (fun e => e); have k0 := cell_of (o := 0) hcs rfl; have k1 := cell_of (o := 1) hcs rfl; have k2 := cell_of (o := 2) hcs rfl; go_simp; all_goals (with_reducible rfl))
        change wpAnyH _ _ _ _ _ _ _ (Act.put _ (some 57) _) _
        simp only [Act.put, List.setIfInBounds_toArray, List.set_cons_zero, List.set_cons_succ]
        refine wpAnyH_ready (rs := [4]) (by kernel_rfl) (by simp) ?_
        refine AllReadyH.cons rfl (fun K hK => ?_) AllReadyH.nil
        try simp only [List.getElem_toArray, List.getElem_cons_succ, List.getElem_cons_zero]
        go_simp
        refine (HG.out _ (HO10.out.lies.keep0 hHeld)).mono ?_
        rintro e v4 ⟨hV4, rfl⟩
        refine hK.out _ _ (hHeld.join hV4) (fun hHeld => ?_)
        clear hK K
        refine wpAnyH_ready (rs := [6]) (by kernel_rfl) (by simp) ?_
        refine AllReadyH.cons rfl (fun K hK => ?_) AllReadyH.nil
        try simp only [List.getElem_toArray, List.getElem_cons_succ, List.getElem_cons_zero]
        go_simp
        refine (HR.out _ (HO10.out.lies.keep0 hHeld)).mono ?_
        rintro e v6 ⟨hV6, rfl⟩
        refine hK.out _ _ (hHeld.join hV6) (fun hHeld => ?_)
        clear hK K
        refine wpAnyH_take (i := 7) (v := ?v7f) rfl (by kernel_rfl) (by kernel_rfl) (by kernel_rfl) (fun _ _ _ h => h) (Or.inl ⟨by rfl, ?hy7f⟩) hHeld ?rest7f
        case hy7f => (intro W hSw; (try dsimp only at hSw); have hcs := cells_at HQ10.out hSw (fun e => e); have k0 := cell_of (o := 0) hcs rfl; have k1 := cell_of (o := 1) hcs rfl; have k2 := cell_of (o := 2) hcs rfl; go_simp; all_goals (with_reducible rfl))
        change wpAnyH _ _ _ _ _ _ _ (Act.put _ (some 59) _) _
        simp only [Act.put, List.setIfInBounds_toArray, List.set_cons_zero, List.set_cons_succ]
        refine wpAnyH_take (i := 8) (v := ?v8f) rfl (by kernel_rfl) (by kernel_rfl) (by kernel_rfl) (fun _ _ _ h => h) (Or.inl ⟨by rfl, ?hy8f⟩) hHeld ?rest8f
        case hy8f => (intro W hSw; (try dsimp only at hSw); have hcs := cells_at HQ10.out hSw (fun e => e); have k0 := cell_of (o := 0) hcs rfl; have k1 := cell_of (o := 1) hcs rfl; have k2 := cell_of (o := 2) hcs rfl; go_simp; all_goals (with_reducible rfl))
        change wpAnyH _ _ _ _ _ _ _ (Act.put _ (some 60) _) _
        simp only [Act.put, List.setIfInBounds_toArray, List.set_cons_zero, List.set_cons_succ]
        refine wpAnyH_take (i := 9) (v := ?v9f) rfl (by kernel_rfl) (by kernel_rfl) (by kernel_rfl) (fun _ _ _ h => h) (Or.inl ⟨by rfl, ?hy9f⟩) hHeld ?rest9f
        case hy9f => (intro W hSw; (try dsimp only at hSw); have hcs := cells_at HQ10.out hSw (fun e => e); have k0 := cell_of (o := 0) hcs rfl; have k1 := cell_of (o := 1) hcs rfl; have k2 := cell_of (o := 2) hcs rfl; go_simp; all_goals (with_reducible rfl))
        change wpAnyH _ _ _ _ _ _ _ (Act.put _ (some 61) _) _
        simp only [Act.put, List.setIfInBounds_toArray, List.set_cons_zero, List.set_cons_succ]
        refine wpAnyH_take (i := 10) (v := ?v10f) rfl (by kernel_rfl) (by kernel_rfl) (by kernel_rfl) (fun _ _ _ h => h) (Or.inl ⟨by rfl, ?hy10f⟩) hHeld ?rest10f
        case hy10f => (intro W hSw; (try dsimp only at hSw); have hcs := cells_at HQ10.out hSw (fun e => e); have k0 := cell_of (o := 0) hcs rfl; have k1 := cell_of (o := 1) hcs rfl; have k2 := cell_of (o := 2) hcs rfl; go_simp; all_goals (with_reducible rfl))
        change wpAnyH _ _ _ _ _ _ _ (Act.put _ (some 62) _) _
        simp only [Act.put, List.setIfInBounds_toArray, List.set_cons_zero, List.set_cons_succ]
        refine wpAnyH_ready (rs := [11]) (by kernel_rfl) (by simp) ?_
        refine AllReadyH.cons rfl (fun K hK => ?_) AllReadyH.nil
        try simp only [List.getElem_toArray, List.getElem_cons_succ, List.getElem_cons_zero]
        go_simp
        refine (HP0.out _ (HO10.out.lies.keep0 hHeld)).mono ?_
        rintro e v11 ⟨hV11, rfl⟩
        refine hK.out _ _ (hHeld.join hV11) (fun hHeld => ?_)
        clear hK K
        refine wpAnyH_take (i := 12) (v := ?v12f) rfl (by kernel_rfl) (by kernel_rfl) (by kernel_rfl) (fun _ _ _ h => h) (Or.inl ⟨by rfl, ?hy12f⟩) hHeld ?rest12f
        case hy12f => (intro W hSw; (try dsimp only at hSw); have hcs := cells_at HQ10.out hSw (fun e => e); have k0 := cell_of (o := 0) hcs rfl; have k1 := cell_of (o := 1) hcs rfl; have k2 := cell_of (o := 2) hcs rfl; go_simp; all_goals (with_reducible rfl))
        change wpAnyH _ _ _ _ _ _ _ (Act.put _ (some 64) _) _
        simp only [Act.put, List.setIfInBounds_toArray, List.set_cons_zero, List.set_cons_succ]
        refine wpAnyH_take (i := 13) (v := ?v13f) rfl (by kernel_rfl) (by kernel_rfl) (by kernel_rfl) (fun _ _ _ h => h) (Or.inl ⟨by rfl, ?hy13f⟩) hHeld ?rest13f
        case hy13f => (intro W hSw; (try dsimp only at hSw); have hcs := cells_at HQ10.out hSw (fun e => e); have k0 := cell_of (o := 0) hcs rfl; have k1 := cell_of (o := 1) hcs rfl; have k2 := cell_of (o := 2) hcs rfl; go_simp; all_goals (with_reducible rfl))
        change wpAnyH _ _ _ _ _ _ _ (Act.put _ (some 65) _) _
        simp only [Act.put, List.setIfInBounds_toArray, List.set_cons_zero, List.set_cons_succ]
        refine wpAnyH_take (i := 14) (v := ?v14f) rfl (by kernel_rfl) (by kernel_rfl) (by kernel_rfl) (fun _ _ _ h => h) (Or.inl ⟨by rfl, ?hy14f⟩) hHeld ?rest14f
        case hy14f => (intro W hSw; (try dsimp only at hSw); have hcs := cells_at HQ10.out hSw (fun e => e); have k0 := cell_of (o := 0) hcs rfl; have k1 := cell_of (o := 1) hcs rfl; have k2 := cell_of (o := 2) hcs rfl; go_simp; all_goals (with_reducible rfl))
        change wpAnyH _ _ _ _ _ _ _ (Act.put _ (some 66) _) _
        simp only [Act.put, List.setIfInBounds_toArray, List.set_cons_zero, List.set_cons_succ]
        refine wpAnyH_take (i := 15) (v := ?v15f) rfl (by kernel_rfl) (by kernel_rfl) (by kernel_rfl) (fun _ _ _ h => h) (Or.inl ⟨by rfl, ?hy15f⟩) hHeld ?rest15f
        case hy15f => (intro W hSw; (try dsimp only at hSw); have hcs := cells_at HQ10.out hSw (fun e => e); have k0 := cell_of (o := 0) hcs rfl; have k1 := cell_of (o := 1) hcs rfl; have k2 := cell_of (o := 2) hcs rfl; go_simp; all_goals (with_reducible rfl))
        change wpAnyH _ _ _ _ _ _ _ (Act.put _ (some 67) _) _
        simp only [Act.put, List.setIfInBounds_toArray, List.set_cons_zero, List.set_cons_succ]
        refine wpAnyH_ready (rs := [16]) (by kernel_rfl) (by simp) ?_
        refine AllReadyH.cons rfl (fun K hK => ?_) AllReadyH.nil
        try simp only [List.getElem_toArray, List.getElem_cons_succ, List.getElem_cons_zero]
        go_simp
        refine (HP4.out _ (HO10.out.lies.keep0 hHeld)).mono ?_
        rintro e v16 ⟨hV16, rfl⟩
        refine hK.out _ _ (hHeld.join hV16) (fun hHeld => ?_)
        clear hK K
        refine wpAnyH_take (i := 17) (v := ?v17f) rfl (by kernel_rfl) (by kernel_rfl) (by kernel_rfl) (fun _ _ _ h => h) (Or.inl ⟨by rfl, ?hy17f⟩) hHeld ?rest17f
        case hy17f => (intro W hSw; (try dsimp only at hSw); have hcs := cells_at HQ10.out hSw (fun e => e); have k0 := cell_of (o := 0) hcs rfl; have k1 := cell_of (o := 1) hcs rfl; have k2 := cell_of (o := 2) hcs rfl; go_simp; all_goals (with_reducible rfl))
        change wpAnyH _ _ _ _ _ _ _ (Act.put _ (some 69) _) _
        simp only [Act.put, List.setIfInBounds_toArray, List.set_cons_zero, List.set_cons_succ]
        refine wpAnyH_take (i := 18) (v := ?v18f) rfl (by kernel_rfl) (by kernel_rfl) (by kernel_rfl) (fun _ _ _ h => h) (Or.inl ⟨by rfl, ?hy18f⟩) hHeld ?rest18f
        case hy18f => (intro W hSw; (try dsimp only at hSw); have hcs := cells_at HQ10.out hSw (fun e => e); have k0 := cell_of (o := 0) hcs rfl; have k1 := cell_of (o := 1) hcs rfl; have k2 := cell_of (o := 2) hcs rfl; go_simp; all_goals (with_reducible rfl))
        change wpAnyH _ _ _ _ _ _ _ (Act.put _ (some 70) _) _
        simp only [Act.put, List.setIfInBounds_toArray, List.set_cons_zero, List.set_cons_succ]
        refine wpAnyH_take (i := 19) (v := ?v19f) rfl (by kernel_rfl) (by kernel_rfl) (by kernel_rfl) (fun _ _ _ h => h) (Or.inl ⟨by rfl, ?hy19f⟩) hHeld ?rest19f
        case hy19f => (intro W hSw; (try dsimp only at hSw); have hcs := cells_at HQ10.out hSw (fun e => e); have k0 := cell_of (o := 0) hcs rfl; have k1 := cell_of (o := 1) hcs rfl; have k2 := cell_of (o := 2) hcs rfl; go_simp; all_goals (with_reducible rfl))
        change wpAnyH _ _ _ _ _ _ _ (Act.put _ (some 6) _) _
        simp only [Act.put, List.setIfInBounds_toArray, List.set_cons_zero, List.set_cons_succ]
        refine wpAnyH_done (by kernel_rfl) ?_ _
        go_wp2_with fail
        go_ret
        exact ⟨by rfl, HF10.out.join hHeld⟩
end Go.Proofs.Ythdilabmajaehaa
