/-
  raster: RasterApart.
-/
import Derived.Test.YtaeppfbphbkigaaSh
namespace Go.Proofs.Ytaeppfbphbkigaa
open Go.RowKit

theorem xor_u16 (a b : Nat) (ha : a < 65536) (hb : b < 65536) : bits .xor .u16 (a : Int) (b : Int) = ((a ^^^ b : Nat) : Int) := by
  have e1 : (BitVec.ofInt 16 (a : Int)).toNat = a := by rw [BitVec.toNat_ofInt]; omega
  have e2 : (BitVec.ofInt 16 (b : Int)).toNat = b := by rw [BitVec.toNat_ofInt]; omega
  have e3 : (BitVec.ofInt 16 (a : Int) ^^^ BitVec.ofInt 16 (b : Int)).toNat = a ^^^ b := by
    rw [BitVec.toNat_xor, e1, e2]
  have e4 : bits .xor .u16 (a : Int) (b : Int) = IntKind.u16.wrap ((a ^^^ b : Nat) : Int) := by
    exact congrArg (fun n : Nat => IntKind.u16.wrap (n : Int)) e3
  have h : a ^^^ b < 2 ^ 16 := Nat.xor_lt_two_pow ha hb
  rw [e4]
  simp [IntKind.wrap, IntKind.bits, IntKind.signed]
  omega

theorem size_turned {W H : Int} (h : sizeE W H = 0) : sizeE H W = 0 := by
  obtain ⟨h1, h2, h3, h4, h5⟩ := size_ok h
  unfold sizeE
  rw [if_neg (by omega), if_neg]
  have hq : (16384 : Int).tdiv W = 16384 / W := Int.tdiv_eq_ediv_of_nonneg (by omega)
  rw [hq]
  have : H ≤ 16384 / W := (Int.le_ediv_iff_mul_le (by omega)).2 (by rw [Int.mul_comm]; exact h5)
  omega

theorem may_turned {W H : Int} {n : Nat} (h : mayB W H n = true) : mayB H W n = true := by
  obtain ⟨hs, hn⟩ := mayB_true h
  have e1 : 4 * W * H = 4 * (W * H) := Int.mul_assoc _ _ _
  have e2 : 4 * H * W = 4 * (H * W) := Int.mul_assoc _ _ _
  have e3 : W * H = H * W := Int.mul_comm _ _
  unfold mayB
  exact decide_eq_true ⟨size_turned hs, by omega⟩

theorem sameB_turned {W H : Int} {n : Nat} (px : List Nat) (h : mayB W H n = true) : sameB H W n px W H n px = decide (W = H) := by
  have h2 := may_turned h
  simp only [sameB, h, h2, Bool.true_and]
  by_cases e : W = H
  · subst e; simp
  · have e2 : ¬ H = W := fun h => e h.symm
    simp [e, e2]

/-- One sample set. -/
theorem Own.set1 {w : World} {lo g n c k v : Nat} {px : List Nat} (h : Own w lo (some ⟨g, 0, none⟩) n c px) (hv : v < 65536) :
    Own (w.setCell ⟨g, k, none⟩ (.int .u16 (v : Int))) lo (some ⟨g, 0, none⟩) n c (px.set k v) := by
  have hl := h.len
  rcases h.own.2 with ⟨e, _⟩ | ⟨g', cap, cur, hvv, hg, hh, hc, hm, hs, ht⟩
  · cases e
  cases hvv
  refine ⟨⟨by simp [cellsU]; omega, Or.inr ⟨g, c, _, rfl, hg, heap_setCell_own _ hh, hc, hm, by simpa using hs, ?_⟩⟩, fun b hb => ?_⟩
  · rw [Nat.mul_one] at ht ⊢
    rw [Array.toList_setIfInBounds, List.take_set, ht]
    simp [cellsU, List.map_set]
  · rcases List.mem_or_eq_of_mem_set hb with hb | hb
    · exact h.small b hb
    · rw [hb]; exact hv

theorem set_same {px : List Nat} {k v : Nat} (hk : k < px.length) : decide (px.set k (px.getD k 0 ^^^ v) = px) = decide (v = 0) := by
  have e0 : px.getD k 0 = px[k] := by simp [List.getD_eq_getElem?_getD, hk]
  rw [e0]
  by_cases h : v = 0
  · subst h
    simp
  · have : ¬ px.set k (px[k] ^^^ v) = px := fun e => by
      have e2 : (px.set k (px[k] ^^^ v))[k]? = px[k]? := by rw [e]
      rw [List.getElem?_set_self hk, List.getElem?_eq_getElem hk] at e2
      have e3 : px[k] ^^^ v = px[k] := by simpa using e2
      have e4 : px[k] ^^^ (px[k] ^^^ v) = px[k] ^^^ px[k] := by rw [e3]
      rw [← Nat.xor_assoc, Nat.xor_self, Nat.zero_xor] at e4
      exact h e4
    simp [h, this]

set_option maxHeartbeats 400000 in
set_option maxRecDepth 100000 in
theorem apart_law (W H : Int) (a : Option Addr) (n c : Nat) (px : List Nat) (at_ v : Nat) (w : World) (hl : Lies w a px) (hp : px.length = n) (hc : n ≤ c) (hnil : a = none → n = 0 ∧ c = 0) (hbig : n ≤ 9223372036854775807) (hat : at_ < 65536) (hv : v < 65536) :
    Calls Try.prog 5 #[rasV W H a n c, .int .u16 (at_ : Int), .int .u16 (v : Int)] w fun e w' => e = .returned (.bool true) ∧ Fr (fun _ => False) w w' := by
  obtain ⟨w0, hw0⟩ : ∃ w0, w0 = w.alloc (.cells #[.int .i64 W, .int .i64 H, .slice a n c] 24) := ⟨_, rfl⟩
  have hba : w0.heap[w.heap.size]? = some (.cells #[.int .i64 W, .int .i64 H, .slice a n c] 24 (0, 0)) := by rw [hw0]; exact heap_alloc_at rfl
  have hF : Fr (fun _ => False) w w0 := by rw [hw0]; exact Fr.of_alloc _ _
  have HA := hide (awake_c w0)
  have Hw0 := hide hw0
  have Hl0 := hide hl
  have Hp := hide hp
  have Hn := hide hnil
  have Hc := hide hc
  have HF0 := hide hF
  have Ha := hide hba
  have HM := hide (fun w => rmay_c W H a n c w)
  have HSm := hide (fun w0 (f : Fr (fun _ => False) w w0) => same_c W H a n c px W H a n c px w0 (hl.keep0 f) hp (hl.keep0 f) hp)
  have HSelf := hide (sameB_self W H n)
  have HT := hide (fun h => sameB_turned (W := W) (H := H) (n := n) px h)
  have HPos := hide (fun h => mayB_pos (W := W) (H := H) (n := n) h)
  have HMt := hide (fun h => mayB_true (W := W) (H := H) (n := n) h)
  have HNo : Hid (mayB W H n = false → sameB W H n px W H n px = false) := fun h => by simp [sameB, h]
  obtain ⟨M, hM⟩ : ∃ M, M = mayB W H n := ⟨_, rfl⟩
  have HMm := hide hM
  rw [← hM] at HM HSelf HT HPos HNo
  clear hM hl hp hnil hw0 hF hba hc
  go_enter Try.func5, Try.ntmps5
  go_wp2_with fail
  rw [← Hw0.out]
  refine HA.out.mono ?_
  rintro e w1 ⟨rfl, hF⟩
  have HF1 := hide (HF0.out.join hF)
  have Ha1 := hide (cells_at Ha.out hF (fun e => e))
  have k0 := cell_of (o := 0) Ha1.out rfl
  have k1 := cell_of (o := 1) Ha1.out rfl
  have k2 := cell_of (o := 2) Ha1.out rfl
  clear hF
  by_cases hb : 8000 < n
  · have hbi : (8000 : Int) < (n : Int) := by omega
    cases M with
    | true =>
      go_wp2_with fail
      refine (HM.out w1).mono ?_
      rintro e w2 ⟨rfl, hF⟩
      have HF2 := hide (HF1.out.join hF)
      clear hF
      go_wp2_with fail
      go_ret
      exact ⟨rfl, HF2.out⟩
    | false =>
      have HS := hide HSm.out
      rw [HNo.out rfl] at HS
      go_wp2_with fail
      refine (HM.out w1).mono ?_
      rintro e w2 ⟨rfl, hF⟩
      have HF2 := hide (HF1.out.join hF)
      have Ha2 := hide (cells_at Ha1.out hF (fun e => e))
      clear k0 k1 k2
      have k0 := cell_of (o := 0) Ha2.out rfl
      have k1 := cell_of (o := 1) Ha2.out rfl
      have k2 := cell_of (o := 2) Ha2.out rfl
      clear hF
      go_wp2_with fail
      refine (HS.out w2 HF2.out).mono ?_
      rintro e w3 ⟨rfl, hF⟩
      have HF3 := hide (HF2.out.join hF)
      clear hF
      go_wp2_with fail
      go_ret
      exact ⟨rfl, HF3.out⟩
  have hbi : ¬ (8000 : Int) < (n : Int) := by omega
  go_wp2_with fail
  refine (HM.out w1).mono ?_
  rintro e w2 ⟨rfl, hF⟩
  have HF2 := hide (HF1.out.join hF)
  have Ha2 := hide (cells_at Ha1.out hF (fun e => e))
  clear k0 k1 k2
  have k0 := cell_of (o := 0) Ha2.out rfl
  have k1 := cell_of (o := 1) Ha2.out rfl
  have k2 := cell_of (o := 2) Ha2.out rfl
  clear hF
  cases M with
  | false =>
    have HS := hide HSm.out
    rw [HNo.out rfl] at HS
    go_wp2_with fail
    refine (HM.out w2).mono ?_
    rintro e w3 ⟨rfl, hF⟩
    have HF3 := hide (HF2.out.join hF)
    have Ha3 := hide (cells_at Ha2.out hF (fun e => e))
    clear k0 k1 k2
    have k0 := cell_of (o := 0) Ha3.out rfl
    have k1 := cell_of (o := 1) Ha3.out rfl
    have k2 := cell_of (o := 2) Ha3.out rfl
    clear hF
    go_wp2_with fail
    refine (HS.out w3 HF3.out).mono ?_
    rintro e w4 ⟨rfl, hF⟩
    have HF4 := hide (HF3.out.join hF)
    clear hF
    go_wp2_with fail
    go_ret
    exact ⟨rfl, HF4.out⟩
  | true =>
  have hpos := HPos.out rfl
  have hn0 : 0 < n := hpos.1
  have HC2 := hide (copy_c W H a n c px w2 (Hl0.out.keep0 HF2.out) Hp.out Hn.out (by omega))
  go_wp2_with fail
  refine HC2.out.mono ?_
  rintro e w3 ⟨a3, c3, rfl, ho, hF⟩
  obtain ⟨g, cur, rfl, _, _, hc3, _⟩ := ho.form hn0
  have Hc3 := hide hc3
  have HO3 := hide ho
  have HF3 := hide (HF2.out.join hF)
  have Ha3 := hide (cells_at Ha2.out hF (fun e => e))
  have HZ3 : Hid (w2.heap.size ≤ w3.heap.size) := hF.size
  clear k0 k1 k2 hF ho hc3
  obtain ⟨w4, hw4⟩ : ∃ w4, w4 = w3.alloc (.cells #[.int .i64 W, .int .i64 H, .slice (some ⟨g, 0, none⟩) n c3] 24) := ⟨_, rfl⟩
  have hF : Fr (fun _ => False) w3 w4 := by rw [hw4]; exact Fr.of_alloc _ _
  have HQ4 : Hid (w4.heap[w3.heap.size]? = some (.cells #[.int .i64 W, .int .i64 H, .slice (some ⟨g, 0, none⟩) n c3] 24 (0, 0))) := by rw [hw4]; exact heap_alloc_at rfl
  have HO4 := hide (HO3.out.keep hF fun _ _ h => h)
  have HF4 := hide (HF3.out.join hF)
  have Ha4 := hide (cells_at Ha3.out hF (fun e => e))
  have Hw4 := hide hw4
  have k0 := cell_of (o := 0) Ha4.out rfl
  have k1 := cell_of (o := 1) Ha4.out rfl
  have k2 := cell_of (o := 2) Ha4.out rfl
  rw [hw4] at k0 k1 k2
  clear hF hw4
  obtain ⟨k, hk⟩ : ∃ k, k = at_ % n := ⟨_, rfl⟩
  have hkn : k < n := by rw [hk]; exact Nat.mod_lt _ hn0
  have hkm : (at_ : Int).tmod (n : Int) = (k : Int) := by rw [Int.tmod_eq_emod_of_nonneg (by omega), hk]; omega
  have hn1 : ((n : Int) == 0) = false := beq_false_of_ne (by omega)
  have hki : (k : Int) < (n : Int) := by omega
  have hkem : (at_ : Int) % (n : Int) = (k : Int) := by rw [hk]; omega
  have HS4 := hide (same_c W H (some ⟨g, 0, none⟩) n c3 px W H a n c px w4 HO4.out.lies Hp.out (Hl0.out.keep0 HF4.out) Hp.out)
  rw [HSelf.out px (by simp)] at HS4
  clear hk
  go_wp2_with fail
  rw [← Hw4.out]
  refine HS4.out.mono ?_
  rintro e w5 ⟨rfl, hF⟩
  have HF5 := hide (HF4.out.join hF)
  have Ha5 := hide (cells_at Ha4.out hF (fun e => e))
  have HQ5 := hide (cells_at HQ4.out hF (fun e => e))
  have HO5 := hide (HO4.out.keep hF fun _ _ h => h)
  have HZ5 : Hid (w4.heap.size ≤ w5.heap.size) := hF.size
  clear k0 k1 k2 hF
  have HZ4 : Hid (w4.heap.size = w3.heap.size + 1) := by rw [Hw4.out]; exact size_alloc _ _
  have Hgl : Hid (w2.heap.size ≤ g ∧ g < w3.heap.size) := HO3.out.lt
  obtain ⟨s, hs⟩ : ∃ s, s = px.getD k 0 := ⟨_, rfl⟩
  have hs16 : s < 65536 := by rw [hs]; exact getD_small Hl0.out.1 k
  obtain ⟨X, hX⟩ : ∃ X, X = s ^^^ v := ⟨_, rfl⟩
  have hX16 : X < 65536 := by rw [hX]; exact Nat.xor_lt_two_pow (n := 16) hs16 hv
  have hxor : bits .xor .u16 (s : Int) (v : Int) = (X : Int) := by rw [hX]; exact xor_u16 s v hs16 hv
  obtain ⟨g', cur5, e5, _, hg5, _, hcs5, _⟩ := HO5.out.form hn0
  cases e5
  have z0 := HO5.out.lies.cell (j := k) (by have := Hp.out; omega)
  rw [Nat.zero_add, ← hs] at z0
  have z1 : w5.frozen? ⟨g, k, none⟩ = false := frozen_of hg5
  have q0 := cell_of (o := 0) HQ5.out rfl
  have q1 := cell_of (o := 1) HQ5.out rfl
  have q2 := cell_of (o := 2) HQ5.out rfl
  obtain ⟨w6, hw6⟩ : ∃ w6, w6 = w5.setCell ⟨g, k, none⟩ (.int .u16 (X : Int)) := ⟨_, rfl⟩
  have hG : Fr (fun i => i = g) w5 w6 := by rw [hw6]; exact Fr.of_setCell w5 ⟨g, k, none⟩ _
  have HO6 : Hid (Own w6 w2.heap.size (some ⟨g, 0, none⟩) n c3 (px.set k X)) := by rw [hw6]; exact HO5.out.set1 hX16
  have HF6 : Hid (Fr (fun _ => False) w w6) := frJ HF5.out hG fun i e => by
    have e2 : i = g := e
    have := Hgl.out
    have := HF2.out.size
    omega
  have hpl := lt_of Ha.out
  have Ha6 := hide (cells_at Ha5.out hG (fun e => by
    have e2 : w.heap.size = g := e
    have := Hgl.out
    have := HF2.out.size
    have h1 := lt_of Ha2.out
    omega))
  have HQ6 := hide (cells_at HQ5.out hG (fun e => by
    have e2 : w3.heap.size = g := e
    have := Hgl.out
    omega))
  have HZ6 := hide hG.size
  have Hw6 := hide hw6
  have Hs := hide hs
  have HX := hide hX
  have k0 := cell_of (o := 0) Ha6.out rfl
  have k1 := cell_of (o := 1) Ha6.out rfl
  have k2 := cell_of (o := 2) Ha6.out rfl
  rw [hw6] at k0 k1 k2
  have HC6 := hide (copy_c W H a n c px w6 (Hl0.out.keep0 HF6.out) Hp.out Hn.out (by omega))
  clear hG hw6 hs hX hg5 hcs5 hpl
  go_wp2_with fail
  rw [← Hw6.out]
  refine HC6.out.mono ?_
  rintro e w7 ⟨a7, c7, rfl, ho, hF⟩
  have HO7 := hide ho
  have HF7 := hide (HF6.out.join hF)
  have Ha7 := hide (cells_at Ha6.out hF (fun e => e))
  have HQ7 := hide (cells_at HQ6.out hF (fun e => e))
  have HP7 := hide (HO6.out.keep hF fun _ _ h => h)
  clear k0 k1 k2 q0 q1 q2 z0 z1 hF ho
  obtain ⟨w8, hw8⟩ : ∃ w8, w8 = w7.alloc (.cells #[.int .i64 H, .int .i64 W, .slice a7 n c7] 24) := ⟨_, rfl⟩
  have hF : Fr (fun _ => False) w7 w8 := by rw [hw8]; exact Fr.of_alloc _ _
  have HD8 : Hid (w8.heap[w7.heap.size]? = some (.cells #[.int .i64 H, .int .i64 W, .slice a7 n c7] 24 (0, 0))) := by rw [hw8]; exact heap_alloc_at rfl
  have HO8 := hide (HO7.out.keep hF fun _ _ h => h)
  have HP8 := hide (HP7.out.keep hF fun _ _ h => h)
  have HF8 := hide (HF7.out.join hF)
  have Ha8 := hide (cells_at Ha7.out hF (fun e => e))
  have HQ8 := hide (cells_at HQ7.out hF (fun e => e))
  have Hw8 := hide hw8
  clear hF hw8
  have hV0 : decide (px.set k X = px) = decide (v = 0) := by
    rw [HX.out, Hs.out]
    exact set_same (by have := Hp.out; omega)
  have HE1 := hide fun w9 (f : Fr (fun _ => False) w8 w9) => same_c W H (some ⟨g, 0, none⟩) n c3 (px.set k X) W H a n c px w9 (HP8.out.lies.keep0 f) (by simpa using Hp.out) (Hl0.out.keep0 (HF8.out.join f)) Hp.out
  have e1 : sameB W H n (px.set k X) W H n px = decide (v = 0) := by
    rw [← hV0]
    simp [sameB, ← HMm.out]
  rw [e1] at HE1
  have HE2 := hide fun w9 (f : Fr (fun _ => False) w8 w9) => same_c H W a7 n c7 px W H a n c px w9 (HO8.out.lies.keep0 f) Hp.out (Hl0.out.keep0 (HF8.out.join f)) Hp.out
  rw [HT.out (by simp)] at HE2
  obtain ⟨V, hV⟩ : ∃ V, V = decide (v = 0) := ⟨_, rfl⟩
  obtain ⟨D, hD⟩ : ∃ D, D = decide (W = H) := ⟨_, rfl⟩
  have hv0 : ((v : Int) == 0) = V := by
    rw [hV]
    by_cases h : v = 0
    · simp [h]
    · simp [h]
  have hwh : (W == H) = D := by rw [hD, Bool.eq_iff_iff]; simp
  rw [← hV] at HE1
  rw [← hD] at HE2
  have hVV : (V == V) = true := beq_self_eq_true V
  have hDD : (D == D) = true := beq_self_eq_true D
  clear hV0 e1 hV hD hxor
  go_wp2_with fail
  go_upto_region 11 with fail
  rw [← Hw8.out]
  refine wp_region_held_drew (S := fun w' => Fr (fun _ => False) w8 w') (by kernel_rfl) (by exact Fr.of_drewN _ 1) (fun hHeld => ?_)
  refine wpAnyH_take (i := 0) (v := ?v0) rfl (by kernel_rfl) (by kernel_rfl) (by kernel_rfl) (fun _ _ _ h => h) (Or.inl ⟨by rfl, ?hy0⟩) hHeld ?rest0
  case hy0 => (intro W hSw; (try dsimp only at hSw); have k0 := cell_of (o := 0) (cells_at Ha8.out hSw (fun e => e)) rfl; have k1 := cell_of (o := 1) (cells_at Ha8.out hSw (fun e => e)) rfl; have k2 := cell_of (o := 2) (cells_at Ha8.out hSw (fun e => e)) rfl; have a0 := cell_of (o := 0) (cells_at HQ8.out hSw (fun e => e)) rfl; have a1 := cell_of (o := 1) (cells_at HQ8.out hSw (fun e => e)) rfl; have a2 := cell_of (o := 2) (cells_at HQ8.out hSw (fun e => e)) rfl; have b0 := cell_of (o := 0) (cells_at HD8.out hSw (fun e => e)) rfl; have b1 := cell_of (o := 1) (cells_at HD8.out hSw (fun e => e)) rfl; have b2 := cell_of (o := 2) (cells_at HD8.out hSw (fun e => e)) rfl; go_simp; all_goals (with_reducible rfl))
  change wpAnyH _ _ _ _ _ _ _ (Act.put _ (some 57) _) _
  simp only [Act.put, List.setIfInBounds_toArray, List.set_cons_zero, List.set_cons_succ]
  refine wpAnyH_take (i := 1) (v := ?v1) rfl (by kernel_rfl) (by kernel_rfl) (by kernel_rfl) (fun _ _ _ h => h) (Or.inl ⟨by rfl, ?hy1⟩) hHeld ?rest1
  case hy1 => (intro W hSw; (try dsimp only at hSw); have k0 := cell_of (o := 0) (cells_at Ha8.out hSw (fun e => e)) rfl; have k1 := cell_of (o := 1) (cells_at Ha8.out hSw (fun e => e)) rfl; have k2 := cell_of (o := 2) (cells_at Ha8.out hSw (fun e => e)) rfl; have a0 := cell_of (o := 0) (cells_at HQ8.out hSw (fun e => e)) rfl; have a1 := cell_of (o := 1) (cells_at HQ8.out hSw (fun e => e)) rfl; have a2 := cell_of (o := 2) (cells_at HQ8.out hSw (fun e => e)) rfl; have b0 := cell_of (o := 0) (cells_at HD8.out hSw (fun e => e)) rfl; have b1 := cell_of (o := 1) (cells_at HD8.out hSw (fun e => e)) rfl; have b2 := cell_of (o := 2) (cells_at HD8.out hSw (fun e => e)) rfl; go_simp; all_goals (with_reducible rfl))
  change wpAnyH _ _ _ _ _ _ _ (Act.put _ (some 58) _) _
  simp only [Act.put, List.setIfInBounds_toArray, List.set_cons_zero, List.set_cons_succ]
  refine wpAnyH_take (i := 2) (v := ?v2) rfl (by kernel_rfl) (by kernel_rfl) (by kernel_rfl) (fun _ _ _ h => h) (Or.inl ⟨by rfl, ?hy2⟩) hHeld ?rest2
  case hy2 => (intro W hSw; (try dsimp only at hSw); have k0 := cell_of (o := 0) (cells_at Ha8.out hSw (fun e => e)) rfl; have k1 := cell_of (o := 1) (cells_at Ha8.out hSw (fun e => e)) rfl; have k2 := cell_of (o := 2) (cells_at Ha8.out hSw (fun e => e)) rfl; have a0 := cell_of (o := 0) (cells_at HQ8.out hSw (fun e => e)) rfl; have a1 := cell_of (o := 1) (cells_at HQ8.out hSw (fun e => e)) rfl; have a2 := cell_of (o := 2) (cells_at HQ8.out hSw (fun e => e)) rfl; have b0 := cell_of (o := 0) (cells_at HD8.out hSw (fun e => e)) rfl; have b1 := cell_of (o := 1) (cells_at HD8.out hSw (fun e => e)) rfl; have b2 := cell_of (o := 2) (cells_at HD8.out hSw (fun e => e)) rfl; go_simp; all_goals (with_reducible rfl))
  change wpAnyH _ _ _ _ _ _ _ (Act.put _ (some 59) _) _
  simp only [Act.put, List.setIfInBounds_toArray, List.set_cons_zero, List.set_cons_succ]
  refine wpAnyH_take (i := 3) (v := ?v3) rfl (by kernel_rfl) (by kernel_rfl) (by kernel_rfl) (fun _ _ _ h => h) (Or.inl ⟨by rfl, ?hy3⟩) hHeld ?rest3
  case hy3 => (intro W hSw; (try dsimp only at hSw); have k0 := cell_of (o := 0) (cells_at Ha8.out hSw (fun e => e)) rfl; have k1 := cell_of (o := 1) (cells_at Ha8.out hSw (fun e => e)) rfl; have k2 := cell_of (o := 2) (cells_at Ha8.out hSw (fun e => e)) rfl; have a0 := cell_of (o := 0) (cells_at HQ8.out hSw (fun e => e)) rfl; have a1 := cell_of (o := 1) (cells_at HQ8.out hSw (fun e => e)) rfl; have a2 := cell_of (o := 2) (cells_at HQ8.out hSw (fun e => e)) rfl; have b0 := cell_of (o := 0) (cells_at HD8.out hSw (fun e => e)) rfl; have b1 := cell_of (o := 1) (cells_at HD8.out hSw (fun e => e)) rfl; have b2 := cell_of (o := 2) (cells_at HD8.out hSw (fun e => e)) rfl; go_simp; all_goals (with_reducible rfl))
  change wpAnyH _ _ _ _ _ _ _ (Act.put _ (some 60) _) _
  simp only [Act.put, List.setIfInBounds_toArray, List.set_cons_zero, List.set_cons_succ]
  refine wpAnyH_take (i := 5) (v := ?v5) rfl (by kernel_rfl) (by kernel_rfl) (by kernel_rfl) (fun _ _ _ h => h) (Or.inl ⟨by rfl, ?hy5⟩) hHeld ?rest5
  case hy5 => (intro W hSw; (try dsimp only at hSw); have k0 := cell_of (o := 0) (cells_at Ha8.out hSw (fun e => e)) rfl; have k1 := cell_of (o := 1) (cells_at Ha8.out hSw (fun e => e)) rfl; have k2 := cell_of (o := 2) (cells_at Ha8.out hSw (fun e => e)) rfl; have a0 := cell_of (o := 0) (cells_at HQ8.out hSw (fun e => e)) rfl; have a1 := cell_of (o := 1) (cells_at HQ8.out hSw (fun e => e)) rfl; have a2 := cell_of (o := 2) (cells_at HQ8.out hSw (fun e => e)) rfl; have b0 := cell_of (o := 0) (cells_at HD8.out hSw (fun e => e)) rfl; have b1 := cell_of (o := 1) (cells_at HD8.out hSw (fun e => e)) rfl; have b2 := cell_of (o := 2) (cells_at HD8.out hSw (fun e => e)) rfl; go_simp; all_goals (with_reducible rfl))
  change wpAnyH _ _ _ _ _ _ _ (Act.put _ (some 62) _) _
  simp only [Act.put, List.setIfInBounds_toArray, List.set_cons_zero, List.set_cons_succ]
  refine wpAnyH_take (i := 6) (v := ?v6) rfl (by kernel_rfl) (by kernel_rfl) (by kernel_rfl) (fun _ _ _ h => h) (Or.inl ⟨by rfl, ?hy6⟩) hHeld ?rest6
  case hy6 => (intro W hSw; (try dsimp only at hSw); have k0 := cell_of (o := 0) (cells_at Ha8.out hSw (fun e => e)) rfl; have k1 := cell_of (o := 1) (cells_at Ha8.out hSw (fun e => e)) rfl; have k2 := cell_of (o := 2) (cells_at Ha8.out hSw (fun e => e)) rfl; have a0 := cell_of (o := 0) (cells_at HQ8.out hSw (fun e => e)) rfl; have a1 := cell_of (o := 1) (cells_at HQ8.out hSw (fun e => e)) rfl; have a2 := cell_of (o := 2) (cells_at HQ8.out hSw (fun e => e)) rfl; have b0 := cell_of (o := 0) (cells_at HD8.out hSw (fun e => e)) rfl; have b1 := cell_of (o := 1) (cells_at HD8.out hSw (fun e => e)) rfl; have b2 := cell_of (o := 2) (cells_at HD8.out hSw (fun e => e)) rfl; go_simp; all_goals (with_reducible rfl))
  change wpAnyH _ _ _ _ _ _ _ (Act.put _ (some 63) _) _
  simp only [Act.put, List.setIfInBounds_toArray, List.set_cons_zero, List.set_cons_succ]
  refine wpAnyH_ready (rs := [4]) (by kernel_rfl) (by simp) ?_
  refine AllReadyH.cons rfl (fun K hK => ?_) AllReadyH.nil
  try simp only [List.getElem_toArray, List.getElem_cons_succ, List.getElem_cons_zero]
  go_simp
  refine (HE1.out _ hHeld).mono ?_
  rintro e w12 ⟨rfl, hF12⟩
  refine hK.out _ _ (hHeld.join hF12) (fun hHeld => ?_)
  clear hK K
  refine wpAnyH_take (i := 7) (v := ?v7) rfl (by kernel_rfl) (by kernel_rfl) (by kernel_rfl) (fun _ _ _ h => h) (Or.inl ⟨by rfl, ?hy7⟩) hHeld ?rest7
  case hy7 => (intro W hSw; (try dsimp only at hSw); have k0 := cell_of (o := 0) (cells_at Ha8.out hSw (fun e => e)) rfl; have k1 := cell_of (o := 1) (cells_at Ha8.out hSw (fun e => e)) rfl; have k2 := cell_of (o := 2) (cells_at Ha8.out hSw (fun e => e)) rfl; have a0 := cell_of (o := 0) (cells_at HQ8.out hSw (fun e => e)) rfl; have a1 := cell_of (o := 1) (cells_at HQ8.out hSw (fun e => e)) rfl; have a2 := cell_of (o := 2) (cells_at HQ8.out hSw (fun e => e)) rfl; have b0 := cell_of (o := 0) (cells_at HD8.out hSw (fun e => e)) rfl; have b1 := cell_of (o := 1) (cells_at HD8.out hSw (fun e => e)) rfl; have b2 := cell_of (o := 2) (cells_at HD8.out hSw (fun e => e)) rfl; go_simp; all_goals (with_reducible rfl))
  change wpAnyH _ _ _ _ _ _ _ (Act.put _ (some 64) _) _
  simp only [Act.put, List.setIfInBounds_toArray, List.set_cons_zero, List.set_cons_succ]
  refine wpAnyH_take (i := 8) (v := ?v8) rfl (by kernel_rfl) (by kernel_rfl) (by kernel_rfl) (fun _ _ _ h => h) (Or.inl ⟨by rfl, ?hy8⟩) hHeld ?rest8
  case hy8 => (intro W hSw; (try dsimp only at hSw); have k0 := cell_of (o := 0) (cells_at Ha8.out hSw (fun e => e)) rfl; have k1 := cell_of (o := 1) (cells_at Ha8.out hSw (fun e => e)) rfl; have k2 := cell_of (o := 2) (cells_at Ha8.out hSw (fun e => e)) rfl; have a0 := cell_of (o := 0) (cells_at HQ8.out hSw (fun e => e)) rfl; have a1 := cell_of (o := 1) (cells_at HQ8.out hSw (fun e => e)) rfl; have a2 := cell_of (o := 2) (cells_at HQ8.out hSw (fun e => e)) rfl; have b0 := cell_of (o := 0) (cells_at HD8.out hSw (fun e => e)) rfl; have b1 := cell_of (o := 1) (cells_at HD8.out hSw (fun e => e)) rfl; have b2 := cell_of (o := 2) (cells_at HD8.out hSw (fun e => e)) rfl; go_simp; all_goals (with_reducible rfl))
  change wpAnyH _ _ _ _ _ _ _ (Act.put _ (some 65) _) _
  simp only [Act.put, List.setIfInBounds_toArray, List.set_cons_zero, List.set_cons_succ]
  refine wpAnyH_take (i := 9) (v := ?v9) rfl (by kernel_rfl) (by kernel_rfl) (by kernel_rfl) (fun _ _ _ h => h) (Or.inl ⟨by rfl, ?hy9⟩) hHeld ?rest9
  case hy9 => (intro W hSw; (try dsimp only at hSw); have k0 := cell_of (o := 0) (cells_at Ha8.out hSw (fun e => e)) rfl; have k1 := cell_of (o := 1) (cells_at Ha8.out hSw (fun e => e)) rfl; have k2 := cell_of (o := 2) (cells_at Ha8.out hSw (fun e => e)) rfl; have a0 := cell_of (o := 0) (cells_at HQ8.out hSw (fun e => e)) rfl; have a1 := cell_of (o := 1) (cells_at HQ8.out hSw (fun e => e)) rfl; have a2 := cell_of (o := 2) (cells_at HQ8.out hSw (fun e => e)) rfl; have b0 := cell_of (o := 0) (cells_at HD8.out hSw (fun e => e)) rfl; have b1 := cell_of (o := 1) (cells_at HD8.out hSw (fun e => e)) rfl; have b2 := cell_of (o := 2) (cells_at HD8.out hSw (fun e => e)) rfl; go_simp; all_goals (with_reducible rfl))
  change wpAnyH _ _ _ _ _ _ _ (Act.put _ (some 66) _) _
  simp only [Act.put, List.setIfInBounds_toArray, List.set_cons_zero, List.set_cons_succ]
  refine wpAnyH_take (i := 10) (v := ?v10) rfl (by kernel_rfl) (by kernel_rfl) (by kernel_rfl) (fun _ _ _ h => h) (Or.inl ⟨by rfl, ?hy10⟩) hHeld ?rest10
  case hy10 => (intro W hSw; (try dsimp only at hSw); have k0 := cell_of (o := 0) (cells_at Ha8.out hSw (fun e => e)) rfl; have k1 := cell_of (o := 1) (cells_at Ha8.out hSw (fun e => e)) rfl; have k2 := cell_of (o := 2) (cells_at Ha8.out hSw (fun e => e)) rfl; have a0 := cell_of (o := 0) (cells_at HQ8.out hSw (fun e => e)) rfl; have a1 := cell_of (o := 1) (cells_at HQ8.out hSw (fun e => e)) rfl; have a2 := cell_of (o := 2) (cells_at HQ8.out hSw (fun e => e)) rfl; have b0 := cell_of (o := 0) (cells_at HD8.out hSw (fun e => e)) rfl; have b1 := cell_of (o := 1) (cells_at HD8.out hSw (fun e => e)) rfl; have b2 := cell_of (o := 2) (cells_at HD8.out hSw (fun e => e)) rfl; go_simp; all_goals (with_reducible rfl))
  change wpAnyH _ _ _ _ _ _ _ (Act.put _ (some 67) _) _
  simp only [Act.put, List.setIfInBounds_toArray, List.set_cons_zero, List.set_cons_succ]
  refine wpAnyH_take (i := 11) (v := ?v11) rfl (by kernel_rfl) (by kernel_rfl) (by kernel_rfl) (fun _ _ _ h => h) (Or.inl ⟨by rfl, ?hy11⟩) hHeld ?rest11
  case hy11 => (intro W hSw; (try dsimp only at hSw); have k0 := cell_of (o := 0) (cells_at Ha8.out hSw (fun e => e)) rfl; have k1 := cell_of (o := 1) (cells_at Ha8.out hSw (fun e => e)) rfl; have k2 := cell_of (o := 2) (cells_at Ha8.out hSw (fun e => e)) rfl; have a0 := cell_of (o := 0) (cells_at HQ8.out hSw (fun e => e)) rfl; have a1 := cell_of (o := 1) (cells_at HQ8.out hSw (fun e => e)) rfl; have a2 := cell_of (o := 2) (cells_at HQ8.out hSw (fun e => e)) rfl; have b0 := cell_of (o := 0) (cells_at HD8.out hSw (fun e => e)) rfl; have b1 := cell_of (o := 1) (cells_at HD8.out hSw (fun e => e)) rfl; have b2 := cell_of (o := 2) (cells_at HD8.out hSw (fun e => e)) rfl; go_simp; all_goals (with_reducible rfl))
  change wpAnyH _ _ _ _ _ _ _ (Act.put _ (some 68) _) _
  simp only [Act.put, List.setIfInBounds_toArray, List.set_cons_zero, List.set_cons_succ]
  refine wpAnyH_take (i := 13) (v := ?v13) rfl (by kernel_rfl) (by kernel_rfl) (by kernel_rfl) (fun _ _ _ h => h) (Or.inl ⟨by rfl, ?hy13⟩) hHeld ?rest13
  case hy13 => (intro W hSw; (try dsimp only at hSw); have k0 := cell_of (o := 0) (cells_at Ha8.out hSw (fun e => e)) rfl; have k1 := cell_of (o := 1) (cells_at Ha8.out hSw (fun e => e)) rfl; have k2 := cell_of (o := 2) (cells_at Ha8.out hSw (fun e => e)) rfl; have a0 := cell_of (o := 0) (cells_at HQ8.out hSw (fun e => e)) rfl; have a1 := cell_of (o := 1) (cells_at HQ8.out hSw (fun e => e)) rfl; have a2 := cell_of (o := 2) (cells_at HQ8.out hSw (fun e => e)) rfl; have b0 := cell_of (o := 0) (cells_at HD8.out hSw (fun e => e)) rfl; have b1 := cell_of (o := 1) (cells_at HD8.out hSw (fun e => e)) rfl; have b2 := cell_of (o := 2) (cells_at HD8.out hSw (fun e => e)) rfl; go_simp; all_goals (with_reducible rfl))
  change wpAnyH _ _ _ _ _ _ _ (Act.put _ (some 70) _) _
  simp only [Act.put, List.setIfInBounds_toArray, List.set_cons_zero, List.set_cons_succ]
  refine wpAnyH_take (i := 15) (v := ?v15) rfl (by kernel_rfl) (by kernel_rfl) (by kernel_rfl) (fun _ _ _ h => h) (Or.inl ⟨by rfl, ?hy15⟩) hHeld ?rest15
  case hy15 => (intro W hSw; (try dsimp only at hSw); have k0 := cell_of (o := 0) (cells_at Ha8.out hSw (fun e => e)) rfl; have k1 := cell_of (o := 1) (cells_at Ha8.out hSw (fun e => e)) rfl; have k2 := cell_of (o := 2) (cells_at Ha8.out hSw (fun e => e)) rfl; have a0 := cell_of (o := 0) (cells_at HQ8.out hSw (fun e => e)) rfl; have a1 := cell_of (o := 1) (cells_at HQ8.out hSw (fun e => e)) rfl; have a2 := cell_of (o := 2) (cells_at HQ8.out hSw (fun e => e)) rfl; have b0 := cell_of (o := 0) (cells_at HD8.out hSw (fun e => e)) rfl; have b1 := cell_of (o := 1) (cells_at HD8.out hSw (fun e => e)) rfl; have b2 := cell_of (o := 2) (cells_at HD8.out hSw (fun e => e)) rfl; go_simp; all_goals (with_reducible rfl))
  change wpAnyH _ _ _ _ _ _ _ (Act.put _ (some 72) _) _
  simp only [Act.put, List.setIfInBounds_toArray, List.set_cons_zero, List.set_cons_succ]
  refine wpAnyH_take (i := 14) (v := ?v14) rfl (by kernel_rfl) (by kernel_rfl) (by kernel_rfl) (fun _ _ _ h => h) (Or.inl ⟨by rfl, ?hy14⟩) hHeld ?rest14
  case hy14 => (intro W hSw; (try dsimp only at hSw); have k0 := cell_of (o := 0) (cells_at Ha8.out hSw (fun e => e)) rfl; have k1 := cell_of (o := 1) (cells_at Ha8.out hSw (fun e => e)) rfl; have k2 := cell_of (o := 2) (cells_at Ha8.out hSw (fun e => e)) rfl; have a0 := cell_of (o := 0) (cells_at HQ8.out hSw (fun e => e)) rfl; have a1 := cell_of (o := 1) (cells_at HQ8.out hSw (fun e => e)) rfl; have a2 := cell_of (o := 2) (cells_at HQ8.out hSw (fun e => e)) rfl; have b0 := cell_of (o := 0) (cells_at HD8.out hSw (fun e => e)) rfl; have b1 := cell_of (o := 1) (cells_at HD8.out hSw (fun e => e)) rfl; have b2 := cell_of (o := 2) (cells_at HD8.out hSw (fun e => e)) rfl; go_simp; all_goals (with_reducible rfl))
  change wpAnyH _ _ _ _ _ _ _ (Act.put _ (some 71) _) _
  simp only [Act.put, List.setIfInBounds_toArray, List.set_cons_zero, List.set_cons_succ]
  refine wpAnyH_take (i := 16) (v := ?v16) rfl (by kernel_rfl) (by kernel_rfl) (by kernel_rfl) (fun _ _ _ h => h) (Or.inl ⟨by rfl, ?hy16⟩) hHeld ?rest16
  case hy16 => (intro W hSw; (try dsimp only at hSw); have k0 := cell_of (o := 0) (cells_at Ha8.out hSw (fun e => e)) rfl; have k1 := cell_of (o := 1) (cells_at Ha8.out hSw (fun e => e)) rfl; have k2 := cell_of (o := 2) (cells_at Ha8.out hSw (fun e => e)) rfl; have a0 := cell_of (o := 0) (cells_at HQ8.out hSw (fun e => e)) rfl; have a1 := cell_of (o := 1) (cells_at HQ8.out hSw (fun e => e)) rfl; have a2 := cell_of (o := 2) (cells_at HQ8.out hSw (fun e => e)) rfl; have b0 := cell_of (o := 0) (cells_at HD8.out hSw (fun e => e)) rfl; have b1 := cell_of (o := 1) (cells_at HD8.out hSw (fun e => e)) rfl; have b2 := cell_of (o := 2) (cells_at HD8.out hSw (fun e => e)) rfl; go_simp; all_goals (with_reducible rfl))
  change wpAnyH _ _ _ _ _ _ _ (Act.put _ (some 73) _) _
  simp only [Act.put, List.setIfInBounds_toArray, List.set_cons_zero, List.set_cons_succ]
  refine wpAnyH_take (i := 17) (v := ?v17) rfl (by kernel_rfl) (by kernel_rfl) (by kernel_rfl) (fun _ _ _ h => h) (Or.inl ⟨by rfl, ?hy17⟩) hHeld ?rest17
  case hy17 => (intro W hSw; (try dsimp only at hSw); have k0 := cell_of (o := 0) (cells_at Ha8.out hSw (fun e => e)) rfl; have k1 := cell_of (o := 1) (cells_at Ha8.out hSw (fun e => e)) rfl; have k2 := cell_of (o := 2) (cells_at Ha8.out hSw (fun e => e)) rfl; have a0 := cell_of (o := 0) (cells_at HQ8.out hSw (fun e => e)) rfl; have a1 := cell_of (o := 1) (cells_at HQ8.out hSw (fun e => e)) rfl; have a2 := cell_of (o := 2) (cells_at HQ8.out hSw (fun e => e)) rfl; have b0 := cell_of (o := 0) (cells_at HD8.out hSw (fun e => e)) rfl; have b1 := cell_of (o := 1) (cells_at HD8.out hSw (fun e => e)) rfl; have b2 := cell_of (o := 2) (cells_at HD8.out hSw (fun e => e)) rfl; go_simp; all_goals (with_reducible rfl))
  change wpAnyH _ _ _ _ _ _ _ (Act.put _ (some 74) _) _
  simp only [Act.put, List.setIfInBounds_toArray, List.set_cons_zero, List.set_cons_succ]
  refine wpAnyH_ready (rs := [12]) (by kernel_rfl) (by simp) ?_
  refine AllReadyH.cons rfl (fun K hK => ?_) AllReadyH.nil
  try simp only [List.getElem_toArray, List.getElem_cons_succ, List.getElem_cons_zero]
  go_simp
  refine (HE2.out _ hHeld).mono ?_
  rintro e w13 ⟨rfl, hF13⟩
  refine hK.out _ _ (hHeld.join hF13) (fun hHeld => ?_)
  clear hK K
  refine wpAnyH_take (i := 18) (v := ?v18) rfl (by kernel_rfl) (by kernel_rfl) (by kernel_rfl) (fun _ _ _ h => h) (Or.inl ⟨by rfl, ?hy18⟩) hHeld ?rest18
  case hy18 => (intro W hSw; (try dsimp only at hSw); have k0 := cell_of (o := 0) (cells_at Ha8.out hSw (fun e => e)) rfl; have k1 := cell_of (o := 1) (cells_at Ha8.out hSw (fun e => e)) rfl; have k2 := cell_of (o := 2) (cells_at Ha8.out hSw (fun e => e)) rfl; have a0 := cell_of (o := 0) (cells_at HQ8.out hSw (fun e => e)) rfl; have a1 := cell_of (o := 1) (cells_at HQ8.out hSw (fun e => e)) rfl; have a2 := cell_of (o := 2) (cells_at HQ8.out hSw (fun e => e)) rfl; have b0 := cell_of (o := 0) (cells_at HD8.out hSw (fun e => e)) rfl; have b1 := cell_of (o := 1) (cells_at HD8.out hSw (fun e => e)) rfl; have b2 := cell_of (o := 2) (cells_at HD8.out hSw (fun e => e)) rfl; go_simp; all_goals (with_reducible rfl))
  change wpAnyH _ _ _ _ _ _ _ (Act.put _ (some 75) _) _
  simp only [Act.put, List.setIfInBounds_toArray, List.set_cons_zero, List.set_cons_succ]
  refine wpAnyH_take (i := 19) (v := ?v19) rfl (by kernel_rfl) (by kernel_rfl) (by kernel_rfl) (fun _ _ _ h => h) (Or.inl ⟨by rfl, ?hy19⟩) hHeld ?rest19
  case hy19 => (intro W hSw; (try dsimp only at hSw); have k0 := cell_of (o := 0) (cells_at Ha8.out hSw (fun e => e)) rfl; have k1 := cell_of (o := 1) (cells_at Ha8.out hSw (fun e => e)) rfl; have k2 := cell_of (o := 2) (cells_at Ha8.out hSw (fun e => e)) rfl; have a0 := cell_of (o := 0) (cells_at HQ8.out hSw (fun e => e)) rfl; have a1 := cell_of (o := 1) (cells_at HQ8.out hSw (fun e => e)) rfl; have a2 := cell_of (o := 2) (cells_at HQ8.out hSw (fun e => e)) rfl; have b0 := cell_of (o := 0) (cells_at HD8.out hSw (fun e => e)) rfl; have b1 := cell_of (o := 1) (cells_at HD8.out hSw (fun e => e)) rfl; have b2 := cell_of (o := 2) (cells_at HD8.out hSw (fun e => e)) rfl; go_simp; all_goals (with_reducible rfl))
  change wpAnyH _ _ _ _ _ _ _ (Act.put _ (some 76) _) _
  simp only [Act.put, List.setIfInBounds_toArray, List.set_cons_zero, List.set_cons_succ]
  refine wpAnyH_take (i := 20) (v := ?v20) rfl (by kernel_rfl) (by kernel_rfl) (by kernel_rfl) (fun _ _ _ h => h) (Or.inl ⟨by rfl, ?hy20⟩) hHeld ?rest20
  case hy20 => (intro W hSw; (try dsimp only at hSw); have k0 := cell_of (o := 0) (cells_at Ha8.out hSw (fun e => e)) rfl; have k1 := cell_of (o := 1) (cells_at Ha8.out hSw (fun e => e)) rfl; have k2 := cell_of (o := 2) (cells_at Ha8.out hSw (fun e => e)) rfl; have a0 := cell_of (o := 0) (cells_at HQ8.out hSw (fun e => e)) rfl; have a1 := cell_of (o := 1) (cells_at HQ8.out hSw (fun e => e)) rfl; have a2 := cell_of (o := 2) (cells_at HQ8.out hSw (fun e => e)) rfl; have b0 := cell_of (o := 0) (cells_at HD8.out hSw (fun e => e)) rfl; have b1 := cell_of (o := 1) (cells_at HD8.out hSw (fun e => e)) rfl; have b2 := cell_of (o := 2) (cells_at HD8.out hSw (fun e => e)) rfl; go_simp; all_goals (with_reducible rfl))
  change wpAnyH _ _ _ _ _ _ _ (Act.put _ (some 6) _) _
  simp only [Act.put, List.setIfInBounds_toArray, List.set_cons_zero, List.set_cons_succ]
  refine wpAnyH_done (by kernel_rfl) ?_ _
  have HG := hide hHeld
  clear hHeld
  go_wp2_with fail
  go_ret
  exact ⟨rfl, HF8.out.join HG.out⟩
end Go.Proofs.Ytaeppfbphbkigaa
