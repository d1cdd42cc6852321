/-
  adam: AdamPasses and AdamBytes.
-/
import Derived.Test.YtdnhndiaiejkoaaDoorLa
namespace Go.Proofs.YtdnhndiaiejkoaaDoor
open Go.RowKit
set_option linter.unusedVariables false

theorem pas_mem {W H : Int} {q : Pz} : ∀ n, q ∈ pas W H n → ∃ i, i < n ∧ q = psn W H i ∧ 0 < q.w ∧ 0 < q.h
  | 0, h => by cases h
  | n + 1, h => by
    unfold pas at h
    split at h
    · next hc =>
      rcases List.mem_append.1 h with h | h
      · obtain ⟨i, h1, h2⟩ := pas_mem n h
        exact ⟨i, by omega, h2⟩
      · rw [List.mem_singleton] at h
        subst h
        exact ⟨n, by omega, rfl, hc⟩
    · obtain ⟨i, h1, h2⟩ := pas_mem n h
      exact ⟨i, by omega, h2⟩
theorem getD_memP {l : List Pz} {k : Nat} (h : k < l.length) : l.getD k default ∈ l := by
  rw [List.getD_eq_getElem?_getD, List.getElem?_eq_getElem h]; exact List.getElem_mem _
theorem psn_facts {W H : Int} (h : sizeE W H = 0) (i : Nat) : 0 ≤ (psn W H i).x ∧ (psn W H i).x ≤ 4 ∧ 0 ≤ (psn W H i).y ∧ (psn W H i).y ≤ 4 ∧ 1 ≤ (psn W H i).dx ∧ (psn W H i).dx ≤ 8 ∧ 1 ≤ (psn W H i).dy ∧ (psn W H i).dy ≤ 8 ∧ 0 ≤ (psn W H i).w ∧ (psn W H i).w ≤ W ∧ 0 ≤ (psn W H i).h ∧ (psn W H i).h ≤ H := by
  obtain ⟨s1, s2, s3, s4, _⟩ := size_ok h
  obtain ⟨f1, f2, f3, f4, f5, f6, f7, f8⟩ := gr_facts i
  have h1 := cnt_facts s1 s2 f1 f2
  have h2 := cnt_facts s3 s4 f5 f6
  show 0 ≤ (gr i).x ∧ (gr i).x ≤ 4 ∧ 0 ≤ (gr i).y ∧ (gr i).y ≤ 4 ∧ 1 ≤ (gr i).dx ∧ (gr i).dx ≤ 8 ∧ 1 ≤ (gr i).dy ∧ (gr i).dy ≤ 8 ∧ 0 ≤ cnt W (gr i).x (gr i).dx ∧ cnt W (gr i).x (gr i).dx ≤ W ∧ 0 ≤ cnt H (gr i).y (gr i).dy ∧ cnt H (gr i).y (gr i).dy ≤ H
  omega
theorem pasV_ok (W H : Int) : ∀ k, k < (pasV W H).length → ((pasV W H).getD k default).ok := by
  intro k hk
  unfold pasV at hk ⊢
  by_cases h : sizeE W H = 0
  · rw [if_pos h] at hk ⊢
    obtain ⟨s1, s2, s3, s4, _⟩ := size_ok h
    obtain ⟨i, _, hq, _⟩ := pas_mem 7 (getD_memP hk)
    rw [hq]
    have := psn_facts h i
    constructor <;> exact ⟨by omega, by omega⟩
  · rw [if_neg h] at hk
    cases hk
theorem pasV_len (W H : Int) : (pasV W H).length ≤ 7 := by
  unfold pasV
  split
  · exact pas_le _ _ _
  · decide
theorem whlV_ok (W H : Int) : ∀ k, k < (whlV W H).length → ((whlV W H).getD k default).ok := by
  intro k hk
  unfold whlV at hk ⊢
  by_cases h : sizeE W H = 0
  · rw [if_pos h] at hk ⊢
    obtain ⟨s1, s2, s3, s4, _⟩ := size_ok h
    have : k = 0 := by simp [whl] at hk; omega
    subst this
    constructor <;> exact ⟨by simp [whl]; try omega, by simp [whl]; try omega⟩
  · rw [if_neg h] at hk
    cases hk
theorem whlV_len (W H : Int) : (whlV W H).length ≤ 1 := by
  unfold whlV
  split
  · exact Nat.le_refl 1
  · decide

set_option maxHeartbeats 1600000 in
theorem passes_law (W H : Int) (w : World) (hg : Gw w) : Calls Tryd.prog 3 #[.int .i64 W, .int .i64 H] w fun e w' => e = .returned (.bool true) ∧ Below w.heap.size w w' := by
  have HG := hide hg
  clear hg
  go_enter Tryd.func3, Tryd.ntmps3
  go_wp2_with fail
  refine (awake_c w HG.out).mono ?_
  rintro e w1 ⟨rfl, hf1⟩
  have HF1 := hide hf1
  clear hf1
  go_wp2_with fail
  refine (passes_any W H w1 (HG.out.fr HF1.out)).mono ?_
  rintro e w2 ⟨v, rfl, ho, hf2⟩
  obtain ⟨a2, c2, rfl, _, _, hl2⟩ := ho.form
  have HF2 := hide (HF1.out.join hf2)
  have HL2 := hide hl2
  clear hl2 hf2 ho HF1 HG
  have hlen := pasV_len W H
  have Hok := hide (pasV_ok W H)
  have HR := hide (fun w => rpasses_any W H w)
  generalize pasV W H = l at *
  go_wp2_with fail
  refine (model_c a2 c2 l w2 HL2.out (by omega)).mono ?_
  rintro e w3 ⟨v, rfl, ho, hf3⟩
  obtain ⟨a3, c3, rfl, _, _, hl3⟩ := ho.form
  have HF3 := hide (HF2.out.join hf3)
  have HL3 := hide hl3
  clear hl3 hf3 ho HF2 HL2
  go_wp2_with fail
  refine (HR.out w3).mono ?_
  rintro e w4 ⟨v, rfl, ho, hf4⟩
  obtain ⟨a4, c4, rfl, _, _, hl4⟩ := ho.form
  have HF4 := hide (HF3.out.join hf4)
  have HL4 := hide hl4
  have HL5 := hide (HL3.out.fr0 hf4)
  clear hl4 hf4 ho HF3 HL3 HR
  go_wp2_with fail
  refine (same_c a3 a4 c3 c4 l w4 HL5.out HL4.out (by omega) Hok.out).mono ?_
  rintro e w5 ⟨rfl, hf5⟩
  have HF5 := hide (HF4.out.join hf5)
  clear hf5 HF4 HL4 HL5 Hok
  go_wp2_with fail
  refine (whole_any W H w5).mono ?_
  rintro e w6 ⟨v, rfl, ho, hf6⟩
  obtain ⟨a6, c6, rfl, _, _, hl6⟩ := ho.form
  have HF6 := hide (HF5.out.join hf6)
  have HL6 := hide hl6
  clear hl6 hf6 ho HF5
  have hlen2 := whlV_len W H
  have Hok := hide (whlV_ok W H)
  have HR := hide (fun w => rwhole_any W H w)
  generalize whlV W H = l2 at *
  go_wp2_with fail
  refine (model_c a6 c6 l2 w6 HL6.out (by omega)).mono ?_
  rintro e w7 ⟨v, rfl, ho, hf7⟩
  obtain ⟨a7, c7, rfl, _, _, hl7⟩ := ho.form
  have HF7 := hide (HF6.out.join hf7)
  have HL7 := hide hl7
  clear hl7 hf7 ho HF6 HL6
  go_wp2_with fail
  refine (HR.out w7).mono ?_
  rintro e w8 ⟨v, rfl, ho, hf8⟩
  obtain ⟨a8, c8, rfl, _, _, hl8⟩ := ho.form
  have HF8 := hide (HF7.out.join hf8)
  have HL8 := hide hl8
  have HL9 := hide (HL7.out.fr0 hf8)
  clear hl8 hf8 ho HF7 HL7 HR
  go_wp2_with fail
  refine (same_c a7 a8 c7 c8 l2 w8 HL9.out HL8.out (by omega) Hok.out).mono ?_
  rintro e w9 ⟨rfl, hf9⟩
  have HF9 := hide (HF8.out.join hf9)
  clear hf9 HF8 HL8 HL9 Hok
  go_wp2
  go_ret
  exact ⟨rfl, HF9.out.below (Nat.le_refl _) fun _ h => h.elim⟩

set_option maxHeartbeats 1600000 in
theorem bytes_law (a : Option Addr) (n c : Nat) (l : List Pz) (b x : Int) (w : World) (hg : Gw w) (hl : LiesP w a l) (hn : l.length = n) : Calls Tryd.prog 5 #[.slice a n c, .int .i64 b, .int .i64 x] w fun e w' => e = .returned (.bool true) ∧ Below w.heap.size w w' := by
  subst hn
  have HG := hide hg
  have HL := hide hl
  clear hg hl
  by_cases h20 : l.length ≤ 20
  case neg =>
    have h21 : (20 : Int) < (l.length : Int) := by omega
    go_enter Tryd.func5, Tryd.ntmps5
    go_wp2_with fail
    refine (awake_c w HG.out).mono ?_
    rintro e w1 ⟨rfl, hf1⟩
    have HF1 := hide hf1
    clear hf1
    go_wp2
    go_ret
    exact ⟨rfl, HF1.out.below (Nat.le_refl _) fun _ h => h.elim⟩
  have h21 : ¬ (20 : Int) < (l.length : Int) := by omega
  go_enter Tryd.func5, Tryd.ntmps5
  go_wp2_with fail
  refine (awake_c w HG.out).mono ?_
  rintro e w1 ⟨rfl, hf1⟩
  have HF1 := hide hf1
  have HL1 := hide (HL.out.fr0 hf1)
  clear hf1 HG HL
  go_wp2_with fail
  refine (lback_c a c l w1 HL1.out (by omega)).mono ?_
  rintro e w2 ⟨v, rfl, ho, hf2⟩
  obtain ⟨a2, c2, rfl, _, _, hl2⟩ := ho.form
  have HF2 := hide (HF1.out.join hf2)
  have HL2 := hide hl2
  have HL3 := hide (HL1.out.fr0 hf2)
  clear hl2 hf2 ho HF1 HL1
  go_wp2_with fail
  refine (bytes_c a2 c2 l b w2 HL2.out (by omega)).mono ?_
  rintro e w3 ⟨rfl, hf3⟩
  have HF3 := hide (HF2.out.join hf3)
  have HL4 := hide (HL3.out.fr0 hf3)
  clear hf3 HF2 HL2 HL3
  go_wp2_with fail
  refine (rbytes_c a c l b w3 HL4.out (by omega)).mono ?_
  rintro e w4 ⟨rfl, hf4⟩
  have HF4 := hide (HF3.out.join hf4)
  clear hf4 HF3 HL4
  generalize bytesV l b = V
  go_wp2_with fail
  refine (row_c x b w4).mono ?_
  rintro e w5 ⟨rfl, h5⟩
  replace h5 := h5.symm
  subst h5
  go_wp2_with fail
  refine (rrow_c x b w4).mono ?_
  rintro e w5 ⟨rfl, h5⟩
  replace h5 := h5.symm
  subst h5
  generalize rowV x b = R
  go_wp2
  go_ret
  exact ⟨rfl, HF4.out.below (Nat.le_refl _) fun _ h => h.elim⟩
end Go.Proofs.YtdnhndiaiejkoaaDoor
