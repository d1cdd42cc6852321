/-
  Plain mathematics of the package-merge method: what is chosen of each row.
-/
import Derived.Test.YtlkidddbndkfiaaPm
namespace Go.Proofs.Ytlkidddbndkfiaa

/-- Symbols by their weights, at least two of them. -/
structure Syms (S : List Item) (L : Nat) : Prop where
  sym : ∀ x ∈ S, x.2 = false
  asc : Asc S
  two : 2 ≤ S.length
  fits : S.length ≤ 2 ^ L
  one : 1 ≤ L

/-- The pairs of which a row is made. -/
def bel (S : List Item) : Nat → List Item
  | 0 => []
  | j + 1 => prs (rowN S j)

theorem bel_true (S : List Item) (j : Nat) : ∀ x ∈ bel S j, x.2 = true := by
  cases j with
  | zero => intro x hx; simp [bel] at hx
  | succ j => exact prs_true _

theorem row_mrg {S : List Item} (h1 : ∀ x ∈ S, x.2 = false) (h2 : Asc S) (j : Nat) : IsMrg S (bel S j) (rowN S j) := by
  induction j with
  | zero => exact ⟨h2, List.filter_eq_self.2 (fun x hx => by simp [h1 x hx]), List.filter_eq_nil_iff.2 (fun x hx => by simp [h1 x hx])⟩
  | succ j ih =>
    have f := mrg_filter S (prs (rowN S j)) h1 (prs_true _)
    exact ⟨mrg_asc S (prs (rowN S j)) h2 (prs_asc _ ih.asc) h1 (prs_true _), f.1, f.2⟩

theorem row_len {S : List Item} {L : Nat} (h : S.length ≤ 2 ^ L) (j : Nat) (hj : j ≤ L) : 2 * S.length ≤ (rowN S j).length + 2 ^ (L - j) := by
  induction j with
  | zero => simp only [rowN, Nat.sub_zero]; omega
  | succ j ih =>
    have := ih (by omega)
    simp only [rowN, mrg_length, prs_length]
    rw [show L - j = (L - (j + 1)) + 1 by omega, Nat.pow_succ] at this
    omega

/-- How many of a row are chosen, from the last row on. -/
def cT (S : List Item) (L : Nat) : Nat → Nat
  | 0 => 2 * S.length - 2
  | t + 1 => 2 * cntP ((rowN S (L - 1 - t)).take (cT S L t))
def pT (S : List Item) (L t : Nat) : Nat := cntP ((rowN S (L - 1 - t)).take (cT S L t))
def sT (S : List Item) (L t : Nat) : Nat := cT S L t - pT S L t

theorem cT_succ (S : List Item) (L t : Nat) : cT S L (t + 1) = 2 * pT S L t := rfl

theorem cT_le {S : List Item} {L : Nat} (h : Syms S L) : ∀ t, t < L → cT S L t ≤ (rowN S (L - 1 - t)).length := by
  intro t ht
  have h1 := h.one
  induction t with
  | zero =>
    have := row_len h.fits (L - 1) (by omega)
    rw [show L - (L - 1) = 1 by omega] at this
    simp only [cT, Nat.sub_zero]
    omega
  | succ t ih =>
    have h2 := (row_mrg h.sym h.asc (L - 1 - t)).take _ (ih (by omega))
    have h3 := h2.2.2.2.1
    rw [show L - 1 - t = (L - 1 - (t + 1)) + 1 by omega] at h3
    simp only [bel, prs_length] at h3
    rw [cT_succ]
    unfold pT
    rw [show L - 1 - t = (L - 1 - (t + 1)) + 1 by omega]
    omega

theorem sT_le {S : List Item} {L : Nat} (h : Syms S L) {t : Nat} (ht : t < L) : sT S L t ≤ S.length ∧ pT S L t ≤ cT S L t ∧ sT S L t + pT S L t = cT S L t := by
  have h2 := (row_mrg h.sym h.asc (L - 1 - t)).take _ (cT_le h t ht)
  unfold sT pT
  exact ⟨h2.2.2.1, h2.2.2.2.2, by omega⟩

/-- From one row to the one ahead no more symbols are chosen. -/
theorem sT_anti {S : List Item} {L : Nat} (h : Syms S L) {t : Nat} (ht : t + 1 < L) : sT S L (t + 1) ≤ sT S L t := by
  rcases Nat.lt_or_ge (sT S L t) (sT S L (t + 1)) with hlt | hge
  · exfalso
    obtain ⟨a1, a2, a3⟩ := sT_le h (t := t) (by omega)
    obtain ⟨b1, b2, b3⟩ := sT_le h (t := t + 1) ht
    have hc := cT_le h t (by omega)
    have hc' := cT_le h (t + 1) ht
    rw [cT_succ] at b2 b3 hc'
    have hm := row_mrg h.sym h.asc (L - 1 - t)
    have hm' := row_mrg h.sym h.asc (L - 1 - (t + 1))
    obtain ⟨x, hx⟩ : ∃ x, S[sT S L t]? = some x := ⟨_, List.getElem?_eq_getElem (by omega)⟩
    have hp0 : 0 < pT S L t := by omega
    have hj : L - 1 - t = (L - 1 - (t + 1)) + 1 := by omega
    -- the last pair chosen
    have hg := prs_get (rowN S (L - 1 - (t + 1))) (pT S L t - 1) (by omega)
    have hb : (bel S (L - 1 - t))[pT S L t - 1]? = some (((rowN S (L - 1 - (t + 1))).getD (2 * (pT S L t - 1)) (0, false)).1 + ((rowN S (L - 1 - (t + 1))).getD (2 * (pT S L t - 1) + 1) (0, false)).1, true) := by
      rw [hj]; exact hg
    have i1 := hm.pair_in hc hb (by show pT S L t - 1 < pT S L t; omega)
    have i2 := (hm.sym_in hc hx).2 (Nat.le_refl _)
    have k1 := hm.asc.cut _ i1 i2
    have fx := h.sym x (List.mem_of_getElem? hx)
    have i3 := (hm'.sym_in (c := 2 * pT S L t) hc' hx).1 (by
      have : cntP ((rowN S (L - 1 - (t + 1))).take (2 * pT S L t)) = pT S L (t + 1) := rfl
      rw [this]
      unfold sT at hlt ⊢
      rw [cT_succ] at hlt
      exact hlt)
    have k2 := hm'.asc.last (c := 2 * pT S L t - 1) (x := x) (by rw [show 2 * pT S L t - 1 + 1 = 2 * pT S L t by omega]; exact i3) (by omega)
    rw [show 2 * (pT S L t - 1) + 1 = 2 * pT S L t - 1 by omega] at k1
    unfold key at k1
    rw [fx] at k1
    simp only [if_true, Bool.false_eq_true, if_false] at k1
    omega
  · exact hge

/-- The pair that would push the last symbol out is not lighter than it. -/
theorem last_pair {S : List Item} {L : Nat} (h : Syms S L) {z : Item} (hz : S[S.length - 1]? = some z) (j : Nat) {x : Item} (hx : (prs (rowN S j))[S.length - 2]? = some x) : z.1 ≤ x.1 := by
  have h2 := h.two
  have hl : S.length - 2 < (prs (rowN S j)).length := (List.getElem?_eq_some_iff.1 hx).1
  rw [prs_length] at hl
  have hc : 2 * S.length - 2 ≤ (rowN S j).length := by omega
  have hg := prs_get (rowN S j) (S.length - 2) (by omega)
  rw [hx] at hg
  have hxe := Option.some.inj hg
  have hm := row_mrg h.sym h.asc j
  have hx1 : ((rowN S j).getD (2 * S.length - 3) (0, false)).1 ≤ x.1 := by
    rw [hxe, show 2 * (S.length - 2) + 1 = 2 * S.length - 3 by omega]
    simp
  obtain ⟨t1, t2, t3, t4, t5⟩ := hm.take _ hc
  by_cases hs : S.length - 1 < 2 * S.length - 2 - cntP ((rowN S j).take (2 * S.length - 2))
  · have i1 := (hm.sym_in hc hz).1 hs
    have := hm.asc.last (c := 2 * S.length - 3) (x := z) (by rw [show 2 * S.length - 3 + 1 = 2 * S.length - 2 by omega]; exact i1) (by omega)
    omega
  · cases j with
    | zero => simp only [bel, List.length_nil] at t4; omega
    | succ j =>
      obtain ⟨y, hy⟩ : ∃ y, (prs (rowN S j))[S.length - 2]? = some y := ⟨_, List.getElem?_eq_getElem (by simp only [bel] at t4; omega)⟩
      have hzy := last_pair h hz j hy
      have i1 := hm.pair_in hc (i := S.length - 2) (x := y) hy (by omega)
      have := hm.asc.last (c := 2 * S.length - 3) (x := y) (by rw [show 2 * S.length - 3 + 1 = 2 * S.length - 2 by omega]; exact i1) (by omega)
      omega

/-- Of the last row all symbols are chosen. -/
theorem sT_zero {S : List Item} {L : Nat} (h : Syms S L) : sT S L 0 = S.length := by
  have h1 := h.one
  have h2 := h.two
  obtain ⟨a1, a2, a3⟩ := sT_le h (t := 0) (by omega)
  have hc := cT_le h 0 (by omega)
  have c0 : cT S L 0 = 2 * S.length - 2 := rfl
  rcases Nat.lt_or_ge (sT S L 0) S.length with hlt | hge
  · exfalso
    have hm := row_mrg h.sym h.asc (L - 1 - 0)
    obtain ⟨t1, t2, t3, t4, t5⟩ := hm.take _ hc
    obtain ⟨z, hz⟩ : ∃ z, S[S.length - 1]? = some z := ⟨_, List.getElem?_eq_getElem (by omega)⟩
    have fz := h.sym z (List.mem_of_getElem? hz)
    have hp : S.length - 2 < pT S L 0 := by omega
    have hp4 : pT S L 0 ≤ (bel S (L - 1 - 0)).length := t4
    obtain ⟨y, hy⟩ : ∃ y, (bel S (L - 1 - 0))[S.length - 2]? = some y := ⟨_, List.getElem?_eq_getElem (by omega)⟩
    have i1 := hm.pair_in hc hy hp
    have i2 := (hm.sym_in hc hz).2 (by show sT S L 0 ≤ S.length - 1; omega)
    have k1 := hm.asc.cut _ i1 i2
    have fy := bel_true S _ y (List.mem_of_getElem? hy)
    unfold key at k1
    rw [fz, fy] at k1
    simp only [if_true, Bool.false_eq_true, if_false] at k1
    obtain ⟨j, hj⟩ : ∃ j, L - 1 - 0 = j + 1 := by
      rcases Nat.eq_zero_or_pos (L - 1 - 0) with e | e
      · rw [e] at hp4; simp only [bel, List.length_nil] at hp4; omega
      · exact ⟨L - 1 - 0 - 1, by omega⟩
    rw [hj] at hy
    have := last_pair h hz j hy
    omega
  · omega

theorem cT_end {S : List Item} {L : Nat} (h : Syms S L) : cT S L L = 0 := by
  have h1 := h.one
  obtain ⟨t, rfl⟩ : ∃ t, L = t + 1 := ⟨L - 1, by omega⟩
  have hm := (row_mrg h.sym h.asc 0).take (cT S (t + 1) t) (by have := cT_le h t (by omega); simpa using this)
  have h4 := hm.2.2.2.1
  simp only [bel, List.length_nil] at h4
  rw [cT_succ]
  unfold pT
  rw [show t + 1 - 1 - t = 0 by omega]
  omega

/-- How long a symbol's word is after t rows. -/
def ln (S : List Item) (L : Nat) : Nat → Nat → Nat
  | 0, _ => 0
  | t + 1, i => ln S L t i + if i < sT S L t then 1 else 0

theorem ln_le (S : List Item) (L t i : Nat) : ln S L t i ≤ t := by
  induction t with
  | zero => exact Nat.le_refl _
  | succ t ih => simp only [ln]; split <;> omega
theorem ln_anti (S : List Item) (L t : Nat) {i k : Nat} (h : i ≤ k) : ln S L t k ≤ ln S L t i := by
  induction t with
  | zero => exact Nat.le_refl _
  | succ t ih => simp only [ln]; split <;> split <;> omega
theorem ln_full {S : List Item} {L : Nat} (h : Syms S L) {t i : Nat} (ht : t < L) (hi : i < sT S L t) : ln S L t i = t := by
  induction t with
  | zero => rfl
  | succ t ih =>
    have := sT_anti h ht
    simp only [ln]
    rw [ih (by omega) (by omega), if_pos (by omega)]
theorem ln_pos {S : List Item} {L : Nat} (h : Syms S L) {t i : Nat} (hi : i < S.length) : 1 ≤ ln S L (t + 1) i := by
  induction t with
  | zero => simp only [ln]; rw [if_pos (by rw [sT_zero h]; exact hi)]; omega
  | succ t ih => simp only [ln] at ih ⊢; omega

/-- Weights are bounded. -/
theorem row_bound {S : List Item} {M : Nat} (h : ∀ x ∈ S, x.1 ≤ M) (j : Nat) : ∀ x ∈ rowN S j, x.1 ≤ M * 2 ^ j := by
  induction j with
  | zero => simpa [rowN] using h
  | succ j ih =>
    intro x hx
    simp only [rowN] at hx
    rcases List.mem_append.1 ((mrg_perm S (prs (rowN S j))).mem_iff.1 hx) with h1 | h1
    · have := h x h1
      have h2 := pow_pos2 (j + 1)
      exact Nat.le_trans this (Nat.le_mul_of_pos_right _ h2)
    · obtain ⟨k, hk, rfl⟩ := List.mem_iff_getElem.1 h1
      rw [prs_length] at hk
      have hg := prs_get (rowN S j) k (by omega)
      rw [List.getElem?_eq_getElem (by rw [prs_length]; exact hk)] at hg
      rw [Option.some.inj hg]
      have e1 : (rowN S j).getD (2 * k) (0, false) = (rowN S j)[2 * k]'(by omega) := by simp [show 2 * k < (rowN S j).length by omega]
      have e2 : (rowN S j).getD (2 * k + 1) (0, false) = (rowN S j)[2 * k + 1]'(by omega) := by simp [show 2 * k + 1 < (rowN S j).length by omega]
      rw [e1, e2, Nat.pow_succ, ← Nat.mul_assoc]
      have a1 := ih _ (List.getElem_mem (show 2 * k < (rowN S j).length by omega))
      have a2 := ih _ (List.getElem_mem (show 2 * k + 1 < (rowN S j).length by omega))
      simp only
      omega
theorem row_size (S : List Item) (j : Nat) : (rowN S j).length ≤ 2 * S.length := by
  induction j with
  | zero => simp only [rowN]; omega
  | succ j ih => simp only [rowN, mrg_length, prs_length]; omega
end Go.Proofs.Ytlkidddbndkfiaa
