/-
  Plain mathematics of the package-merge method: no program is named here.
-/
import Derived.Test.YtlkidddbndkfiaaHm
namespace Go.Proofs.Ytlkidddbndkfiaa

/-- A symbol's item, or a pair's: its weight, and whether it is a pair. -/
abbrev Item := Nat × Bool

/-- One item of each two neighbours. -/
def prs : List Item → List Item
  | x :: y :: r => (x.1 + y.1, true) :: prs r
  | _ => []

/-- Two rows laid together by weight, of equal ones those of the first. -/
def mrg : List Item → List Item → List Item
  | [], b => b
  | x :: a, [] => x :: a
  | x :: a, y :: b => if x.1 ≤ y.1 then x :: mrg a (y :: b) else y :: mrg (x :: a) b
termination_by a b => a.length + b.length

/-- The rows of the method. -/
def rowN (S : List Item) : Nat → List Item
  | 0 => S
  | j + 1 => mrg S (prs (rowN S j))

/-- How many items are pairs. -/
def cntP (l : List Item) : Nat := (l.filter (fun x => x.2)).length

/-- The order of a row: by weight, symbols first. -/
def key (x : Item) : Nat := 2 * x.1 + if x.2 then 1 else 0
def Asc (l : List Item) : Prop := l.Pairwise (fun x y => key x ≤ key y)

theorem key_w {x y : Item} (h : key x ≤ key y) : x.1 ≤ y.1 := by
  unfold key at h
  split at h <;> split at h <;> omega

theorem mrg_length (a b : List Item) : (mrg a b).length = a.length + b.length := by
  fun_induction mrg a b <;> simp_all <;> omega
theorem prs_length (l : List Item) : (prs l).length = l.length / 2 := by
  fun_induction prs l with
  | case1 x y r ih => simp [ih]; omega
  | case2 l h =>
    match l, h with
    | [], _ => rfl
    | [x], _ => simp
    | x :: y :: r, h => exact absurd rfl (h x y r)
theorem prs_true (l : List Item) : ∀ x ∈ prs l, x.2 = true := by
  fun_induction prs l with
  | case1 x y r ih => intro z hz; simp at hz; rcases hz with rfl | hz; rfl; exact ih z hz
  | case2 l h => intro z hz; simp at hz
theorem prs_get (l : List Item) (k : Nat) (h : 2 * k + 1 < l.length) : (prs l)[k]? = some ((l.getD (2 * k) (0, false)).1 + (l.getD (2 * k + 1) (0, false)).1, true) := by
  induction k generalizing l with
  | zero =>
    match l, h with
    | x :: y :: r, _ => simp [prs]
  | succ k ih =>
    match l, h with
    | x :: y :: r, h =>
      simp only [prs, List.getElem?_cons_succ]
      rw [ih r (by simp at h; omega)]
      rw [show 2 * (k + 1) = 2 * k + 1 + 1 by omega]
      simp

theorem mrg_perm (a b : List Item) : (mrg a b).Perm (a ++ b) := by
  fun_induction mrg a b with
  | case1 b => simp
  | case2 x a => simp
  | case3 x a y b h ih => exact List.Perm.cons x ih
  | case4 x a y b h ih =>
    refine (List.Perm.cons y ih).trans ?_
    exact (List.perm_middle (l₁ := x :: a)).symm

theorem mrg_asc (a b : List Item) (ha : Asc a) (hb : Asc b) (fa : ∀ x ∈ a, x.2 = false) (fb : ∀ x ∈ b, x.2 = true) : Asc (mrg a b) := by
  fun_induction mrg a b with
  | case1 b => exact hb
  | case2 x a => exact ha
  | case3 x a y b h ih =>
    have hx := fa x (by simp)
    have hy := fb y (by simp)
    have hk : key x ≤ key y := by unfold key; rw [hx, hy]; simp; omega
    refine List.Pairwise.cons (fun z hz => ?_) (ih (List.Pairwise.of_cons ha) hb (fun z hz => fa z (by simp [hz])) fb)
    rcases List.mem_append.1 ((mrg_perm a (y :: b)).mem_iff.1 hz) with h1 | h1
    · exact List.rel_of_pairwise_cons ha h1
    · rcases List.mem_cons.1 h1 with rfl | h2
      · exact hk
      · exact Nat.le_trans hk (List.rel_of_pairwise_cons hb h2)
  | case4 x a y b h ih =>
    have hx := fa x (by simp)
    have hy := fb y (by simp)
    have hk : key y ≤ key x := by unfold key; rw [hx, hy]; simp; omega
    refine List.Pairwise.cons (fun z hz => ?_) (ih ha (List.Pairwise.of_cons hb) fa (fun z hz => fb z (by simp [hz])))
    rcases List.mem_append.1 ((mrg_perm (x :: a) b).mem_iff.1 hz) with h1 | h1
    · rcases List.mem_cons.1 h1 with rfl | h2
      · exact hk
      · exact Nat.le_trans hk (List.rel_of_pairwise_cons ha h2)
    · exact List.rel_of_pairwise_cons hb h1

theorem prs_asc (l : List Item) (h : Asc l) : Asc (prs l) := by
  fun_induction prs l with
  | case1 x y r ih =>
    have h1 := List.Pairwise.of_cons (List.Pairwise.of_cons h)
    refine List.Pairwise.cons (fun z hz => ?_) (ih h1)
    have hmem : ∀ r : List Item, ∀ z ∈ prs r, ∃ a ∈ r, ∃ b ∈ r, z = (a.1 + b.1, true) := by
      intro r
      fun_induction prs r with
      | case1 x y r ih =>
        intro z hz
        simp at hz
        rcases hz with rfl | hz
        · exact ⟨x, by simp, y, by simp, rfl⟩
        · obtain ⟨a, ha, b, hb, e⟩ := ih z hz
          exact ⟨a, by simp [ha], b, by simp [hb], e⟩
      | case2 l h => intro z hz; simp at hz
    obtain ⟨a, ha, b, hb, rfl⟩ := hmem r z hz
    have k1 := key_w (List.rel_of_pairwise_cons h (List.mem_cons_of_mem y ha))
    have k2 := key_w (List.rel_of_pairwise_cons (List.Pairwise.of_cons h) hb)
    unfold key
    simp
    omega
  | case2 l h => exact List.Pairwise.nil

theorem mrg_filter (a b : List Item) (fa : ∀ x ∈ a, x.2 = false) (fb : ∀ x ∈ b, x.2 = true) : (mrg a b).filter (fun x => !x.2) = a ∧ (mrg a b).filter (fun x => x.2) = b := by
  fun_induction mrg a b with
  | case1 b =>
    refine ⟨List.filter_eq_nil_iff.2 (fun x hx => by simp [fb x hx]), List.filter_eq_self.2 fb⟩
  | case2 x a =>
    refine ⟨List.filter_eq_self.2 (fun z hz => by simp [fa z hz]), List.filter_eq_nil_iff.2 (fun z hz => by simp [fa z hz])⟩
  | case3 x a y b h ih =>
    obtain ⟨i1, i2⟩ := ih (fun z hz => fa z (by simp [hz])) fb
    have hx := fa x (by simp)
    simp [hx, i1, i2]
  | case4 x a y b h ih =>
    obtain ⟨i1, i2⟩ := ih fa (fun z hz => fb z (by simp [hz]))
    have hy := fb y (by simp)
    simp [hy, i1, i2]

theorem filter_take (f : Item → Bool) (l : List Item) (c : Nat) : (l.take c).filter f = (l.filter f).take ((l.take c).filter f).length := by
  have h : (l.filter f) = (l.take c).filter f ++ (l.drop c).filter f := by rw [← List.filter_append, List.take_append_drop]
  rw [h, List.take_left]
theorem count_split (l : List Item) : (l.filter (fun x => !x.2)).length + cntP l = l.length := by
  unfold cntP
  induction l with
  | nil => rfl
  | cons x l ih => cases hx : x.2 <;> simp [hx] <;> omega

/-- A row: the symbols S and pairs B, laid together. -/
structure IsMrg (S B R : List Item) : Prop where
  asc : Asc R
  sy : R.filter (fun x => !x.2) = S
  pr : R.filter (fun x => x.2) = B

/-- What is among the first c of a row. -/
theorem IsMrg.take {S B R : List Item} (h : IsMrg S B R) (c : Nat) (hc : c ≤ R.length) :
    (R.take c).filter (fun x => !x.2) = S.take (c - cntP (R.take c)) ∧ (R.take c).filter (fun x => x.2) = B.take (cntP (R.take c)) ∧ c - cntP (R.take c) ≤ S.length ∧ cntP (R.take c) ≤ B.length ∧ cntP (R.take c) ≤ c := by
  have h1 := filter_take (fun x => !x.2) R c
  have h2 := filter_take (fun x => x.2) R c
  have h3 := count_split (R.take c)
  rw [List.length_take, Nat.min_eq_left hc] at h3
  have e1 : ((R.take c).filter (fun x => !x.2)).length = c - cntP (R.take c) := by omega
  rw [h.sy, e1] at h1
  rw [h.pr] at h2
  have h2' : (R.take c).filter (fun x => x.2) = B.take (cntP (R.take c)) := h2
  refine ⟨h1, h2', ?_, ?_, by omega⟩
  · have := congrArg List.length h1
    rw [List.length_take] at this
    omega
  · have := congrArg List.length h2'
    rw [List.length_take] at this
    unfold cntP at this ⊢
    omega

/-- The first c of a row are not behind the others. -/
theorem Asc.cut {R : List Item} (h : Asc R) (c : Nat) {x y : Item} (hx : x ∈ R.take c) (hy : y ∈ R.drop c) : key x ≤ key y := by
  have h' := h
  unfold Asc at h'
  rw [← List.take_append_drop c R, List.pairwise_append] at h'
  exact h'.2.2 x hx y hy

theorem IsMrg.sym_in {S B R : List Item} (h : IsMrg S B R) {c i : Nat} (hc : c ≤ R.length) {x : Item} (hx : S[i]? = some x) : (i < c - cntP (R.take c) → x ∈ R.take c) ∧ (c - cntP (R.take c) ≤ i → x ∈ R.drop c) := by
  obtain ⟨h1, _, h3, _⟩ := h.take c hc
  refine ⟨fun hi => ?_, fun hi => ?_⟩
  · have : x ∈ S.take (c - cntP (R.take c)) := List.mem_of_getElem? (by rw [List.getElem?_take, if_pos hi]; exact hx)
    rw [← h1] at this
    exact (List.mem_filter.1 this).1
  · have e : S = S.take (c - cntP (R.take c)) ++ (R.drop c).filter (fun x => !x.2) := by
      rw [← h1, ← List.filter_append, List.take_append_drop, h.sy]
    have : ((R.drop c).filter (fun x => !x.2))[i - (c - cntP (R.take c))]? = some x := by
      rw [e, List.getElem?_append_right (by rw [List.length_take]; omega), List.length_take, Nat.min_eq_left h3] at hx
      exact hx
    exact (List.mem_filter.1 (List.mem_of_getElem? this)).1
theorem IsMrg.pair_in {S B R : List Item} (h : IsMrg S B R) {c i : Nat} (hc : c ≤ R.length) {x : Item} (hx : B[i]? = some x) : (i < cntP (R.take c) → x ∈ R.take c) := by
  obtain ⟨_, h2, _, _⟩ := h.take c hc
  intro hi
  have : x ∈ B.take (cntP (R.take c)) := List.mem_of_getElem? (by rw [List.getElem?_take, if_pos hi]; exact hx)
  rw [← h2] at this
  exact (List.mem_filter.1 this).1

/-- All of the first c weigh at most as the last of them. -/
theorem Asc.last {R : List Item} (h : Asc R) {c : Nat} {x : Item} (hx : x ∈ R.take (c + 1)) (hc : c < R.length) : x.1 ≤ (R.getD c (0, false)).1 := by
  obtain ⟨i, hi, rfl⟩ := List.mem_iff_getElem.1 hx
  rw [List.length_take] at hi
  rw [List.getElem_take]
  have e : R.getD c (0, false) = R[c] := by simp [hc]
  rw [e]
  by_cases h2 : i = c
  · subst h2; exact Nat.le_refl _
  · exact key_w (List.pairwise_iff_getElem.1 h i c (by omega) hc (by omega))
end Go.Proofs.Ytlkidddbndkfiaa
