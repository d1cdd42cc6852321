/-
  raster: the unlike pixels, in the order in which they first come.
-/
import Derived.Test.YthdilabmajaehaaUd
namespace Go.Proofs.Ythdilabmajaehaa

/-- The four samples of pixel i. -/
def pix (px : List Nat) (i : Nat) : List Nat := [px.getD (4 * i) 0, px.getD (4 * i + 1) 0, px.getD (4 * i + 2) 0, px.getD (4 * i + 3) 0]

/-- The unlike ones of the first i pixels, as they come. -/
def uniq (px : List Nat) : Nat → List (List Nat)
  | 0 => []
  | i + 1 => if pix px i ∈ uniq px i then uniq px i else uniq px i ++ [pix px i]

/-- Each of the first i pixels' place among them. -/
def places (px : List Nat) : Nat → List Nat
  | 0 => []
  | i + 1 => places px i ++ [(uniq px (i + 1)).idxOf (pix px i)]

theorem places_length (px : List Nat) : ∀ i, (places px i).length = i
  | 0 => rfl
  | i + 1 => by simp [places, places_length px i]

theorem mem_uniq (px : List Nat) (x : List Nat) : ∀ i, x ∈ uniq px i ↔ ∃ j, j < i ∧ pix px j = x
  | 0 => by simp [uniq]
  | i + 1 => by
    have ih := mem_uniq px x i
    have h0 : (∃ j, j < i + 1 ∧ pix px j = x) ↔ (x ∈ uniq px i ∨ pix px i = x) := by
      rw [ih]
      constructor
      · rintro ⟨j, hj, e⟩
        by_cases h : j = i
        · subst h; exact Or.inr e
        · exact Or.inl ⟨j, by omega, e⟩
      · rintro (⟨j, hj, e⟩ | e)
        · exact ⟨j, by omega, e⟩
        · exact ⟨i, by omega, e⟩
    rw [h0]
    simp only [uniq]
    split
    · rename_i h
      constructor
      · exact Or.inl
      · rintro (h2 | h2)
        · exact h2
        · rw [← h2]; exact h
    · rw [List.mem_append, List.mem_singleton]
      constructor
      · rintro (h2 | h2)
        · exact Or.inl h2
        · exact Or.inr h2.symm
      · rintro (h2 | h2)
        · exact Or.inl h2
        · exact Or.inr h2.symm

theorem uniq_nodup (px : List Nat) : ∀ i, (uniq px i).Nodup
  | 0 => List.nodup_nil
  | i + 1 => by
    simp only [uniq]
    split
    · exact uniq_nodup px i
    · rename_i h
      rw [List.nodup_append]
      refine ⟨uniq_nodup px i, by simp, ?_⟩
      intro a ha b hb e
      rw [List.mem_singleton] at hb
      exact h (by rw [← hb, ← e]; exact ha)

theorem uniq_four (px : List Nat) (i : Nat) : ∀ x ∈ uniq px i, x.length = 4 := fun x hx => by
  obtain ⟨j, _, e⟩ := (mem_uniq px x i).1 hx
  rw [← e]
  rfl

theorem uniq_step (px : List Nat) (i : Nat) : (uniq px i).length ≤ (uniq px (i + 1)).length ∧ (uniq px (i + 1)).length ≤ (uniq px i).length + 1 := by
  simp only [uniq]
  split
  · omega
  · simp

theorem uniq_mono (px : List Nat) (i : Nat) : ∀ j, (uniq px i).length ≤ (uniq px (i + j)).length
  | 0 => Nat.le_refl _
  | j + 1 => Nat.le_trans (uniq_mono px i j) (uniq_step px (i + j)).1

theorem uniq_le (px : List Nat) : ∀ i, (uniq px i).length ≤ i
  | 0 => Nat.le_refl _
  | i + 1 => by have := uniq_le px i; have := (uniq_step px i).2; omega

theorem flat_length : ∀ {l : List (List Nat)}, (∀ x ∈ l, x.length = 4) → l.flatten.length = 4 * l.length
  | [], _ => rfl
  | a :: t, h => by
    rw [List.flatten_cons, List.length_append, h a (by simp), flat_length (l := t) (fun x hx => h x (by simp [hx])), List.length_cons]
    omega

theorem flat_get : ∀ {l : List (List Nat)}, (∀ x ∈ l, x.length = 4) → ∀ k r, r < 4 → l.flatten.getD (4 * k + r) 0 = (l.getD k []).getD r 0
  | [], _, k, r, _ => by simp
  | a :: t, h, 0, r, hr => by
    rw [List.flatten_cons]
    simp only [List.getD_eq_getElem?_getD, Nat.mul_zero, Nat.zero_add, List.getElem?_cons_zero, Option.getD_some]
    rw [List.getElem?_append_left (by rw [h a (by simp)]; exact hr)]
  | a :: t, h, k + 1, r, hr => by
    have ih := flat_get (l := t) (fun x hx => h x (by simp [hx])) k r hr
    rw [List.flatten_cons]
    simp only [List.getD_eq_getElem?_getD, List.getElem?_cons_succ] at ih ⊢
    rw [List.getElem?_append_right (by rw [h a (by simp)]; omega), h a (by simp), show 4 * (k + 1) + r - 4 = 4 * k + r by omega]
    exact ih

/-- The number of four samples. -/
def num4 (x : List Nat) : Nat := ((x.getD 0 0 * 65536 + x.getD 1 0) * 65536 + x.getD 2 0) * 65536 + x.getD 3 0

theorem val_num (px : List Nat) (q : Nat) : val px (4 * q) 4 = num4 (pix px q) := by
  simp [val, num4, pix]

theorem num_inj {px : List Nat} (h : ∀ b ∈ px, b < 65536) (a b : Nat) (e : num4 (pix px a) = num4 (pix px b)) : pix px a = pix px b := by
  rw [← val_num, ← val_num] at e
  obtain ⟨h0, h1, h2, h3⟩ := val_inj h _ _ e
  unfold pix
  rw [h0, h1, h2, h3]

/-- A row without doubles of the keys has as many members as there are unlike pixels. -/
theorem uniq_count {px : List Nat} {m n : Nat} {D : List Int} (hp : ∀ b ∈ px, b < 65536) (hn : n = 4 * m) (hD : D.Nodup) (hm : ∀ x, x ∈ D ↔ x ∈ keyF m px n) : D.length = (uniq px m).length := by
  rw [hn, keyF_eq hp] at hm
  have h1 : ((uniq px m).map fun x => ((num4 x : Nat) : Int)).Nodup := by
    refine List.Pairwise.map _ (R := fun a b => a ≠ b ∧ a ∈ uniq px m ∧ b ∈ uniq px m) ?_ ?_
    · rintro a b ⟨hab, ha, hb⟩ e
      obtain ⟨i, _, rfl⟩ := (mem_uniq px a m).1 ha
      obtain ⟨j, _, rfl⟩ := (mem_uniq px b m).1 hb
      exact hab (num_inj hp i j (by omega))
    · exact List.Pairwise.imp_of_mem (R := fun a b => a ≠ b) (fun ha hb h => ⟨h, ha, hb⟩) (uniq_nodup px m)
  have h2 := len_of_same D _ hD h1 (fun x => by
    rw [hm]
    simp only [List.mem_map, List.mem_range]
    constructor
    · rintro ⟨q, hq, rfl⟩
      exact ⟨pix px q, (mem_uniq px _ m).2 ⟨q, hq, rfl⟩, by rw [val_num]⟩
    · rintro ⟨y, hy, rfl⟩
      obtain ⟨q, hq, rfl⟩ := (mem_uniq px y m).1 hy
      exact ⟨q, hq, by rw [val_num]⟩)
  simpa using h2

/-- Where a pixel has been seen: its place. -/
theorem uniq_at {px : List Nat} {i k : Nat} (hk : k < (uniq px i).length) (he : (uniq px i).getD k [] = pix px i) (hb : ∀ j, j < k → (uniq px i).getD j [] ≠ pix px i) :
    uniq px (i + 1) = uniq px i ∧ places px (i + 1) = places px i ++ [k] := by
  have hm : pix px i ∈ uniq px i := by
    rw [← he, List.getD_eq_getElem?_getD, List.getElem?_eq_getElem hk]
    exact List.getElem_mem hk
  have hu : uniq px (i + 1) = uniq px i := by simp only [uniq]; rw [if_pos hm]
  refine ⟨hu, ?_⟩
  simp only [places, hu]
  congr 2
  have h1 : (uniq px i).idxOf (pix px i) < (uniq px i).length := List.idxOf_lt_length_iff.2 hm
  have h2 : (uniq px i)[(uniq px i).idxOf (pix px i)] = pix px i := List.getElem_idxOf h1
  rcases Nat.lt_trichotomy ((uniq px i).idxOf (pix px i)) k with h | h | h
  · exact absurd (by rw [List.getD_eq_getElem?_getD, List.getElem?_eq_getElem h1]; exact h2) (hb _ h)
  · exact h
  · have h3 : (uniq px i)[k] = pix px i := by rw [← he, List.getD_eq_getElem?_getD, List.getElem?_eq_getElem hk]; rfl
    have h4 := (List.getElem_inj (xs := uniq px i) (h₀ := hk) (h₁ := h1) (uniq_nodup px i)).1 (h3.trans h2.symm)
    omega

/-- Where it has not: behind all. -/
theorem uniq_new {px : List Nat} {i : Nat} (hb : ∀ j, j < (uniq px i).length → (uniq px i).getD j [] ≠ pix px i) :
    uniq px (i + 1) = uniq px i ++ [pix px i] ∧ places px (i + 1) = places px i ++ [(uniq px i).length] := by
  have hm : ¬ pix px i ∈ uniq px i := fun h => by
    obtain ⟨j, hj, e⟩ := List.getElem_of_mem h
    exact hb j hj (by rw [List.getD_eq_getElem?_getD, List.getElem?_eq_getElem hj]; exact e)
  have hu : uniq px (i + 1) = uniq px i ++ [pix px i] := by simp only [uniq]; rw [if_neg hm]
  refine ⟨hu, ?_⟩
  simp only [places, hu]
  congr 2
  rw [List.idxOf_append, if_neg hm]
  simp
end Go.Proofs.Ythdilabmajaehaa
