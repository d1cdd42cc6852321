/-
  raster: how many unlike numbers a list holds, counted by its order.
-/
import Derived.Lib.SlicesCompact
namespace Go.Proofs.Ythdilabmajaehaa
open Go.Lib

/-- Two lists that hold each member once, and the same members, are of one length. -/
theorem len_of_same {α : Type} [DecidableEq α] : ∀ (D E : List α), D.Nodup → E.Nodup → (∀ x, x ∈ D ↔ x ∈ E) → D.length = E.length
  | [], E, _, _, h => by
    cases E with
    | nil => rfl
    | cons e E => exact absurd ((h e).2 (by simp)) (by simp)
  | d :: D, E, hD, hE, h => by
    have hd : d ∈ E := (h d).1 (by simp)
    have hD' := List.nodup_cons.1 hD
    have hEe : (E.erase d).Nodup := hE.erase d
    have ih := len_of_same D (E.erase d) hD'.2 hEe fun x => by
      rw [hE.mem_erase_iff]
      constructor
      · intro hx
        refine ⟨fun e => hD'.1 (e ▸ hx), (h x).1 (by simp [hx])⟩
      · rintro ⟨hx, hE2⟩
        have := (h x).2 hE2
        simp only [List.mem_cons] at this
        rcases this with rfl | h2
        · exact absurd rfl hx
        · exact h2
    have hl := List.length_erase_of_mem hd
    have hp : 0 < E.length := List.length_pos_of_mem hd
    simp only [List.length_cons, ih, hl]
    omega

/-- Compact, at a list in its order: each number once. -/
theorem compact_sorted (l : List Int) (n : Nat) (hn : l.length = n) (hs : ∀ i j, i < j → j < n → l.getD i 0 ≤ l.getD j 0) :
    (compactUpTo l.toArray n).Nodup ∧ ∀ x, x ∈ compactUpTo l.toArray n ↔ x ∈ l := by
  have hg : ∀ i, i < n → l.toArray[i]! = l.getD i 0 := fun i hi => by simp [List.getD_eq_getElem?_getD, show i < l.length by omega]
  constructor
  · unfold compactUpTo
    refine List.Pairwise.map _ (R := fun i j => i < j ∧ j < n ∧ keeps l.toArray j = true) ?_ ?_
    · rintro i j ⟨hij, hj, hk⟩ e
      have h1 : l.toArray[j]! ≠ l.toArray[j - 1]! := by
        intro e2
        rw [keeps_neg (by omega) e2] at hk
        cases hk
      rw [hg i (by omega), hg j hj] at e
      rw [hg j hj, hg (j - 1) (by omega)] at h1
      have h2 := hs (j - 1) j (by omega) hj
      by_cases h3 : i = j - 1
      · rw [h3] at e; exact h1 e.symm
      · have h4 := hs i (j - 1) (by omega) (by omega)
        omega
    · rw [List.pairwise_filter]
      refine List.Pairwise.imp_of_mem (R := fun a b => a < b) ?_ List.pairwise_lt_range
      intro i j _ hj hij _ hk
      exact ⟨hij, List.mem_range.1 hj, hk⟩
  · intro x
    unfold compactUpTo
    simp only [List.mem_map, List.mem_filter, List.mem_range]
    constructor
    · rintro ⟨i, ⟨hi, _⟩, rfl⟩
      rw [hg i hi, List.getD_eq_getElem?_getD, List.getElem?_eq_getElem (by omega)]
      simp
    · intro hx
      obtain ⟨i, hi, rfl⟩ := List.getElem_of_mem hx
      have key : ∀ i, i < n → ∃ j, (j < n ∧ keeps l.toArray j = true) ∧ l.toArray[j]! = l.toArray[i]! := by
        intro i
        induction i with
        | zero => exact fun h => ⟨0, ⟨h, keeps_lt_one _ 0 (by omega)⟩, rfl⟩
        | succ i ih =>
          intro h
          by_cases e : l.toArray[i + 1]! = l.toArray[i]!
          · obtain ⟨j, h1, h2⟩ := ih (by omega)
            exact ⟨j, h1, h2.trans e.symm⟩
          · exact ⟨i + 1, ⟨h, keeps_pos (by simpa using e)⟩, rfl⟩
      obtain ⟨j, h1, h2⟩ := key i (by omega)
      refine ⟨j, h1, h2.trans ?_⟩
      simp [hi]
end Go.Proofs.Ythdilabmajaehaa
