/-
  filter: FilterPaeth, walked.
-/
import Derived.Test.YtkafhjjdeldkbaaMl
namespace Go.Proofs.Ytkafhjjdeldkbaa
open Go.RowKit Go.Lib
set_option linter.unusedVariables false

theorem paeth_near (a b c : Nat) : (paethV a b c = a ∧ dist ((a : Int) + b - c) a ≤ dist ((a : Int) + b - c) b ∧ dist ((a : Int) + b - c) a ≤ dist ((a : Int) + b - c) c)
    ∨ (paethV a b c = b ∧ paethV a b c ≠ a ∧ dist ((a : Int) + b - c) b < dist ((a : Int) + b - c) a ∧ dist ((a : Int) + b - c) b ≤ dist ((a : Int) + b - c) c)
    ∨ (paethV a b c = c ∧ paethV a b c ≠ a ∧ paethV a b c ≠ b ∧ dist ((a : Int) + b - c) c < dist ((a : Int) + b - c) a ∧ dist ((a : Int) + b - c) c ≤ dist ((a : Int) + b - c) b) := by
  have e : paethV a b c = (if dist ((a : Int) + b - c) a ≤ dist ((a : Int) + b - c) b ∧ dist ((a : Int) + b - c) a ≤ dist ((a : Int) + b - c) c then a else if dist ((a : Int) + b - c) b ≤ dist ((a : Int) + b - c) c then b else c) := rfl
  generalize (a : Int) + b - c = s at *
  generalize paethV a b c = P at *
  by_cases h1 : dist s a ≤ dist s b ∧ dist s a ≤ dist s c
  · rw [if_pos h1] at e
    exact .inl ⟨e, h1.1, h1.2⟩
  · rw [if_neg h1] at e
    by_cases hPa : P = a
    · subst hPa
      by_cases h2 : dist s b ≤ dist s c
      · rw [if_pos h2] at e
        subst e
        exact .inl ⟨rfl, Int.le_refl _, h2⟩
      · rw [if_neg h2] at e
        subst e
        exact .inl ⟨rfl, by omega, Int.le_refl _⟩
    · by_cases h2 : dist s b ≤ dist s c
      · rw [if_pos h2] at e
        exact .inr (.inl ⟨e, hPa, by subst e; omega, h2⟩)
      · rw [if_neg h2] at e
        by_cases hPb : P = b
        · subst e
          subst hPb
          omega
        · exact .inr (.inr ⟨e, hPa, hPb, by subst e; omega, by omega⟩)

theorem box3 (w : World) (a b c : Nat) :
    (((w.alloc (.cells #[.int .u8 (a : Int)] 5)).alloc (.cells #[.int .u8 (b : Int)] 5)).alloc (.cells #[.int .u8 (c : Int)] 5)).heap[w.heap.size]? = some (.cells #[.int .u8 (a : Int)] 5 (0, 0)) ∧
    (((w.alloc (.cells #[.int .u8 (a : Int)] 5)).alloc (.cells #[.int .u8 (b : Int)] 5)).alloc (.cells #[.int .u8 (c : Int)] 5)).heap[w.heap.size + 1]? = some (.cells #[.int .u8 (b : Int)] 5 (0, 0)) ∧
    (((w.alloc (.cells #[.int .u8 (a : Int)] 5)).alloc (.cells #[.int .u8 (b : Int)] 5)).alloc (.cells #[.int .u8 (c : Int)] 5)).heap[w.heap.size + 1 + 1]? = some (.cells #[.int .u8 (c : Int)] 5 (0, 0)) := by
  generalize Obj.cells #[.int .u8 (a : Int)] 5 = oa
  generalize Obj.cells #[.int .u8 (b : Int)] 5 = ob
  generalize Obj.cells #[.int .u8 (c : Int)] 5 = oc
  have e1 : ∀ (W : World) (o : Obj), (W.alloc o).heap.size = W.heap.size + 1 := fun W o => by simp
  refine ⟨?_, ?_, ?_⟩
  · rw [Below.heap_alloc _ _ _ (by rw [e1, e1]; omega), Below.heap_alloc _ _ _ (by rw [e1]; omega)]; exact heap_alloc_new _ _
  · rw [Below.heap_alloc _ _ _ (by rw [e1, e1]; omega), ← e1 w oa]; exact heap_alloc_new _ _
  · rw [← e1 w oa, ← e1 (w.alloc oa) ob]; exact heap_alloc_new _ _

end Go.Proofs.Ytkafhjjdeldkbaa
