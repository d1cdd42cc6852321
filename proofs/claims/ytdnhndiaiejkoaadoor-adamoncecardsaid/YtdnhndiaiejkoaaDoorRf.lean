/-
  adam: Whole of both; rows of passes compared.
-/
import Derived.Test.YtdnhndiaiejkoaaDoorRe
import Derived.Test.YtdnhndiaiejkoaaDoorRc
namespace Go.Proofs.YtdnhndiaiejkoaaDoor
open Go.RowKit
set_option linter.unusedVariables false

def whl (W H : Int) : List Pz := [⟨0, 0, 1, 1, W, H⟩]
theorem own_one {T : TypeId} {w : World} {q : Pz} {g : Nat} (h : g = w.heap.size) : OwnP T (w.alloc (.cells q.arr T)) w.heap.size (.slice (some ⟨g, 0, none⟩) 1 1) [q] := by
  subst h
  exact ⟨rfl, .inr ⟨_, 1, q.arr, rfl, Nat.le_refl _, heap_alloc_new _ _, Nat.le_refl 1, by unfold maxLen; omega, rfl, rfl⟩⟩
theorem whole_c (W H : Int) (w : World) (h : sizeE W H = 0) : Calls Tryd.prog 12 #[.int .i64 W, .int .i64 H] w fun e w' => ∃ v, e = .returned v ∧ OwnP 32 w' w.heap.size v (whl W H) ∧ Fr (fun _ => False) w w' := by
  go_enter Tryd.func12, Tryd.ntmps12
  go_wp2_with (go_at_call 19; refine (size_c W H _).mono ?_; rintro e w2 ⟨rfl, h1⟩; replace h1 := h1.symm; subst h1; rw [h])
  go_ret
  exact ⟨_, rfl, own_one (q := ⟨0, 0, 1, 1, W, H⟩) rfl, Fr.of_alloc _ _⟩
theorem rwhole_c (W H : Int) (w : World) (h : sizeE W H = 0) : Calls Tryd.prog 13 #[.int .i64 W, .int .i64 H] w fun e w' => ∃ v, e = .returned v ∧ OwnP 40 w' w.heap.size v (whl W H) ∧ Fr (fun _ => False) w w' := by
  go_enter Tryd.func13, Tryd.ntmps13
  go_wp2_with (go_at_call 21; refine (rsize_c W H _).mono ?_; rintro e w2 ⟨rfl, h1⟩; replace h1 := h1.symm; subst h1; rw [h])
  go_ret
  exact ⟨_, rfl, own_one (q := ⟨0, 0, 1, 1, W, H⟩) rfl, Fr.of_alloc _ _⟩
theorem none_ne {E : Int} (h : E ≠ 0) : (E == 0) = false := by rw [beq_eq_false_iff_ne]; exact h
theorem whole_no (W H : Int) (w : World) (h : sizeE W H ≠ 0) : Calls Tryd.prog 12 #[.int .i64 W, .int .i64 H] w fun e w' => e = .returned (.slice none 0 0) ∧ w' = w := by
  have h2 := none_ne h
  go_enter Tryd.func12, Tryd.ntmps12
  go_wp2_with (go_at_call 19; refine (size_c W H _).mono ?_; rintro e w2 ⟨rfl, h1⟩; replace h1 := h1.symm; subst h1)
  go_ret
  exact ⟨rfl, rfl⟩
theorem rwhole_no (W H : Int) (w : World) (h : sizeE W H ≠ 0) : Calls Tryd.prog 13 #[.int .i64 W, .int .i64 H] w fun e w' => e = .returned (.slice none 0 0) ∧ w' = w := by
  have h2 := none_ne h
  go_enter Tryd.func13, Tryd.ntmps13
  go_wp2_with (go_at_call 21; refine (rsize_c W H _).mono ?_; rintro e w2 ⟨rfl, h1⟩; replace h1 := h1.symm; subst h1)
  go_ret
  exact ⟨rfl, rfl⟩
theorem passes_no (W H : Int) (w : World) (h : sizeE W H ≠ 0) : Calls Tryd.prog 10 #[.int .i64 W, .int .i64 H] w fun e w' => e = .returned (.slice none 0 0) ∧ w' = w := by
  have h2 := none_ne h
  go_enter Tryd.func10, Tryd.ntmps10
  go_wp2_with (go_at_call 19; refine (size_c W H _).mono ?_; rintro e w2 ⟨rfl, h1⟩; replace h1 := h1.symm; subst h1)
  go_ret
  exact ⟨rfl, rfl⟩
theorem rpasses_no (W H : Int) (w : World) (h : sizeE W H ≠ 0) : Calls Tryd.prog 11 #[.int .i64 W, .int .i64 H] w fun e w' => e = .returned (.slice none 0 0) ∧ w' = w := by
  have h2 := none_ne h
  go_enter Tryd.func11, Tryd.ntmps11
  go_wp2_with (go_at_call 21; refine (rsize_c W H _).mono ?_; rintro e w2 ⟨rfl, h1⟩; replace h1 := h1.symm; subst h1)
  go_ret
  exact ⟨rfl, rfl⟩

/-- One form for all: what Passes of both answer, what Whole of both answer. -/
def pasV (W H : Int) : List Pz := if sizeE W H = 0 then pas W H 7 else []
def whlV (W H : Int) : List Pz := if sizeE W H = 0 then whl W H else []
theorem passes_any (W H : Int) (w : World) (hg : Gw w) : Calls Tryd.prog 10 #[.int .i64 W, .int .i64 H] w fun e w' => ∃ v, e = .returned v ∧ OwnP 32 w' w.heap.size v (pasV W H) ∧ Fr (fun _ => False) w w' := by
  by_cases h : sizeE W H = 0
  · rw [pasV, if_pos h]; exact passes_c W H w hg h
  · rw [pasV, if_neg h]; exact (passes_no W H w h).mono fun e w' ⟨h1, h2⟩ => ⟨_, h1, OwnP.nil _ _ _, by rw [h2]; exact Fr.refl _ _⟩
theorem rpasses_any (W H : Int) (w : World) : Calls Tryd.prog 11 #[.int .i64 W, .int .i64 H] w fun e w' => ∃ v, e = .returned v ∧ OwnP 40 w' w.heap.size v (pasV W H) ∧ Fr (fun _ => False) w w' := by
  by_cases h : sizeE W H = 0
  · rw [pasV, if_pos h]; exact rpasses_c W H w h
  · rw [pasV, if_neg h]; exact (rpasses_no W H w h).mono fun e w' ⟨h1, h2⟩ => ⟨_, h1, OwnP.nil _ _ _, by rw [h2]; exact Fr.refl _ _⟩
theorem whole_any (W H : Int) (w : World) : Calls Tryd.prog 12 #[.int .i64 W, .int .i64 H] w fun e w' => ∃ v, e = .returned v ∧ OwnP 32 w' w.heap.size v (whlV W H) ∧ Fr (fun _ => False) w w' := by
  by_cases h : sizeE W H = 0
  · rw [whlV, if_pos h]; exact whole_c W H w h
  · rw [whlV, if_neg h]; exact (whole_no W H w h).mono fun e w' ⟨h1, h2⟩ => ⟨_, h1, OwnP.nil _ _ _, by rw [h2]; exact Fr.refl _ _⟩
theorem rwhole_any (W H : Int) (w : World) : Calls Tryd.prog 13 #[.int .i64 W, .int .i64 H] w fun e w' => ∃ v, e = .returned v ∧ OwnP 40 w' w.heap.size v (whlV W H) ∧ Fr (fun _ => False) w w' := by
  by_cases h : sizeE W H = 0
  · rw [whlV, if_pos h]; exact rwhole_c W H w h
  · rw [whlV, if_neg h]; exact (rwhole_no W H w h).mono fun e w' ⟨h1, h2⟩ => ⟨_, h1, OwnP.nil _ _ _, by rw [h2]; exact Fr.refl _ _⟩
end Go.Proofs.YtdnhndiaiejkoaaDoor
