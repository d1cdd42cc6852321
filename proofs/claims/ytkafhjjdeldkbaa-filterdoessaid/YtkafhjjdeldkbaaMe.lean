/-
  filter: whether it may be; new rows; a byte set in a row of one's own.
-/
import Derived.Test.YtkafhjjdeldkbaaMc
import Derived.Test.YtkafhjjdeldkbaaMd
namespace Go.Proofs.Ytkafhjjdeldkbaa
open Go.RowKit Go.Lib
set_option linter.unusedVariables false

set_option maxHeartbeats 800000 in
theorem mayBe_c (K B : Int) (a a2 : Option Addr) (n c m c2 : Nat) (w : World) :
    Calls Try.prog 18 #[.int .i64 K, .slice a n c, .slice a2 m c2, .int .i64 B] w fun e w' => e = .returned (.bool (mayV K B n m)) ∧ w = w' := by
  have HM : Hid (mayV K B n m = decide ((0 ≤ K ∧ K ≤ 4) ∧ (1 ≤ B ∧ B ≤ 8) ∧ (m = 0 ∨ m = n))) := rfl
  generalize mayV K B n m = r at *
  go_enter Try.func18, Try.ntmps18
  go_wp2
  all_goals
    go_ret
    refine ⟨?_, rfl⟩
    congr 2
    rw [HM.out]
    first | (simp; omega) | (refine congrArg Value.bool ?_; rw [Bool.eq_iff_iff]; simp; omega) | (rw [Bool.eq_iff_iff]; simp; omega)

theorem makeB (n : Nat) (hn : n ≤ 5000000) : ∀ W : World, (Instr.makeSlice 22 (.int .i64 (n : Int)) (.int .i64 (n : Int))).run Try.prog W = .ok (.slice (some ⟨W.heap.size, 0, none⟩) n n) (W.alloc (.cells (cellsOf (List.replicate n 0)).toArray 5)) := by
  obtain ⟨i0, hi, hz0, hz1, hz2⟩ := info_parts Try.info5
  intro W
  have := run_make (P := Try.prog) W 22 5 i0 (.int .u8 0) Try.underlying22 hi hz0 .i64 .i64 n n (by omega) (Int.le_refl _) (by rw [hz2]; omega) (by omega)
  rw [hz1] at this
  have e : madeCells (Value.int .u8 0).cells (n * 1) = (cellsOf (List.replicate n 0)).toArray := by
    apply Array.ext'
    rw [Nat.mul_one]
    show (madeCells #[.int .u8 0] n).toList = _
    rw [toList_madeCells_one]
    simp [cellsOf]
  rw [← e]
  simpa using this

theorem ownB_made (w : World) (n : Nat) (hn : n ≤ 5000000) : OwnB (w.alloc (.cells (cellsOf (List.replicate n 0)).toArray 5)) w.heap.size (.slice (some ⟨w.heap.size, 0, none⟩) n n) (List.replicate n 0) := by
  refine ⟨fun b hb => ?_, .inr ⟨w.heap.size, n, _, (0, 0), by simp, Nat.le_refl _, heap_alloc_new w _, .inr rfl, by simp, by unfold maxLen; omega, by simp [cellsOf_length], ?_⟩⟩
  · rw [List.eq_of_mem_replicate hb]; omega
  · simp [cellsOf]

theorem OwnB.set {w : World} {base : Nat} {a : Option Addr} {n c : Nat} {bs : List Nat} (h : OwnB w base (.slice a n c) bs) {k x : Nat} (hk : k < bs.length) (hx : x < 256) :
    ∃ g, a = some ⟨g, 0, none⟩ ∧ base ≤ g ∧ w.cell? ⟨g, k, none⟩ = some (.int .u8 ((bs.getD k 0 : Nat) : Int)) ∧ w.frozen? ⟨g, k, none⟩ = false ∧ OwnB (w.setCell ⟨g, k, none⟩ (.int .u8 (x : Int))) base (.slice a n c) (bs.set k x) := by
  have hl := h.lies
  rcases h.own with ⟨_, rfl⟩ | ⟨g, cap, cur, fz, e, hb, hg, hfz, hc, hcm, hcs, ht⟩
  · simp at hk
  · cases e
    obtain ⟨ad, e2, hck⟩ := hl.2 k hk
    cases e2
    rw [add_none, Nat.zero_add] at hck
    refine ⟨g, rfl, hb, hck, ?_, ?_, .inr ⟨g, c, _, fz, by rw [List.length_set], hb, heap_setCell_own _ hg, by simpa using hfz, by simpa using hc, hcm, by simpa using hcs, ?_⟩⟩
    · obtain ⟨lo, hi⟩ := fz
      simp only [World.frozen?, hg, Bool.and_eq_false_iff, decide_eq_false_iff_not]
      simp only at hfz
      omega
    · intro b hb2
      rcases List.mem_or_eq_of_mem_set hb2 with h1 | h1
      · exact h.small b h1
      · rw [h1]; exact hx
    · rw [List.length_set, Array.toList_setIfInBounds, List.take_set, ht]
      simp [cellsOf, List.map_set]
end Go.Proofs.Ytkafhjjdeldkbaa
