/-
  HuffKnown: what Lengths must answer, and the objects kept.
-/
import Derived.Test.YtlkidddbndkfiaaKb
import Derived.Test.YtlkidddbndkfiaaGa
namespace Go.Proofs.Ytlkidddbndkfiaa
open Go.RowKit

theorem fz_two {z : Int} (h1 : 1 ≤ z) (h2 : z ≤ 2) : 8192 ≤ fz z := by
  rcases (by omega : z = 1 ∨ z = 2) with rfl | rfl <;> decide

theorem one_len {o : List Int} (h : LenOk [0, 5, 0] 7 o) : at0 o 1 = 1 := by
  have h1 := h.pos 1 (by decide) (by decide)
  have h2 := h.one (by decide) 1 (by decide)
  omega

theorem fib_len {o : List Int} (h : LenOk [1, 1, 2, 3, 5, 8, 13, 21] 4 o) : 3 ≤ at0 o 0 ∧ at0 o 0 ≤ 4 := by
  have hl : o.length = 8 := h.len
  have p0 := h.pos 0 (by decide) (by decide)
  have p1 := h.pos 1 (by decide) (by decide)
  have p2 := h.pos 2 (by decide) (by decide)
  have p3 := h.pos 3 (by decide) (by decide)
  have p4 := h.pos 4 (by decide) (by decide)
  have p5 := h.pos 5 (by decide) (by decide)
  have p6 := h.pos 6 (by decide) (by decide)
  have p7 := h.pos 7 (by decide) (by decide)
  have m2 := h.mono 2 0 (by decide) (by decide) (by decide) (by decide)
  have m3 := h.mono 3 0 (by decide) (by decide) (by decide) (by decide)
  have m4 := h.mono 4 0 (by decide) (by decide) (by decide) (by decide)
  have m5 := h.mono 5 0 (by decide) (by decide) (by decide) (by decide)
  have m6 := h.mono 6 0 (by decide) (by decide) (by decide) (by decide)
  have m7 := h.mono 7 0 (by decide) (by decide) (by decide) (by decide)
  have ht : 2 ≤ tot o 15 := by
    unfold tot
    rw [hl]
    simp only [totk_succ]
    rw [if_pos (by omega), if_pos (by omega)]
    omega
  have hk : frk o 15 = 0 := by
    rcases h.code with hc | hc | hc
    · exact hc
    · omega
    · omega
  have hf := fr_nx o 15
  rw [hk] at hf
  have hn : nx o 15 = fz (at0 o 0) + fz (at0 o 1) + fz (at0 o 2) + fz (at0 o 3) + fz (at0 o 4) + fz (at0 o 5) + fz (at0 o 6) + fz (at0 o 7) := by
    unfold nx
    rw [hl]
    simp only [nxk_fz, nxk_zero, Nat.zero_add]
  have h32 : (2 : Int) ^ 15 = 32768 := by decide
  rw [h32] at hf
  refine ⟨?_, by omega⟩
  apply Classical.byContradiction
  intro hlt
  have f0 := fz_two (z := at0 o 0) (by omega) (by omega)
  have f2 := fz_two (z := at0 o 2) (by omega) (by omega)
  have f3 := fz_two (z := at0 o 3) (by omega) (by omega)
  have f4 := fz_two (z := at0 o 4) (by omega) (by omega)
  have f5 := fz_two (z := at0 o 5) (by omega) (by omega)
  have f6 := fz_two (z := at0 o 6) (by omega) (by omega)
  have f7 := fz_two (z := at0 o 7) (by omega) (by omega)
  omega

/-- A code in a variable of its own. -/
structure Kn (w : World) (ls : List Int) (P C lo hi : Nat) : Prop where
  h : w.heap[P]? = some (.cells #[.pointer (some ⟨C, 0, none⟩)] 24 (0, 0))
  c : Cd w lo hi C ls
  sz : hi ≤ w.heap.size
theorem Kn.keep {w w' : World} {ls : List Int} {P C lo hi : Nat} (k : Kn w ls P C lo hi) (f : Fr (fun _ => False) w w') : Kn w' ls P C lo hi :=
  ⟨by rw [f.block P (lt_of k.h) (fun h => h)]; exact k.h, k.c.keep f (fun _ _ _ h => h), Nat.le_trans k.sz f.size⟩
theorem Kn.keep13 {w w' : World} {ls : List Int} {P C lo hi Q : Nat} (k : Kn w ls P C lo hi) (f : Fr (fun k => k = Q) w w') (h1 : P < Q) (h2 : hi ≤ Q) : Kn w' ls P C lo hi :=
  ⟨by rw [f.block P (lt_of k.h) (by omega)]; exact k.h, k.c.keep f (fun j _ h h' => by omega), Nat.le_trans k.sz f.size⟩
theorem Kn.new {w : World} {ls : List Int} {C lo hi : Nat} (c : Cd w lo hi C ls) (sz : hi ≤ w.heap.size) : Kn (w.alloc (.cells #[.pointer (some ⟨C, 0, none⟩)] 24)) ls w.heap.size C lo hi :=
  ⟨heap_alloc_new _ _, c.keep (Fr.of_alloc w _) (fun _ _ _ h => h), by simp; omega⟩

theorem good001 : good [0, 0, 1] := by unfold good; decide
theorem good0 : good [] := by unfold good; decide
theorem good2 : good [2] := by unfold good; decide
theorem bad16 : ¬ good [16] := by unfold good; decide
theorem good12 : good [1, 2] := by unfold good; decide
theorem bad321 : ¬ good (zeros 321) := fun h => by
  have h1 := h.1
  have h2 : (zeros 321).length = 321 := List.length_replicate
  omega
theorem goodL1 : GoodL [0, 5, 0] 7 := by unfold GoodL goodF; decide
theorem goodL2 : GoodL [1, 1, 2, 3, 5, 8, 13, 21] 4 := by unfold GoodL goodF; decide
theorem badL3 : ¬ GoodL [1, 1, 1] 1 := by unfold GoodL goodF; decide
theorem lies_zeros (w : World) (zs : Array Value) (n : Nat) (h1 : zs.size = n) (h2 : ∀ i, i < n → zs[i]? = some (.int .i64 0)) : LiesI (w.alloc (.cells zs 3)) (some ⟨w.heap.size, 0, none⟩) (zeros n) := by
  intro j hj
  refine ⟨⟨w.heap.size, 0, none⟩, rfl, ?_⟩
  rw [add_none]
  simpa using ((outM_new w zs n h1 h2).cell hj).1
theorem new_two (w : World) (o : Obj) (n : Nat) (hn : n = w.heap.size + 1) :
    Calls Try.prog 10 #[.slice (some ⟨n, 0, none⟩) 1 1] ((w.alloc o).alloc (.cells #[.int .i64 2] 3)) fun e w' => e = .returned (.tuple #[.pointer none, .int .i64 4]) ∧ Fr (fun _ => False) (w.alloc o) w' := by
  have e : n = (w.alloc o).heap.size := by rw [size_alloc]; exact hn
  subst e
  refine (new_form (some ⟨(w.alloc o).heap.size, 0, none⟩) 1 [2] _ (lies_litI (w.alloc o) [2]) good2 (by unfold codeOk; decide)).mono ?_
  rintro e w' ⟨h1, h2⟩
  exact ⟨h1, (Fr.of_alloc _ _).join h2⟩
theorem new_321 (w : World) (zs : Array Value) (h1 : zs.size = 321) (h2 : ∀ i, i < 321 → zs[i]? = some (.int .i64 0)) :
    Calls Try.prog 10 #[.slice (some ⟨w.heap.size, 0, none⟩) 321 321] (w.alloc (.cells zs 3)) fun e w' => e = .returned (.tuple #[.pointer none, .int .i64 1]) ∧ Fr (fun _ => False) w w' := by
  have hz : (zeros 321).length = 321 := List.length_replicate
  have h := new_arg (some ⟨w.heap.size, 0, none⟩) 321 (zeros 321) _ (lies_zeros w zs 321 h1 h2) (by rw [hz]; decide) bad321
  rw [hz] at h
  exact h.mono fun e w' ⟨h3, h4⟩ => ⟨h3, h4 ▸ Fr.of_alloc _ _⟩
end Go.Proofs.Ytlkidddbndkfiaa
