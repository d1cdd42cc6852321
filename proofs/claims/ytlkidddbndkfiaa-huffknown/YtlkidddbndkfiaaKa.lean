/-
  HuffKnown: Take of known codes, and its closures under Guard.
-/
import Derived.Test.YtlkidddbndkfiaaPg
import Derived.Test.YtlkidddbndkfiaaHk
import Derived.Test.YtlkidddbndkfiaaBh
import Derived.Deep.RegionHeld3
namespace Go.Proofs.Ytlkidddbndkfiaa
open Go.RowKit

theorem hit_one : Hit [0, 0, 1] (leNum [0]) (8 * [0].length) 0 1 := ⟨by decide, by decide, by decide, by decide, fun k hk => by
  obtain rfl : k = 0 := by omega
  decide⟩
theorem hit_one_eq {n : Nat} (h : Hit [0, 0, 1] (leNum [0]) (8 * [0].length) 0 n) : n = 1 := by
  have h1 := h.one
  rcases Nat.lt_or_ge 1 n with h2 | h2
  · have := h.ge 1 h2
    exact absurd this (by decide)
  · omega
theorem no_one (n : Nat) : ¬ Hit [0, 0, 1] (leNum [1]) (8 * [1].length) 0 n := by
  intro h
  have h1 := h.fits
  have h2 := h.lt
  have h3 := h.one
  have : ∀ k : Fin 9, 1 ≤ k.val → ¬ rd (leNum [1]) 0 k.val < nx [0, 0, 1] k.val := by decide
  exact this ⟨n, by simp at h1; omega⟩ h3 h2
theorem no_none (n : Nat) : ¬ Hit [] (leNum [0]) (8 * [0].length) 0 n := by
  intro h
  have h1 := h.fits
  have h2 := h.lt
  have : ∀ k : Fin 9, ¬ rd (leNum [0]) 0 k.val < nx [] k.val := by decide
  exact this ⟨n, by simp at h1; omega⟩ h2

theorem take_known (lo hi C lo' hi' B : Nat) (ov : Value) (wn : Int) (w : World) (hC : Cd w lo hi C [0, 0, 1]) (hB : Rd 70 w lo' hi' B [0] 0 ov wn) (hap : hi ≤ B ∨ B < lo) :
    Calls Try.prog 17 #[.pointer (some ⟨C, 0, none⟩), .pointer (some ⟨B, 0, none⟩)] w fun e w' => e = .returned (.int .i64 2) ∧ Fr (fun k => k = B) w w' := by
  refine take_Q lo hi C lo' hi' B [0, 0, 1] [0] 0 ov wn w hC hB hap _ ?_ ?_
  · intro n y w' h1 h2 _ h4
    obtain rfl := hit_one_eq h1
    have e : (rkd [0, 0, 1] 15)[hitAt [0, 0, 1] (leNum [0]) 0 1]? = some 2 := by decide
    rw [e] at h2
    cases h2
    exact ⟨rfl, h4⟩
  · intro h
    exact absurd hit_one (h 1)
theorem take_never (lo hi C lo' hi' B : Nat) (ls : List Int) (bs : List Nat) (ov : Value) (wn : Int) (w : World) (hC : Cd w lo hi C ls) (hB : Rd 70 w lo' hi' B bs 0 ov wn) (hap : hi ≤ B ∨ B < lo) (hno : ∀ n, ¬ Hit ls (leNum bs) (8 * bs.length) 0 n) :
    Calls Try.prog 17 #[.pointer (some ⟨C, 0, none⟩), .pointer (some ⟨B, 0, none⟩)] w fun e w' => (∃ er, e = errPanic er) ∧ Fr (fun k => k = B) w w' := by
  refine take_Q lo hi C lo' hi' B ls bs 0 ov wn w hC hB hap _ ?_ ?_
  · intro n y w' h1
    exact absurd h1 (hno n)
  · intro _ er w' f
    exact ⟨⟨er, rfl⟩, f⟩

theorem cell_fr {w w2 : World} {P : Nat} {v : Value} {t : TypeId} (f : Fr (fun _ => False) w w2) (h : w.heap[P]? = some (.cells #[v] t (0, 0))) : w2.cell? ⟨P, 0, none⟩ = some v := by
  have h2 : w2.heap[P]? = some (.cells #[v] t (0, 0)) := by rw [f.block P (lt_of h) (fun h => h)]; exact h
  exact cell_of (o := 0) h2 rfl
theorem heap_fr {w w2 w3 : World} {P B lo : Nat} {o : Obj} (f : Fr (fun _ => False) w w2) (f2 : Fr (fun k => k = B) w2 w3) (hlo : w.heap.size ≤ lo) (hB : lo ≤ B) (h : w.heap[P]? = some o) : w3.heap[P]? = some o := by
  have h1 := lt_of h
  have := f.size
  rw [f2.block P (by omega) (by omega), f.block P h1 (fun h => h)]
  exact h

theorem newLow_k (b : Nat) (z : Int) (hz : z = (b : Int)) (hb : b < 256) (w W : World) (f : Fr (fun _ => False) (w.alloc (.cells #[.int .u8 z] 5)) W) :
    Calls Try.prog 14 #[.slice (some ⟨w.heap.size, 0, none⟩) 1 1] W fun e w2 => ∃ B, e = .returned (.pointer (some ⟨B, 0, none⟩)) ∧ Rd 70 w2 W.heap.size w2.heap.size B [b] 0 (.slice none 0 0) 0 ∧ w.heap.size ≤ W.heap.size ∧ Fr (fun _ => False) w w2 := by
  subst hz
  have hl : Lies W (.slice (some ⟨w.heap.size, 0, none⟩) 1 1) [b] := (lies_lit w [b] 1).keep (fun _ ad n c e => by
    cases e
    exact f.block _ (by simp) (fun h => h))
  refine (newLow_c _ [b] W hl (by intro x hx; simp at hx; omega) (by simp)).mono ?_
  rintro e w2 ⟨B, rfl, hR, hF⟩
  refine ⟨B, rfl, hR, ?_, ((Fr.of_alloc w _).join f).join hF⟩
  have := f.size
  simp at this
  omega
theorem drew_fr (w : World) : Fr (fun _ => False) w w.drew := ⟨rfl, rfl, rfl, Nat.le_refl _, fun _ _ _ => rfl⟩

set_option maxHeartbeats 800000 in
theorem closure25 (P1 P13 lo hi C : Nat) (x : Int) (w : World) (h1 : w.heap[P1]? = some (.cells #[.pointer (some ⟨C, 0, none⟩)] 24 (0, 0))) (h13 : w.heap[P13]? = some (.cells #[.int .i64 x] 3 (0, 0))) (hC : Cd w lo hi C [0, 0, 1]) (hhi : hi ≤ w.heap.size) :
    Calls Try.prog 25 #[.pointer (some ⟨P1, 0, none⟩), .pointer (some ⟨P13, 0, none⟩)] w fun e w' => e = .returned (.tuple #[]) ∧ w'.heap[P13]? = some (.cells #[.int .i64 2] 3 (0, 0)) ∧ Fr (fun k => k = P13) w w' := by
  have k1 := cell_of (o := 0) h1 rfl
  have n1 : ¬ P13 = P1 := by
    rintro rfl
    rw [h1] at h13
    simp at h13
  have n2 : ¬ P1 = P13 := fun h => n1 h.symm
  have H1 := hide h1
  have H13 := hide h13
  have HC := hide hC
  clear h1 h13 hC
  go_enter Try.func25, Try.ntmps25
  go_region_held3 (fun w' => w'.cell? ⟨P1, 0, none⟩ = some (.pointer (some ⟨C, 0, none⟩))) (go_keep)
   (first
    | (go_at_call 14; refine (newLow_k 0 0 rfl (by decide) w _ (by first | exact drew_fr _ | exact (drew_fr _).join (drew_fr _) | exact Fr.refl _ _)).mono ?_; rintro e w2 ⟨B, rfl, hR, hW, hF⟩; have HR := hide hR; have HW := hide (Nat.le_trans hW hR.elo); have HF := hide hF; have k2 := cell_fr hF H1.out; clear hR hF hW)
    | (go_at_call 17; refine (take_known lo hi C _ _ B _ _ _ (HC.out.keep HF.out (fun _ _ _ h => h)) HR.out (Or.inl (by have := HW.out; omega))).mono ?_; rintro e w3 ⟨rfl, hF3⟩; have HF3 := hide hF3; have k3 := cell_of (o := 0) (heap_fr HF.out hF3 (Nat.le_refl _) HW.out H1.out) rfl; have h3 := heap_fr HF.out hF3 (Nat.le_refl _) HW.out H13.out; have k13 := cell_of (o := 0) h3 rfl; have z13 := frozen_of (o := 0) h3; have H3 := hide h3; clear hF3 h3))
  go_end0
  refine ⟨rfl, heap_setCell_one _ H3.out, ?_⟩
  refine ((HF.out.trans HF3.out).trans (Fr.of_setCell w3 ⟨P13, 0, none⟩ (.int .i64 2))).mono fun k hk h => ?_
  have := HW.out
  rcases h with (h | h) | h
  · exact h.elim
  · omega
  · exact h
end Go.Proofs.Ytlkidddbndkfiaa
