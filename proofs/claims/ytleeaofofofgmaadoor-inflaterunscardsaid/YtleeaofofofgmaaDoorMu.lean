/-
  The contract of the fixed codes.
-/
import Derived.Test.YtleeaofofofgmaaDoorMt
namespace Go.Proofs.YtleeaofofofgmaaDoor
open Go.RowKit

/-- A row of ints at block D. -/
def RowAt (w : World) (D : Nat) (zs : List Int) : Prop := w.heap[D]? = some (.cells (cellsZ zs).toArray 3 (0, 0))

theorem RowAt.fr {w w' : World} {D : Nat} {zs : List Int} (h : RowAt w D zs) (hF : Fr (fun _ => False) w w') : RowAt w' D zs := (hF.block D (lt_of h) (fun h => h)).trans h
theorem RowAt.lies {w : World} {D : Nat} {zs : List Int} (h : RowAt w D zs) : LiesI w (some ⟨D, 0, none⟩) zs := fun j hj => ⟨_, rfl, by
  rw [add_none, Nat.zero_add]
  exact cell_of h (by simp [cellsZ, at0, List.getElem?_eq_getElem hj])⟩

theorem cell_new1 (w : World) (v : Value) (t : TypeId) : (w.alloc (.cells #[v] t)).cell? ⟨w.heap.size, 0, none⟩ = some v := cell_of (heap_alloc_new _ _) rfl

theorem Fr.of_list {w : World} (o : Obj) : Fr (fun _ => False) w (w.alloc o) := Fr.of_alloc w o

def fixRows : Nat → List Int
  | 0 => List.replicate 144 8
  | 1 => List.replicate 112 9
  | 2 => List.replicate 24 7
  | 3 => List.replicate 8 8
  | _ => []

theorem fixRows_cat : catTo fixRows 4 = fixL := by
  show ((([] ++ List.replicate 144 (8 : Int)) ++ List.replicate 112 9) ++ List.replicate 24 7) ++ List.replicate 8 8 = fixL
  unfold fixL
  simp only [List.nil_append, List.append_assoc]

theorem fixRows_len : ∀ i, i < 4 → 0 < (fixRows i).length := by
  intro i hi
  rcases (by omega : i = 0 ∨ i = 1 ∨ i = 2 ∨ i = 3) with rfl | rfl | rfl | rfl <;> simp only [fixRows, List.length_replicate] <;> omega

theorem fixRows_le : ∀ i, i ≤ 4 → (catTo fixRows i).length ≤ 1000 := by
  intro i hi
  have e0 : (fixRows 0).length = 144 := List.length_replicate
  have e1 : (fixRows 1).length = 112 := List.length_replicate
  have e2 : (fixRows 2).length = 24 := List.length_replicate
  have e3 : (fixRows 3).length = 8 := List.length_replicate
  rcases (by omega : i = 0 ∨ i = 1 ∨ i = 2 ∨ i = 3 ∨ i = 4) with rfl | rfl | rfl | rfl | rfl <;> simp only [catTo, List.length_append, List.length_nil, e0, e1, e2, e3] <;> omega

/-- The rows of the fixed code of literals are made and joined. -/
theorem repeat_at (v : Int) (N : Nat) (w : World) (D : Nat) (hD : D = w.heap.size) (hN : 1 ≤ N ∧ N ≤ 1000) :
    Calls Tryd.prog 62 #[.slice (some ⟨D, 0, none⟩) 1 1, .int .i64 (N : Int)] (w.alloc (.cells #[.int .i64 v] 3)) fun e w' => ∃ D, e = .returned (.slice (some ⟨D, 0, none⟩) N N) ∧ RowAt w' D (List.replicate N v) ∧ w.heap.size ≤ D ∧ Fr (fun _ => False) w w' := by
  subst hD
  refine (repeat_c v ⟨w.heap.size, 0, none⟩ 1 N (w.alloc (.cells #[.int .i64 v] 3)) (cell_new1 _ _ _) hN).mono ?_
  rintro e w' ⟨D, rfl, h1, h2, h3⟩
  exact ⟨D, rfl, h1, by simp at h2; omega, (Fr.of_alloc w _).join h3⟩

def four (a b c d : Nat) : Nat → Nat
  | 0 => a
  | 1 => b
  | 2 => c
  | _ => d

theorem concat_fix (w : World) (D0 D1 D2 D3 : Nat) (h0 : RowAt w D0 (List.replicate 144 8)) (h1 : RowAt w D1 (List.replicate 112 9)) (h2 : RowAt w D2 (List.replicate 24 7)) (h3 : RowAt w D3 (List.replicate 8 8)) :
    Calls Tryd.prog 61 #[.slice (some ⟨w.heap.size, 0, none⟩) 4 4] (w.alloc (.cells #[.slice (some ⟨D0, 0, none⟩) 144 144, .slice (some ⟨D1, 0, none⟩) 112 112, .slice (some ⟨D2, 0, none⟩) 24 24, .slice (some ⟨D3, 0, none⟩) 8 8] 30)) fun e w' =>
      ∃ a c, e = .returned (.slice a fixL.length c) ∧ LiesI w' a fixL ∧ Fr (fun _ => False) w w' := by
  have fr := Fr.of_alloc w (.cells #[.slice (some ⟨D0, 0, none⟩) 144 144, .slice (some ⟨D1, 0, none⟩) 112 112, .slice (some ⟨D2, 0, none⟩) 24 24, .slice (some ⟨D3, 0, none⟩) 8 8] 30)
  have hn := heap_alloc_new w (.cells #[.slice (some ⟨D0, 0, none⟩) 144 144, .slice (some ⟨D1, 0, none⟩) 112 112, .slice (some ⟨D2, 0, none⟩) 24 24, .slice (some ⟨D3, 0, none⟩) 8 8] 30)
  refine (concat_c w.heap.size 4 (four D0 D1 D2 D3) fixRows _ ?_ ?_ fixRows_len (by omega) fixRows_le).mono ?_
  · intro i hi
    rcases (by omega : i = 0 ∨ i = 1 ∨ i = 2 ∨ i = 3) with rfl | rfl | rfl | rfl
    · exact cell_of hn (by simp only [fixRows, List.length_replicate]; rfl)
    · exact cell_of hn (by simp only [fixRows, List.length_replicate]; rfl)
    · exact cell_of hn (by simp only [fixRows, List.length_replicate]; rfl)
    · exact cell_of hn (by simp only [fixRows, List.length_replicate]; rfl)
  · intro i hi
    rcases (by omega : i = 0 ∨ i = 1 ∨ i = 2 ∨ i = 3) with rfl | rfl | rfl | rfl
    · exact (h0.fr fr).lies
    · exact (h1.fr fr).lies
    · exact (h2.fr fr).lies
    · exact (h3.fr fr).lies
  · rintro e w' ⟨a, c, rfl, hown, hF⟩
    rw [fixRows_cat] at hown ⊢
    exact ⟨a, c, rfl, own_lies hown, fr.join hF⟩

set_option maxHeartbeats 600000 in
set_option maxRecDepth 100000 in
theorem fixed_c (w : World) (lo R M B : Nat) (bs : List Nat) (p : Nat) (mst plc : Int) (lst : Bool) (lf bk : Int) (b1 b2 f1 f2 ov : Value) (out : List Nat) (h : Mo w lo R M B bs p mst plc lst lf bk b1 b2 f1 f2 ov out) (hX : FixOk w R M ov f1 f2)
    (Q : Ending → World → Prop) (hQ : ∀ c1 c2 w', Mo w' lo R M B bs p mst plc lst lf bk b1 b2 c1 c2 ov out → CodeAt w' R M ov c1 fixL → CodeAt w' R M ov c2 fixD → Fr (fun k => k = M) w w' → Q (.returned (.agg #[c1, c2])) w') :
    Calls Tryd.prog 52 #[.pointer (some ⟨M, 0, none⟩)] w Q := by
  have fr0 := Fr.of_alloc w (.cells #[.pointer none, .pointer none] 66)
  have HF0 : Hid (Fr (fun _ => False) w (w.alloc (.cells #[.pointer none, .pointer none] 66))) := fr0
  obtain ⟨A, hA⟩ : ∃ A, A = w.heap.size := ⟨_, rfl⟩
  have HA0 : Hid ((w.alloc (.cells #[.pointer none, .pointer none] 66)).heap[A]? = some (.cells #[.pointer none, .pointer none] 66 (0, 0))) := heap_alloc_at hA
  have HO := hide (h.keep fr0 (fun _ _ h => h))
  have HX := hide (hX.keep fr0 (fun _ h => h.elim))
  have HQ := hide hQ
  have HAs := hide hA
  have Hw := hide h
  have q9 : (w.alloc (.cells #[.pointer none, .pointer none] 66)).cell? ⟨M, 9, none⟩ = some f1 := cell_of HO.out.obj rfl
  have q10 : (w.alloc (.cells #[.pointer none, .pointer none] 66)).cell? ⟨M, 10, none⟩ = some f2 := cell_of HO.out.obj rfl
  have hMA : M < A := by rw [hA]; exact h.ltM
  rcases hX with rfl | ⟨⟨C1, c1lo, c1hi, rfl, x1⟩, ⟨C2, c2lo, c2hi, rfl, x2⟩⟩
  · have hO := HO.out
    have fr0' := HF0.out
    clear h fr0 hQ HX q9 q10
    go_enter Tryd.func52, Tryd.ntmps52
    have q9 : (w.alloc (.cells #[.pointer none, .pointer none] 66)).cell? ⟨M, 9, none⟩ = some (.pointer none) := cell_of HO.out.obj rfl
    clear hO fr0'
    go_wp2_with fail
    clear q9
    have hA2 := HAs.out
    have Hs0 : Hid (A + 1 = (w.alloc (.cells #[.pointer none, .pointer none] 66)).heap.size) := by show A + 1 = _; rw [size_alloc, hA2]
    try rw [← hA2]
    clear hA2 hA
    generalize w.alloc (.cells #[.pointer none, .pointer none] 66) = w0 at *
    refine (calls_args (repeat_at 8 144 w0 (A + 1) Hs0.out (by omega)) (by rfl)).mono ?_
    rintro e w1 ⟨D0, rfl, r0, _, F1⟩
    have R0 := hide r0
    have HF1 := hide F1
    clear r0 F1
    go_wp2_with fail
    refine (calls_args (repeat_at 9 112 w1 w1.heap.size rfl (by omega)) (by rfl)).mono ?_
    rintro e w2 ⟨D1, rfl, r1, _, F2⟩
    have R1 := hide r1
    have HF2 := hide F2
    clear r1 F2
    go_wp2_with fail
    refine (calls_args (repeat_at 7 24 w2 w2.heap.size rfl (by omega)) (by rfl)).mono ?_
    rintro e w3 ⟨D2, rfl, r2, _, F3⟩
    have R2 := hide r2
    have HF3 := hide F3
    clear r2 F3
    go_wp2_with fail
    refine (calls_args (repeat_at 8 8 w3 w3.heap.size rfl (by omega)) (by rfl)).mono ?_
    rintro e w4 ⟨D3, rfl, r3, _, F4⟩
    have R3 := hide r3
    have HF4 := hide F4
    clear r3 F4
    go_wp2_with fail
    refine (concat_fix w4 D0 D1 D2 D3 (R0.out.fr (HF2.out.join (HF3.out.join HF4.out))) (R1.out.fr (HF3.out.join HF4.out)) (R2.out.fr HF4.out) R3.out).mono ?_
    rintro e w5 ⟨la, lc, rfl, l5, F5⟩
    have L5 := hide l5
    have HF5 := hide (HF1.out.join (HF2.out.join (HF3.out.join (HF4.out.join F5))))
    clear l5 F5
    go_wp2_with fail
    refine mustBe_c la lc fixL w5 L5.out fixL_good _ ?yes ?nope
    case nope => (intro hn; exact absurd fixL_ok hn)
    intro _ C1 w6 hC1 F6
    have HC1 := hide hC1
    have HF6 := hide F6
    clear hC1 F6
    go_wp2_with fail
    refine (calls_args (repeat_at 5 32 w6 w6.heap.size rfl (by omega)) (by rfl)).mono ?_
    rintro e w7 ⟨D5, rfl, r5, _, F7⟩
    have R5 := hide r5
    have HF7 := hide F7
    clear r5 F7
    go_wp2_with fail
    refine calls_args (mustBe_c (some ⟨D5, 0, none⟩) 32 fixD w7 R5.out.lies fixD_good _ ?yes2 ?nope2) (by rw [fixD_len])
    case nope2 => (intro hn; exact absurd fixD_ok hn)
    intro _ C2 w8 hC2 F8
    have HC2 := hide hC2
    have HF8 := hide F8
    clear hC2 F8
    have HG := hide (HF5.out.join (HF6.out.join (HF7.out.join HF8.out)))
    have H8 := hide (HO.out.keep HG.out (fun _ _ h => h))
    have hb8 := H8.out.obj
    have q9 : w8.cell? ⟨M, 9, none⟩ = some (.pointer none) := cell_of hb8 rfl
    have q10 : w8.cell? ⟨M, 10, none⟩ = some f2 := cell_of hb8 rfl
    have z9 := frozen_of (o := 9) hb8
    have z10 := frozen_of (o := 10) hb8
    have hA8 : w8.heap[A]? = some (.cells #[.pointer none, .pointer none] 66 (0, 0)) := (HG.out.block A (lt_of HA0.out) (fun h => h)).trans HA0.out
    have cA0 : w8.cell? ⟨A, 0, none⟩ = some (.pointer none) := cell_of hA8 rfl
    have cA1 : w8.cell? ⟨A, 1, none⟩ = some (.pointer none) := cell_of hA8 rfl
    have zA0 := frozen_of (o := 0) hA8
    have zA1 := frozen_of (o := 1) hA8
    have hAM : ¬ A = M := by omega
    have hMA2 : ¬ M = A := by omega
    have HA8 := hide hA8
    clear hb8 hA8
    go_wp2
    have f9 : Fr (fun k => k = M) w8 ((w8.setCell ⟨M, 9, none⟩ (.pointer (some ⟨C1, 0, none⟩))).setCell ⟨M, 10, none⟩ (.pointer (some ⟨C2, 0, none⟩))) := (fr_set w8 M 9 _).join (fr_set _ M 10 _)
    have H9 := H8.out.turn (f1' := .pointer (some ⟨C1, 0, none⟩)) (f2' := .pointer (some ⟨C2, 0, none⟩)) f9 (heap_set (o := 10) _ (heap_set (o := 9) _ H8.out.obj))
    have hA9 : ((w8.setCell ⟨M, 9, none⟩ (.pointer (some ⟨C1, 0, none⟩))).setCell ⟨M, 10, none⟩ (.pointer (some ⟨C2, 0, none⟩))).heap[A]? = some (.cells #[.pointer none, .pointer none] 66 (0, 0)) := (f9.block A (lt_of HA8.out) (by omega)).trans HA8.out
    clear q9 q10 z9 z10 cA0 cA1 zA0 zA1
    generalize (w8.setCell ⟨M, 9, none⟩ (.pointer (some ⟨C1, 0, none⟩))).setCell ⟨M, 10, none⟩ (.pointer (some ⟨C2, 0, none⟩)) = w9 at *
    have hA10 := heap_set (o := 1) (.pointer (some ⟨C2, 0, none⟩)) (heap_set (o := 0) (.pointer (some ⟨C1, 0, none⟩)) hA9)
    have fA : Fr (fun k => k = A) w9 ((w9.setCell ⟨A, 0, none⟩ (.pointer (some ⟨C1, 0, none⟩))).setCell ⟨A, 1, none⟩ (.pointer (some ⟨C2, 0, none⟩))) := (fr_set w9 A 0 _).join (fr_set _ A 1 _)
    have d0 := cell_of (o := 0) (v := .pointer (some ⟨C1, 0, none⟩)) hA10 rfl
    have d1 := cell_of (o := 1) (v := .pointer (some ⟨C2, 0, none⟩)) hA10 rfl
    have hA := HAs.out
    have hRM := Hw.out.hM
    have s0 := lt_of HA0.out
    have s1 := HF5.out.size
    have s6 := HF6.out.size
    have s7 := HF7.out.size
    have s8 := HF8.out.size
    refine bodyPost_ret (v := .agg #[.pointer (some ⟨C1, 0, none⟩), .pointer (some ⟨C2, 0, none⟩)]) (by simp [results, Tryd.results52, go_sem, d0, d1]) rfl ?_
    have hov : ∀ g, ov.ownBlock = some g → g < A := fun g hg => by rw [hA]; exact (Hw.out.own.lt g hg).2
    refine HQ.out _ _ _ (H9.keep fA (fun k hk e => ?_)) ⟨C1, w5.heap.size, w6.heap.size, rfl, by omega, ?_, Or.inl (by omega), fun g hg => Or.inl (by have := hov g hg; omega)⟩ ⟨C2, w7.heap.size, w8.heap.size, rfl, by omega, ?_, Or.inl (by omega), fun g hg => Or.inl (by have := hov g hg; omega)⟩ ?_
    · rcases hk with hk | hk | hk
      · omega
      · omega
      · have := hov k hk; omega
    · exact ((HC1.out.keep (HF7.out.join HF8.out) (fun _ _ _ h => h)).keep f9 (fun k h1 h2 e => by omega)).keep fA (fun k h1 h2 e => by omega)
    · exact (HC2.out.keep f9 (fun k h1 h2 e => by omega)).keep fA (fun k h1 h2 e => by omega)
    · refine (((HF0.out.join HG.out).trans f9).trans fA).mono fun k hk h => ?_
      rcases h with (h | h) | h
      · exact h.elim
      · exact h
      · omega
  · have Hx0 : Hid (CodeAt w R M ov (.pointer (some ⟨C1, 0, none⟩)) fixL ∧ CodeAt w R M ov (.pointer (some ⟨C2, 0, none⟩)) fixD) := ⟨⟨C1, c1lo, c1hi, rfl, x1⟩, ⟨C2, c2lo, c2hi, rfl, x2⟩⟩
    clear x1 x2
    have cA0 : (w.alloc (.cells #[.pointer none, .pointer none] 66)).cell? ⟨A, 0, none⟩ = some (.pointer none) := cell_of HA0.out rfl
    have cA1 : (w.alloc (.cells #[.pointer none, .pointer none] 66)).cell? ⟨A, 1, none⟩ = some (.pointer none) := cell_of HA0.out rfl
    have zA0 := frozen_of (o := 0) HA0.out
    have zA1 := frozen_of (o := 1) HA0.out
    clear h fr0 hQ
    go_enter Tryd.func52, Tryd.ntmps52
    go_wp2
    have d0 : (w.alloc (.cells #[.pointer (some ⟨C1, 0, none⟩), .pointer (some ⟨C2, 0, none⟩)] 66)).cell? ⟨w.heap.size, 0, none⟩ = some (.pointer (some ⟨C1, 0, none⟩)) := cell_of (heap_alloc_new _ _) rfl
    have d1 : (w.alloc (.cells #[.pointer (some ⟨C1, 0, none⟩), .pointer (some ⟨C2, 0, none⟩)] 66)).cell? ⟨w.heap.size, 1, none⟩ = some (.pointer (some ⟨C2, 0, none⟩)) := cell_of (heap_alloc_new _ _) rfl
    refine bodyPost_ret (v := .agg #[.pointer (some ⟨C1, 0, none⟩), .pointer (some ⟨C2, 0, none⟩)]) (by simp [results, Tryd.results52, go_sem, d0, d1]) rfl ?_
    have fr := Fr.of_alloc w (.cells #[.pointer (some ⟨C1, 0, none⟩), .pointer (some ⟨C2, 0, none⟩)] 66)
    rcases HX.out with e | ⟨k1, k2⟩
    · cases e
    · have HX2 := Hx0.out
      exact HQ.out _ _ _ (Hw.out.keep fr (fun _ _ h => h)) (HX2.1.keep fr (fun _ h => h.elim)) (HX2.2.keep fr (fun _ h => h.elim)) (Fl0 fr)
end Go.Proofs.YtleeaofofofgmaaDoor
