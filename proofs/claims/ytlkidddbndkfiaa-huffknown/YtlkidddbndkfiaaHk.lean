/-
  Take, guarded.
-/
import Derived.Test.YtlkidddbndkfiaaHi
namespace Go.Proofs.Ytlkidddbndkfiaa
open Go.RowKit

set_option maxHeartbeats 800000 in
theorem closure16 (P5 P9 P12 lo hi C lo' hi' B : Nat) (ls : List Int) (bs : List Nat) (p : Nat) (ov : Value) (wn x : Int) (w : World) (h5 : w.heap[P5]? = some (.cells #[.pointer (some ⟨C, 0, none⟩)] 24 (0, 0))) (h9 : w.heap[P9]? = some (.cells #[.pointer (some ⟨B, 0, none⟩)] 35 (0, 0))) (h12 : w.heap[P12]? = some (.cells #[.int .i64 x] 3 (0, 0)))
    (hC : Cd w lo hi C ls) (hB : Rd 70 w lo' hi' B bs p ov wn) (hap : hi ≤ lo') (hap12 : hi' ≤ P12) (Q : Ending → World → Prop)
    (hhit : ∀ n y w', Hit ls (leNum bs) (8 * bs.length) p n → (rkd ls 15)[hitAt ls (leNum bs) p n]? = some y → Rd 70 w' lo' hi' B bs (p + n) ov wn → w'.heap[P12]? = some (.cells #[.int .i64 (y : Int)] 3 (0, 0)) → Fr (fun k => k = B ∨ k = P12) w w' → Q (.returned (.tuple #[])) w')
    (hno : (∀ n, ¬ Hit ls (leNum bs) (8 * bs.length) p n) → ∀ er w', Fr (fun k => k = B ∨ k = P12) w w' → Q (errPanic er) w') :
    Calls Try.prog 16 #[.pointer (some ⟨P5, 0, none⟩), .pointer (some ⟨P9, 0, none⟩), .pointer (some ⟨P12, 0, none⟩)] w Q := by
  have k5 := cell_of (o := 0) h5 rfl
  have k9 := cell_of (o := 0) h9 rfl
  have b1 := hB.elo
  have b2 := hB.ehi
  have H12 := hide h12
  have HC := hide hC
  have HB := hide hB
  have Hhit := hide hhit
  have Hno := hide hno
  clear h5 h9 h12 hC hB hhit hno
  go_enter Try.func16, Try.ntmps16
  go_wp2_with fail
  refine take_Q lo hi C lo' hi' B ls bs p ov wn w HC.out HB.out (Or.inl (by omega)) _ ?_ ?_
  · intro n y w1 g1 g2 g3 g4
    have c12 : w1.heap[P12]? = some (.cells #[.int .i64 x] 3 (0, 0)) := by rw [g4.block P12 (lt_of H12.out) (by omega)]; exact H12.out
    have q12 := cell_of (o := 0) c12 rfl
    have z12 := frozen_of (o := 0) c12
    have Hq := hide (Hhit.out n y (w1.setCell ⟨P12, 0, none⟩ (.int .i64 (y : Int))) g1 g2 (g3.keep (Fr.of_setCell w1 ⟨P12, 0, none⟩ _) (fun k _ hk => by show ¬ k = P12; omega)) (heap_setCell_one _ c12) ((g4.trans (Fr.of_setCell w1 ⟨P12, 0, none⟩ (.int .i64 (y : Int)))).mono fun k _ hk => by simpa using hk))
    clear g1 g2 g3 g4 c12
    go_wp2
    go_end0
    exact Hq.out
  · intro g1 er w1 g2
    exact ⟨rfl, Hno.out g1 er w1 (g2.mono fun k _ hk => Or.inl hk)⟩

theorem cf16 (W : World) (a b c : Value) : (callFunc 16 #[a, b, c]).run Try.prog W = .ok (.enter 16 #[a, b, c]) W := by kernel_rfl

theorem guard16 (P5 P9 P12 lo hi C lo' hi' B : Nat) (ls : List Int) (bs : List Nat) (p : Nat) (ov : Value) (wn x : Int) (w : World) (h5 : w.heap[P5]? = some (.cells #[.pointer (some ⟨C, 0, none⟩)] 24 (0, 0))) (h9 : w.heap[P9]? = some (.cells #[.pointer (some ⟨B, 0, none⟩)] 35 (0, 0))) (h12 : w.heap[P12]? = some (.cells #[.int .i64 x] 3 (0, 0)))
    (hC : Cd w lo hi C ls) (hB : Rd 70 w lo' hi' B bs p ov wn) (hap : hi ≤ lo') (hap12 : hi' ≤ P12) :
    Calls Try.prog 15 #[.func (.func 16) #[] #[.pointer (some ⟨P5, 0, none⟩), .pointer (some ⟨P9, 0, none⟩), .pointer (some ⟨P12, 0, none⟩)]] w fun e w' =>
      (∃ n y, e = .returned (.bool true) ∧ Hit ls (leNum bs) (8 * bs.length) p n ∧ (rkd ls 15)[hitAt ls (leNum bs) p n]? = some y ∧ Rd 70 w' lo' hi' B bs (p + n) ov wn ∧ w'.heap[P12]? = some (.cells #[.int .i64 (y : Int)] 3 (0, 0)) ∧ Fr (fun k => k = B ∨ k = P12) w w') ∨
      (e = .returned (.bool false) ∧ (∀ n, ¬ Hit ls (leNum bs) (8 * bs.length) p n) ∧ Fr (fun k => k = B ∨ k = P12) w w') := by
  have hs := hB.esz
  have b1 := hB.elo
  have b2 := hB.ehi
  have s12 := lt_of h12
  refine (guard_c 16 _ w (fun b w' => ((b = true ∧ ∃ n y, Hit ls (leNum bs) (8 * bs.length) p n ∧ (rkd ls 15)[hitAt ls (leNum bs) p n]? = some y ∧ Rd 70 w' lo' hi' B bs (p + n) ov wn ∧ w'.heap[P12]? = some (.cells #[.int .i64 (y : Int)] 3 (0, 0))) ∨ (b = false ∧ ∀ n, ¬ Hit ls (leNum bs) (8 * bs.length) p n)) ∧ Fr (fun k => k = B ∨ k = P12) (w.alloc (.cells #[.bool false] 4)) w') (fun W => cf16 W _ _ _) ?_ ?_).mono ?_
  · refine closure16 P5 P9 P12 lo hi C lo' hi' B ls bs p ov wn x _ ?_ ?_ ?_ (hC.keep (Fr.of_alloc w _) (fun _ _ _ h => h)) (hB.keep (Fr.of_alloc w _) (fun _ _ _ h => h)) hap hap12 _ ?_ ?_
    · rw [Below.heap_alloc _ _ _ (lt_of h5)]; exact h5
    · rw [Below.heap_alloc _ _ _ (lt_of h9)]; exact h9
    · rw [Below.heap_alloc _ _ _ (lt_of h12)]; exact h12
    · intro n y w' g1 g2 g3 g4 g5
      exact Or.inl ⟨rfl, Or.inl ⟨rfl, n, y, g1, g2, g3, g4⟩, g5⟩
    · intro g1 er w' g2
      exact Or.inr ⟨⟨_, _, rfl⟩, Or.inr ⟨rfl, g1⟩, g2⟩
  · rintro b w' ⟨_, f⟩
    rw [f.block _ (by simp) (by omega)]
    exact heap_alloc_new _ _
  · rintro e w' ⟨b, w1, rfl, ⟨⟨rfl, n, y, g1, g2, g3, g4⟩ | ⟨rfl, g1⟩, f⟩, rfl⟩
    · refine Or.inl ⟨n, y, rfl, g1, g2, g3.keep (Fr.of_setCell _ _ _) (fun k _ hk => by show ¬ k = w.heap.size; omega), ?_, guard_set f⟩
      rw [Below.heap_setCell _ _ _ _ (by show P12 ≠ w.heap.size; omega)]
      exact g4
    · exact Or.inr ⟨rfl, g1, guard_set f⟩
set_option maxHeartbeats 800000 in
theorem closure23 (P5 P9 P12 lo hi C lo' hi' B : Nat) (ls : List Int) (bs : List Nat) (p : Nat) (ov : Value) (wn x : Int) (w : World) (h5 : w.heap[P5]? = some (.cells #[.pointer (some ⟨C, 0, none⟩)] 24 (0, 0))) (h9 : w.heap[P9]? = some (.cells #[.pointer (some ⟨B, 0, none⟩)] 35 (0, 0))) (h12 : w.heap[P12]? = some (.cells #[.int .i64 x] 3 (0, 0)))
    (hC : Cd w lo hi C ls) (hB : Rd 70 w lo' hi' B bs p ov wn) (hap : hi ≤ lo') (hap12 : hi' ≤ P12) (Q : Ending → World → Prop)
    (hhit : ∀ n y w', Hit ls (leNum bs) (8 * bs.length) p n → (rkd ls 15)[hitAt ls (leNum bs) p n]? = some y → Rd 70 w' lo' hi' B bs (p + n) ov wn → w'.heap[P12]? = some (.cells #[.int .i64 (y : Int)] 3 (0, 0)) → Fr (fun k => k = B ∨ k = P12) w w' → Q (.returned (.tuple #[])) w')
    (hno : (∀ n, ¬ Hit ls (leNum bs) (8 * bs.length) p n) → ∀ er w', Fr (fun k => k = B ∨ k = P12) w w' → Q (errPanic er) w') :
    Calls Try.prog 23 #[.pointer (some ⟨P5, 0, none⟩), .pointer (some ⟨P9, 0, none⟩), .pointer (some ⟨P12, 0, none⟩)] w Q := by
  have k5 := cell_of (o := 0) h5 rfl
  have k9 := cell_of (o := 0) h9 rfl
  have b1 := hB.elo
  have b2 := hB.ehi
  have H12 := hide h12
  have HC := hide hC
  have HB := hide hB
  have Hhit := hide hhit
  have Hno := hide hno
  clear h5 h9 h12 hC hB hhit hno
  go_enter Try.func23, Try.ntmps23
  go_wp2_with fail
  refine take_Q lo hi C lo' hi' B ls bs p ov wn w HC.out HB.out (Or.inl (by omega)) _ ?_ ?_
  · intro n y w1 g1 g2 g3 g4
    have c12 : w1.heap[P12]? = some (.cells #[.int .i64 x] 3 (0, 0)) := by rw [g4.block P12 (lt_of H12.out) (by omega)]; exact H12.out
    have q12 := cell_of (o := 0) c12 rfl
    have z12 := frozen_of (o := 0) c12
    have Hq := hide (Hhit.out n y (w1.setCell ⟨P12, 0, none⟩ (.int .i64 (y : Int))) g1 g2 (g3.keep (Fr.of_setCell w1 ⟨P12, 0, none⟩ _) (fun k _ hk => by show ¬ k = P12; omega)) (heap_setCell_one _ c12) ((g4.trans (Fr.of_setCell w1 ⟨P12, 0, none⟩ (.int .i64 (y : Int)))).mono fun k _ hk => by simpa using hk))
    clear g1 g2 g3 g4 c12
    go_wp2
    go_end0
    exact Hq.out
  · intro g1 er w1 g2
    exact ⟨rfl, Hno.out g1 er w1 (g2.mono fun k _ hk => Or.inl hk)⟩

theorem cf23 (W : World) (a b c : Value) : (callFunc 23 #[a, b, c]).run Try.prog W = .ok (.enter 23 #[a, b, c]) W := by kernel_rfl

theorem guard23 (P5 P9 P12 lo hi C lo' hi' B : Nat) (ls : List Int) (bs : List Nat) (p : Nat) (ov : Value) (wn x : Int) (w : World) (h5 : w.heap[P5]? = some (.cells #[.pointer (some ⟨C, 0, none⟩)] 24 (0, 0))) (h9 : w.heap[P9]? = some (.cells #[.pointer (some ⟨B, 0, none⟩)] 35 (0, 0))) (h12 : w.heap[P12]? = some (.cells #[.int .i64 x] 3 (0, 0)))
    (hC : Cd w lo hi C ls) (hB : Rd 70 w lo' hi' B bs p ov wn) (hap : hi ≤ lo') (hap12 : hi' ≤ P12) :
    Calls Try.prog 15 #[.func (.func 23) #[] #[.pointer (some ⟨P5, 0, none⟩), .pointer (some ⟨P9, 0, none⟩), .pointer (some ⟨P12, 0, none⟩)]] w fun e w' =>
      (∃ n y, e = .returned (.bool true) ∧ Hit ls (leNum bs) (8 * bs.length) p n ∧ (rkd ls 15)[hitAt ls (leNum bs) p n]? = some y ∧ Rd 70 w' lo' hi' B bs (p + n) ov wn ∧ w'.heap[P12]? = some (.cells #[.int .i64 (y : Int)] 3 (0, 0)) ∧ Fr (fun k => k = B ∨ k = P12) w w') ∨
      (e = .returned (.bool false) ∧ (∀ n, ¬ Hit ls (leNum bs) (8 * bs.length) p n) ∧ Fr (fun k => k = B ∨ k = P12) w w') := by
  have hs := hB.esz
  have b1 := hB.elo
  have b2 := hB.ehi
  have s12 := lt_of h12
  refine (guard_c 23 _ w (fun b w' => ((b = true ∧ ∃ n y, Hit ls (leNum bs) (8 * bs.length) p n ∧ (rkd ls 15)[hitAt ls (leNum bs) p n]? = some y ∧ Rd 70 w' lo' hi' B bs (p + n) ov wn ∧ w'.heap[P12]? = some (.cells #[.int .i64 (y : Int)] 3 (0, 0))) ∨ (b = false ∧ ∀ n, ¬ Hit ls (leNum bs) (8 * bs.length) p n)) ∧ Fr (fun k => k = B ∨ k = P12) (w.alloc (.cells #[.bool false] 4)) w') (fun W => cf23 W _ _ _) ?_ ?_).mono ?_
  · refine closure23 P5 P9 P12 lo hi C lo' hi' B ls bs p ov wn x _ ?_ ?_ ?_ (hC.keep (Fr.of_alloc w _) (fun _ _ _ h => h)) (hB.keep (Fr.of_alloc w _) (fun _ _ _ h => h)) hap hap12 _ ?_ ?_
    · rw [Below.heap_alloc _ _ _ (lt_of h5)]; exact h5
    · rw [Below.heap_alloc _ _ _ (lt_of h9)]; exact h9
    · rw [Below.heap_alloc _ _ _ (lt_of h12)]; exact h12
    · intro n y w' g1 g2 g3 g4 g5
      exact Or.inl ⟨rfl, Or.inl ⟨rfl, n, y, g1, g2, g3, g4⟩, g5⟩
    · intro g1 er w' g2
      exact Or.inr ⟨⟨_, _, rfl⟩, Or.inr ⟨rfl, g1⟩, g2⟩
  · rintro b w' ⟨_, f⟩
    rw [f.block _ (by simp) (by omega)]
    exact heap_alloc_new _ _
  · rintro e w' ⟨b, w1, rfl, ⟨⟨rfl, n, y, g1, g2, g3, g4⟩ | ⟨rfl, g1⟩, f⟩, rfl⟩
    · refine Or.inl ⟨n, y, rfl, g1, g2, g3.keep (Fr.of_setCell _ _ _) (fun k _ hk => by show ¬ k = w.heap.size; omega), ?_, guard_set f⟩
      rw [Below.heap_setCell _ _ _ _ (by show P12 ≠ w.heap.size; omega)]
      exact g4
    · exact Or.inr ⟨rfl, g1, guard_set f⟩
end Go.Proofs.Ytlkidddbndkfiaa
