import Derived.Test.YtkmgpapopgeldaaXd
import Derived.Deep.RegionHeld3
import Derived.Deep.DeepCutAuto
import Derived.Deep.CutRange
import Derived.Deep.RegionWith
namespace Go.Proofs.Ytkmgpapopgeldaa
open Go.RowKit

/-- The round's start: nothing is written. -/
structure W0 (hb : Bool) (w0 : World) (p3 p5 p6 A B K : Nat) (w : World) : Prop where
  c3 : w.heap[p3]? = some (.cells #[.bool hb] 4)
  c5 : w.heap[p5]? = some (.cells #[.pointer (some ⟨A, 0, none⟩)] 25)
  c6 : w.heap[p6]? = some (.cells #[.pointer (some ⟨B, 0, none⟩)] 40)
  wa : Wr 56 w 0 A none [] 0
  wb : Wr 63 w 0 B none [] 0
  pk : Pk w K none [] hb
  fr : Fr (fun _ => False) w0 w
  ge : ((w0.heap.size ≤ p3 ∧ w0.heap.size ≤ p5) ∧ (w0.heap.size ≤ p6 ∧ w0.heap.size ≤ A)) ∧ (w0.heap.size ≤ B ∧ w0.heap.size ≤ K)
  ne : ((p3 ≠ A ∧ p3 ≠ B) ∧ (p3 ≠ K ∧ p5 ≠ A)) ∧ ((p5 ≠ B ∧ p5 ≠ K) ∧ (p6 ≠ A ∧ p6 ≠ B)) ∧ ((p6 ≠ K ∧ A ≠ B) ∧ (A ≠ K ∧ B ≠ K))

theorem W0.low {w0 w : World} {p3 p5 p6 A B K : Nat} (h : W0 false w0 p3 p5 p6 A B K w) : WSt false 56 25 63 40 w0 w.heap.size p3 p5 p6 A B K none none [] [] w := by
  have a1 := h.ge
  have a2 := h.ne
  have a3 := lt_of h.c3
  have a4 := lt_of h.c5
  have a5 := lt_of h.c6
  have a6 := h.wa.blt
  have a7 := h.wb.blt
  have a8 := h.pk.blt
  have a9 := h.fr.size
  exact ⟨h.wa, h.pk, by simp, h.c3, h.c5, h.c6, h.wb, h.fr, by omega, by omega, by omega, by simp, by simp, by simp⟩
theorem W0.high {w0 w : World} {p3 p5 p6 A B K : Nat} (h : W0 true w0 p3 p5 p6 A B K w) : WSt true 63 40 56 25 w0 w.heap.size p3 p6 p5 B A K none none [] [] w := by
  have a1 := h.ge
  have a2 := h.ne
  have a3 := lt_of h.c3
  have a4 := lt_of h.c5
  have a5 := lt_of h.c6
  have a6 := h.wa.blt
  have a7 := h.wb.blt
  have a8 := h.pk.blt
  have a9 := h.fr.size
  exact ⟨h.wb, h.pk, by simp, h.c3, h.c6, h.c5, h.wa, h.fr, by omega, by omega, by omega, by simp, by simp, by simp⟩

theorem pk_zero {w : World} {K : Nat} {hb : Bool} (h : w.heap[K]? = some (.cells #[.slice none 0 0, .bool hb] 45)) : Pk w K none [] hb :=
  ⟨⟨.slice none 0 0, h, World.ownsRow_nil _ _ _ _, rfl⟩, by simp⟩

theorem W0.make {hb : Bool} {w0 wF : World} {p3 p5 p6 A B K loA hiA loB hiB : Nat} (c3 : wF.heap[p3]? = some (.cells #[.bool hb] 4)) (c5 : wF.heap[p5]? = some (.cells #[.pointer (some ⟨A, 0, none⟩)] 25)) (c6 : wF.heap[p6]? = some (.cells #[.pointer (some ⟨B, 0, none⟩)] 40))
    (hA : Rd 56 wF loA hiA A [] 0 (.slice none 0 0) 0) (hB : Rd 63 wF loB hiB B [] 0 (.slice none 0 0) 0) (hK : wF.heap[K]? = some (.cells #[.slice none 0 0, .bool hb] 45)) (f : Fr (fun _ => False) w0 wF)
    (ge : ((w0.heap.size ≤ p3 ∧ w0.heap.size ≤ p5) ∧ (w0.heap.size ≤ p6 ∧ w0.heap.size ≤ A)) ∧ (w0.heap.size ≤ B ∧ w0.heap.size ≤ K))
    (ne : ((p3 ≠ A ∧ p3 ≠ B) ∧ (p3 ≠ K ∧ p5 ≠ A)) ∧ ((p5 ≠ B ∧ p5 ≠ K) ∧ (p6 ≠ A ∧ p6 ≠ B)) ∧ ((p6 ≠ K ∧ A ≠ B) ∧ (A ≠ K ∧ B ≠ K))) : W0 hb w0 p3 p5 p6 A B K wF := by
  obtain ⟨v, h1, _⟩ := hA.eobj
  obtain ⟨v', h1', _⟩ := hB.eobj
  exact ⟨c3, c5, c6, wr_zero 56 wF A _ _ h1, wr_zero 63 wF B _ _ h1', pk_zero hK, f, ge, ne⟩

/-- The last two variables. -/
abbrev two (w : World) (A B : Nat) : World := (w.alloc (.cells #[.pointer (some ⟨A, 0, none⟩)] 25)).alloc (.cells #[.pointer (some ⟨B, 0, none⟩)] 40)
theorem two_fr (w : World) (A B : Nat) : Fr (fun _ => False) w (two w A B) := (Fr.of_alloc w _).join (Fr.of_alloc _ _)
theorem two_5 (w : World) (A B : Nat) : (two w A B).heap[w.heap.size]? = some (.cells #[.pointer (some ⟨A, 0, none⟩)] 25) := by rw [Below.heap_alloc _ _ _ (by simp)]; exact heap_alloc_new _ _
theorem two_6 (w : World) (A B : Nat) : (two w A B).heap[w.heap.size + 1]? = some (.cells #[.pointer (some ⟨B, 0, none⟩)] 40) := heap_alloc_at (by simp only [size_alloc])

section
variable {hb : Bool} {w0 w1 W w2 w3 : World} {p3 A B : Nat}
theorem init_a (c3 : w1.heap[p3]? = some (.cells #[.bool hb] 4)) (f : Fr (fun _ => False) w0 w1) (h3 : w0.heap.size ≤ p3) (fW : Fr (fun _ => False) w1 W) (hA : Rd 56 w2 (W.alloc (.cells #[.slice none 0 0, .bool hb] 45)).heap.size w2.heap.size A [] 0 (.slice none 0 0) 0) (f2 : Fr (fun _ => False) (W.alloc (.cells #[.slice none 0 0, .bool hb] 45)) w2)
    (hB : Rd 63 w3 w2.heap.size w3.heap.size B [] 0 (.slice none 0 0) 0) (f3 : Fr (fun _ => False) w2 w3) : W0 hb w0 p3 w3.heap.size (w3.heap.size + 1) A B W.heap.size (two w3 A B) := by
  have s1 := f.size
  have s2 := fW.size
  have s3 := f2.size
  have s4 := f3.size
  have s5 := lt_of c3
  have a1 := hA.elo
  have a2 := hA.ehi
  have b1 := hB.elo
  have b2 := hB.ehi
  have t := two_fr w3 A B
  have fW3 := ((Fr.of_alloc W (.cells #[.slice none 0 0, .bool hb] 45)).join f2).join f3
  simp only [size_alloc] at s3 a1
  refine W0.make ?_ (two_5 _ _ _) (two_6 _ _ _) (hA.keep (f3.join t) (fun _ _ _ h => h)) (hB.keep t (fun _ _ _ h => h)) ?_ (((f.join fW).join fW3).join t) (by omega) (by omega)
  · rw [((fW.join fW3).join t).block p3 s5 (fun h => h)]; exact c3
  · rw [((f2.join f3).join t).block _ (by simp) (fun h => h)]; exact heap_alloc_new _ _
theorem init_b (c3 : w1.heap[p3]? = some (.cells #[.bool hb] 4)) (f : Fr (fun _ => False) w0 w1) (h3 : w0.heap.size ≤ p3) (fW : Fr (fun _ => False) w1 W) (hA : Rd 56 w2 W.heap.size w2.heap.size A [] 0 (.slice none 0 0) 0) (f2 : Fr (fun _ => False) W w2)
    (hB : Rd 63 w3 (w2.alloc (.cells #[.slice none 0 0, .bool hb] 45)).heap.size w3.heap.size B [] 0 (.slice none 0 0) 0) (f3 : Fr (fun _ => False) (w2.alloc (.cells #[.slice none 0 0, .bool hb] 45)) w3) : W0 hb w0 p3 w3.heap.size (w3.heap.size + 1) A B w2.heap.size (two w3 A B) := by
  have s1 := f.size
  have s2 := fW.size
  have s3 := f2.size
  have s4 := f3.size
  have s5 := lt_of c3
  have a1 := hA.elo
  have a2 := hA.ehi
  have b1 := hB.elo
  have b2 := hB.ehi
  have t := two_fr w3 A B
  have f23 := (Fr.of_alloc w2 (.cells #[.slice none 0 0, .bool hb] 45)).join f3
  simp only [size_alloc] at s4 b1
  refine W0.make ?_ (two_5 _ _ _) (two_6 _ _ _) (hA.keep (f23.join t) (fun _ _ _ h => h)) (hB.keep t (fun _ _ _ h => h)) ?_ ((((f.join fW).join f2).join f23).join t) (by omega) (by omega)
  · rw [(((fW.join f2).join f23).join t).block p3 s5 (fun h => h)]; exact c3
  · rw [(f3.join t).block _ (by simp) (fun h => h)]; exact heap_alloc_new _ _
theorem init_c (c3 : w1.heap[p3]? = some (.cells #[.bool hb] 4)) (f : Fr (fun _ => False) w0 w1) (h3 : w0.heap.size ≤ p3) (fW : Fr (fun _ => False) w1 W) (hA : Rd 56 w2 W.heap.size w2.heap.size A [] 0 (.slice none 0 0) 0) (f2 : Fr (fun _ => False) W w2)
    (hB : Rd 63 w3 w2.heap.size w3.heap.size B [] 0 (.slice none 0 0) 0) (f3 : Fr (fun _ => False) w2 w3) : W0 hb w0 p3 (w3.heap.size + 1) (w3.heap.size + 1 + 1) A B w3.heap.size (two (w3.alloc (.cells #[.slice none 0 0, .bool hb] 45)) A B) := by
  have s1 := f.size
  have s2 := fW.size
  have s3 := f2.size
  have s4 := f3.size
  have s5 := lt_of c3
  have a1 := hA.elo
  have a2 := hA.ehi
  have b1 := hB.elo
  have b2 := hB.ehi
  have t := two_fr (w3.alloc (.cells #[.slice none 0 0, .bool hb] 45)) A B
  have t3 := (Fr.of_alloc w3 (.cells #[.slice none 0 0, .bool hb] 45)).join t
  have c5 := two_5 (w3.alloc (.cells #[.slice none 0 0, .bool hb] 45)) A B
  have c6 := two_6 (w3.alloc (.cells #[.slice none 0 0, .bool hb] 45)) A B
  rw [size_alloc] at c5 c6
  refine W0.make ?_ c5 c6 (hA.keep (f3.join t3) (fun _ _ _ h => h)) (hB.keep t3 (fun _ _ _ h => h)) ?_ ((((f.join fW).join f2).join f3).join t3) (by omega) (by omega)
  · rw [(((fW.join f2).join f3).join t3).block p3 s5 (fun h => h)]; exact c3
  · rw [t.block _ (by simp) (fun h => h)]; exact heap_alloc_new _ _
end

theorem wguard_low_ok (X p3 p5 p6 p9 p10 : Nat) (g : Option Nat) (os : List Nat) (wn n : Nat) (x : Int) (w : World) (hw : Wr 56 w 0 X g os wn) (hs : LowSt os wn) (hwn : wn ≤ 2147480000) (hn : n ≤ 24)
    (h3 : w.heap[p3]? = some (.cells #[.bool false] 4)) (h5 : w.heap[p5]? = some (.cells #[.pointer (some ⟨X, 0, none⟩)] 25)) (h9 : w.heap[p9]? = some (.cells #[.int .i64 x] 3)) (h10 : w.heap[p10]? = some (.cells #[.int .i64 n] 3)) :
    Calls Try.prog 11 #[.func (.func 25) #[] #[.pointer (some ⟨p3, 0, none⟩), .pointer (some ⟨p6, 0, none⟩), .pointer (some ⟨p9, 0, none⟩), .pointer (some ⟨p10, 0, none⟩), .pointer (some ⟨p5, 0, none⟩)]] w fun e w' => e = .returned (.bool true) ∧
      ∃ g' os', Wr 56 w' 0 X g' os' (wn + n) ∧ LowSt os' (wn + n) ∧ leNum os' = leNum os + lowBits (numOf x) 0 n * 2 ^ wn ∧ Fr (fun i => i = X ∨ g = some i) w w' ∧ (g' = g ∨ ∃ k, g' = some k ∧ w.heap.size ≤ k) := by
  have k3 := lt_of h3
  have k5 := lt_of h5
  have k9 := lt_of h9
  have k10 := lt_of h10
  have kX := hw.blt
  have kg := hw.lts
  have fa := Fr.of_alloc w (.cells #[.bool false] 4)
  refine (guard_c 25 _ w (fun b w' => b = true ∧ ∃ g' os', Wr 56 w' 0 X g' os' (wn + n) ∧ LowSt os' (wn + n) ∧ leNum os' = leNum os + lowBits (numOf x) 0 n * 2 ^ wn ∧ Fr (fun i => i = X ∨ g = some i) (w.alloc (.cells #[.bool false] 4)) w' ∧ (g' = g ∨ ∃ k, g' = some k ∧ (w.alloc (.cells #[.bool false] 4)).heap.size ≤ k)) (fun W => cf25 W _ _ _ _ _) ?_ ?_).mono ?_
  · refine (wput_low X p3 p5 p6 p9 p10 x n _ (fun e w' => e = .returned (.tuple #[]) ∧ ∃ g' os', Wr 56 w' 0 X g' os' (wn + n) ∧ LowSt os' (wn + n) ∧ leNum os' = leNum os + lowBits (numOf x) 0 n * 2 ^ wn ∧ Fr (fun i => i = X ∨ g = some i) (w.alloc (.cells #[.bool false] 4)) w' ∧ (g' = g ∨ ∃ k, g' = some k ∧ (w.alloc (.cells #[.bool false] 4)).heap.size ≤ k)) ?_ ?_ ?_ ?_ ?_).mono ?_
    · exact cell_of (o := 0) ((fa.block p3 k3 (fun h => h)).trans h3) rfl
    · exact cell_of (o := 0) ((fa.block p5 k5 (fun h => h)).trans h5) rfl
    · exact cell_of (o := 0) ((fa.block p9 k9 (fun h => h)).trans h9) rfl
    · exact cell_of (o := 0) ((fa.block p10 k10 (fun h => h)).trans h10) rfl
    · exact (low_put_ok 0 X g os wn n x _ (hw.keep fa (fun h => h) (fun _ _ h => h)) hs hwn hn).mono fun e w' ⟨he, r⟩ => Or.inl ⟨he, he, r⟩
    · rintro e w' (⟨he, _, r⟩ | ⟨⟨er, he⟩, he', _⟩)
      · exact Or.inl ⟨he, rfl, r⟩
      · rw [he'] at he; cases he
  · rintro b w' ⟨_, g', os', _, _, _, f, _⟩
    rw [f.block _ (by simp) (fun e => by
      rcases e with e | e
      · omega
      · have := kg _ e; omega)]
    exact heap_alloc_new _ _
  · rintro e w' ⟨b, w1, rfl, ⟨rfl, g', os', r1, r2, r3, r4, r5⟩, rfl⟩
    refine ⟨rfl, g', os', r1.keep (Fr.of_setCell w1 ⟨w.heap.size, 0, none⟩ _) ?_ ?_, r2, r3, guard_set r4, ?_⟩
    · show ¬ X = w.heap.size
      omega
    · intro k hk
      show ¬ k = w.heap.size
      rcases r5 with rfl | ⟨j, rfl, hj⟩
      · have := kg k hk; omega
      · cases hk; simp only [size_alloc] at hj; omega
    · rcases r5 with h | ⟨j, h, hj⟩
      · exact Or.inl h
      · simp only [size_alloc] at hj
        exact Or.inr ⟨j, h, by omega⟩

theorem wguard_low_no (X p3 p5 p6 p9 p10 : Nat) (x n : Int) (w : World) (hn : n < 0 ∨ 24 < n)
    (h3 : w.heap[p3]? = some (.cells #[.bool false] 4)) (h5 : w.heap[p5]? = some (.cells #[.pointer (some ⟨X, 0, none⟩)] 25)) (h9 : w.heap[p9]? = some (.cells #[.int .i64 x] 3)) (h10 : w.heap[p10]? = some (.cells #[.int .i64 n] 3)) :
    Calls Try.prog 11 #[.func (.func 25) #[] #[.pointer (some ⟨p3, 0, none⟩), .pointer (some ⟨p6, 0, none⟩), .pointer (some ⟨p9, 0, none⟩), .pointer (some ⟨p10, 0, none⟩), .pointer (some ⟨p5, 0, none⟩)]] w fun e w' => e = .returned (.bool false) ∧ Fr (fun _ => False) w w' := by
  have k3 := lt_of h3
  have k5 := lt_of h5
  have k9 := lt_of h9
  have k10 := lt_of h10
  have fa := Fr.of_alloc w (.cells #[.bool false] 4)
  refine (guard_c 25 _ w (fun b w' => b = false ∧ w.alloc (.cells #[.bool false] 4) = w') (fun W => cf25 W _ _ _ _ _) ?_ ?_).mono ?_
  · refine (wput_low X p3 p5 p6 p9 p10 x n _ (fun e w' => (∃ er, e = errPanic er) ∧ w.alloc (.cells #[.bool false] 4) = w') ?_ ?_ ?_ ?_ ?_).mono ?_
    · exact cell_of (o := 0) ((fa.block p3 k3 (fun h => h)).trans h3) rfl
    · exact cell_of (o := 0) ((fa.block p5 k5 (fun h => h)).trans h5) rfl
    · exact cell_of (o := 0) ((fa.block p9 k9 (fun h => h)).trans h9) rfl
    · exact cell_of (o := 0) ((fa.block p10 k10 (fun h => h)).trans h10) rfl
    · exact (low_put_bad X x n _ hn).mono fun e w' ⟨he, r⟩ => Or.inr ⟨he, he, r⟩
    · rintro e w' (⟨he, ⟨er, he'⟩, r⟩ | ⟨⟨er, he⟩, _, r⟩)
      · rw [he] at he'; cases he'
      · subst he
        exact Or.inr ⟨⟨_, _, rfl⟩, rfl, r⟩
  · rintro b w' ⟨_, rfl⟩
    exact heap_alloc_new _ _
  · rintro e w' ⟨b, w1, rfl, ⟨rfl, rfl⟩, rfl⟩
    exact ⟨rfl, guard_set (Fr.refl _ _)⟩

theorem wguard_high_ok (X p3 p5 p6 p9 p10 : Nat) (g : Option Nat) (os : List Nat) (wn n : Nat) (x : Int) (w : World) (hw : Wr 63 w 0 X g os wn) (hs : HighSt os wn) (hwn : wn ≤ 2147480000) (hn : n ≤ 24)
    (h3 : w.heap[p3]? = some (.cells #[.bool true] 4)) (h5 : w.heap[p6]? = some (.cells #[.pointer (some ⟨X, 0, none⟩)] 40)) (h9 : w.heap[p9]? = some (.cells #[.int .i64 x] 3)) (h10 : w.heap[p10]? = some (.cells #[.int .i64 n] 3)) :
    Calls Try.prog 11 #[.func (.func 25) #[] #[.pointer (some ⟨p3, 0, none⟩), .pointer (some ⟨p6, 0, none⟩), .pointer (some ⟨p9, 0, none⟩), .pointer (some ⟨p10, 0, none⟩), .pointer (some ⟨p5, 0, none⟩)]] w fun e w' => e = .returned (.bool true) ∧
      ∃ g' os', Wr 63 w' 0 X g' os' (wn + n) ∧ HighSt os' (wn + n) ∧ hiNum os' (wn + n) = hiNum os wn * 2 ^ n + lowBits (numOf x) 0 n ∧ Fr (fun i => i = X ∨ g = some i) w w' ∧ (g' = g ∨ ∃ k, g' = some k ∧ w.heap.size ≤ k) := by
  have k3 := lt_of h3
  have k5 := lt_of h5
  have k9 := lt_of h9
  have k10 := lt_of h10
  have kX := hw.blt
  have kg := hw.lts
  have fa := Fr.of_alloc w (.cells #[.bool false] 4)
  refine (guard_c 25 _ w (fun b w' => b = true ∧ ∃ g' os', Wr 63 w' 0 X g' os' (wn + n) ∧ HighSt os' (wn + n) ∧ hiNum os' (wn + n) = hiNum os wn * 2 ^ n + lowBits (numOf x) 0 n ∧ Fr (fun i => i = X ∨ g = some i) (w.alloc (.cells #[.bool false] 4)) w' ∧ (g' = g ∨ ∃ k, g' = some k ∧ (w.alloc (.cells #[.bool false] 4)).heap.size ≤ k)) (fun W => cf25 W _ _ _ _ _) ?_ ?_).mono ?_
  · refine (wput_high X p3 p5 p6 p9 p10 x n _ (fun e w' => e = .returned (.tuple #[]) ∧ ∃ g' os', Wr 63 w' 0 X g' os' (wn + n) ∧ HighSt os' (wn + n) ∧ hiNum os' (wn + n) = hiNum os wn * 2 ^ n + lowBits (numOf x) 0 n ∧ Fr (fun i => i = X ∨ g = some i) (w.alloc (.cells #[.bool false] 4)) w' ∧ (g' = g ∨ ∃ k, g' = some k ∧ (w.alloc (.cells #[.bool false] 4)).heap.size ≤ k)) ?_ ?_ ?_ ?_ ?_).mono ?_
    · exact cell_of (o := 0) ((fa.block p3 k3 (fun h => h)).trans h3) rfl
    · exact cell_of (o := 0) ((fa.block p6 k5 (fun h => h)).trans h5) rfl
    · exact cell_of (o := 0) ((fa.block p9 k9 (fun h => h)).trans h9) rfl
    · exact cell_of (o := 0) ((fa.block p10 k10 (fun h => h)).trans h10) rfl
    · exact (high_put_ok 0 X g os wn n x _ (hw.keep fa (fun h => h) (fun _ _ h => h)) hs hwn hn).mono fun e w' ⟨he, r⟩ => Or.inl ⟨he, he, r⟩
    · rintro e w' (⟨he, _, r⟩ | ⟨⟨er, he⟩, he', _⟩)
      · exact Or.inl ⟨he, rfl, r⟩
      · rw [he'] at he; cases he
  · rintro b w' ⟨_, g', os', _, _, _, f, _⟩
    rw [f.block _ (by simp) (fun e => by
      rcases e with e | e
      · omega
      · have := kg _ e; omega)]
    exact heap_alloc_new _ _
  · rintro e w' ⟨b, w1, rfl, ⟨rfl, g', os', r1, r2, r3, r4, r5⟩, rfl⟩
    refine ⟨rfl, g', os', r1.keep (Fr.of_setCell w1 ⟨w.heap.size, 0, none⟩ _) ?_ ?_, r2, r3, guard_set r4, ?_⟩
    · show ¬ X = w.heap.size
      omega
    · intro k hk
      show ¬ k = w.heap.size
      rcases r5 with rfl | ⟨j, rfl, hj⟩
      · have := kg k hk; omega
      · cases hk; simp only [size_alloc] at hj; omega
    · rcases r5 with h | ⟨j, h, hj⟩
      · exact Or.inl h
      · simp only [size_alloc] at hj
        exact Or.inr ⟨j, h, by omega⟩

theorem wguard_high_no (X p3 p5 p6 p9 p10 : Nat) (x n : Int) (w : World) (hn : n < 0 ∨ 24 < n)
    (h3 : w.heap[p3]? = some (.cells #[.bool true] 4)) (h5 : w.heap[p6]? = some (.cells #[.pointer (some ⟨X, 0, none⟩)] 40)) (h9 : w.heap[p9]? = some (.cells #[.int .i64 x] 3)) (h10 : w.heap[p10]? = some (.cells #[.int .i64 n] 3)) :
    Calls Try.prog 11 #[.func (.func 25) #[] #[.pointer (some ⟨p3, 0, none⟩), .pointer (some ⟨p6, 0, none⟩), .pointer (some ⟨p9, 0, none⟩), .pointer (some ⟨p10, 0, none⟩), .pointer (some ⟨p5, 0, none⟩)]] w fun e w' => e = .returned (.bool false) ∧ Fr (fun _ => False) w w' := by
  have k3 := lt_of h3
  have k5 := lt_of h5
  have k9 := lt_of h9
  have k10 := lt_of h10
  have fa := Fr.of_alloc w (.cells #[.bool false] 4)
  refine (guard_c 25 _ w (fun b w' => b = false ∧ w.alloc (.cells #[.bool false] 4) = w') (fun W => cf25 W _ _ _ _ _) ?_ ?_).mono ?_
  · refine (wput_high X p3 p5 p6 p9 p10 x n _ (fun e w' => (∃ er, e = errPanic er) ∧ w.alloc (.cells #[.bool false] 4) = w') ?_ ?_ ?_ ?_ ?_).mono ?_
    · exact cell_of (o := 0) ((fa.block p3 k3 (fun h => h)).trans h3) rfl
    · exact cell_of (o := 0) ((fa.block p6 k5 (fun h => h)).trans h5) rfl
    · exact cell_of (o := 0) ((fa.block p9 k9 (fun h => h)).trans h9) rfl
    · exact cell_of (o := 0) ((fa.block p10 k10 (fun h => h)).trans h10) rfl
    · exact (high_put_bad X x n _ hn).mono fun e w' ⟨he, r⟩ => Or.inr ⟨he, he, r⟩
    · rintro e w' (⟨he, ⟨er, he'⟩, r⟩ | ⟨⟨er, he⟩, _, r⟩)
      · rw [he] at he'; cases he'
      · subst he
        exact Or.inr ⟨⟨_, _, rfl⟩, rfl, r⟩
  · rintro b w' ⟨_, rfl⟩
    exact heap_alloc_new _ _
  · rintro e w' ⟨b, w1, rfl, ⟨rfl, rfl⟩, rfl⟩
    exact ⟨rfl, guard_set (Fr.refl _ _)⟩
end Go.Proofs.Ytkmgpapopgeldaa
