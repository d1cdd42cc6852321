/-
  Giving words.
-/
import Derived.Test.YtleeaofofofgmaaDoorHa
import Derived.Laws.MakeOwn
import Derived.Laws.OwnMore
namespace Go.Proofs.YtleeaofofofgmaaDoor
open Go.RowKit

theorem Tryd.info3 : (Tryd.prog.info? 3).map (fun i => (i.zero, i.size, i.bytes)) = some (some (.int .i64 0), 1, 8) := by kernel_rfl

theorem Tryd.info121 : (Tryd.prog.info? 121).map (fun i => (i.zero, i.size, i.bytes)) = some (some (.agg #[.int .i64 0, .int .i64 0]), 2, 16) := by kernel_rfl

/-- The cells of numbers. -/
def cellsI (xs : List Nat) : List Value := xs.map fun x => .int .i64 ((x : Nat) : Int)

/-- What make gives. -/
theorem makeWords (n : Nat) (hn : n ≤ 1000000) : ∃ zs : Array Value, (∀ W : World, (Instr.makeSlice 96 (.int .i64 (n : Int)) (.int .i64 (n : Int))).run Tryd.prog W = .ok (.slice (some ⟨W.heap.size, 0, none⟩) n n) (W.alloc (.cells zs 121))) ∧ zs.size = 2 * n ∧ ∀ i, i < 2 * n → zs[i]? = some (.int .i64 0) := by
  obtain ⟨i0, hi, hz0, hz1, hz2⟩ := info_parts Tryd.info121
  refine ⟨madeCells (Value.agg #[.int .i64 0, .int .i64 0]).cells (n * 2), fun W => ?_, by simp [size_madeCells]; omega, fun i hi => ?_⟩
  · have := run_make (P := Tryd.prog) W 96 121 i0 (.agg #[.int .i64 0, .int .i64 0]) Tryd.underlying96 hi hz0 .i64 .i64 n n (by omega) (Int.le_refl _) (by rw [hz2]; omega) (by omega)
    rw [hz1] at this
    simpa using this
  · have h2 : i % 2 = 0 ∨ i % 2 = 1 := by omega
    have h3 : i < n * 2 := by omega
    rcases h2 with h2 | h2 <;> simp [madeCells, h3, Value.cells, h2]

/-- Whether symbol i has been given its word: sizes up to m are done, of size m + 1 the symbols below k. -/
def given (ls : List Int) (m k i : Nat) : Prop := (1 ≤ at0 ls i ∧ at0 ls i ≤ m) ∨ (at0 ls i = ((m + 1 : Nat) : Int) ∧ i < k)

instance (ls : List Int) (m k i : Nat) : Decidable (given ls m k i) := by unfold given; infer_instance

def wA (ls : List Int) (m k i : Nat) : Int := if given ls m k i then (wd ls i : Nat) else 0

def sA (ls : List Int) (m k i : Nat) : Int := if given ls m k i then at0 ls i else 0

/-- The words' row in memory. -/
def Wds (w : World) (D : Nat) (ls : List Int) (m k : Nat) : Prop :=
  ∃ ws : Array Value, w.heap[D]? = some (.cells ws 121 (0, 0)) ∧ ws.size = 2 * ls.length ∧ ∀ i, i < ls.length → ws[i * 2]? = some (.int .i64 (wA ls m k i)) ∧ ws[i * 2 + 1]? = some (.int .i64 (sA ls m k i))

/-- giveWords under way: what it makes lies behind the blocks of w, but for the code itself. -/
structure Giv (w wr : World) (B D : Nat) (ls : List Int) (m k : Nat) : Prop where
  sz : ∃ rv, Sz wr B (.slice (some ⟨D, 0, none⟩) ls.length ls.length) rv (cnt ls) ∧ wr.ownsRow w.heap.size 3 1 rv (tot ls m + rank ls (m + 1) k) (cellsI (rkd ls m ++ syms ls (m + 1) k)) ∧ ∀ g, rv.ownBlock = some g → g ≠ D
  wds : Wds wr D ls m k
  fr : Fr (fun i => i = B) w wr
  lob : B < w.heap.size
  lod : w.heap.size ≤ D

theorem given_next {ls : List Int} {m k i : Nat} (h : at0 ls k ≠ ((m + 1 : Nat) : Int)) : given ls m (k + 1) i ↔ given ls m k i := by
  unfold given
  constructor
  · rintro (h1 | ⟨h1, h2⟩)
    · exact Or.inl h1
    · refine Or.inr ⟨h1, ?_⟩
      rcases Nat.lt_or_ge i k with h3 | h3
      · exact h3
      · have : i = k := by omega
        subst this; exact absurd h1 h
  · rintro (h1 | ⟨h1, h2⟩)
    · exact Or.inl h1
    · exact Or.inr ⟨h1, by omega⟩

theorem given_size {ls : List Int} {m i : Nat} (hi : i < ls.length) : given ls (m + 1) 0 i ↔ given ls m ls.length i := by
  unfold given
  constructor
  · rintro (⟨h1, h2⟩ | ⟨_, h2⟩)
    · by_cases h3 : at0 ls i = ((m + 1 : Nat) : Int)
      · exact Or.inr ⟨h3, hi⟩
      · exact Or.inl ⟨h1, by omega⟩
    · omega
  · rintro (⟨h1, h2⟩ | ⟨h1, h2⟩)
    · exact Or.inl ⟨h1, by omega⟩
    · exact Or.inl ⟨by omega, by omega⟩

theorem given_start {ls : List Int} {i : Nat} : ¬ given ls 0 0 i := by
  unfold given
  rintro (⟨h1, h2⟩ | ⟨_, h2⟩)
  · omega
  · omega

theorem given_end {ls : List Int} (hg : good ls) {i : Nat} (hi : i < ls.length) : given ls 15 0 i ↔ 1 ≤ at0 ls i := by
  have := hg.2 i hi
  unfold given
  omega

theorem Giv.skip {w wr : World} {B D : Nat} {ls : List Int} {m k : Nat} (h : Giv w wr B D ls m k) (hz : at0 ls k ≠ ((m + 1 : Nat) : Int)) : Giv w wr B D ls m (k + 1) := by
  obtain ⟨rv, h1, h2, h3⟩ := h.sz
  obtain ⟨ws, h4, h5, h6⟩ := h.wds
  refine ⟨⟨rv, h1, ?_, h3⟩, ⟨ws, h4, h5, fun i hi => ?_⟩, h.fr, h.lob, h.lod⟩
  · simp only [rank, syms, if_neg hz]; exact h2
  · have := h6 i hi
    unfold wA sA at this ⊢
    simp only [given_next hz]; exact this

theorem Giv.size {w wr : World} {B D : Nat} {ls : List Int} {m : Nat} (h : Giv w wr B D ls m ls.length) : Giv w wr B D ls (m + 1) 0 := by
  obtain ⟨rv, h1, h2, h3⟩ := h.sz
  obtain ⟨ws, h4, h5, h6⟩ := h.wds
  refine ⟨⟨rv, h1, ?_, h3⟩, ⟨ws, h4, h5, fun i hi => ?_⟩, h.fr, h.lob, h.lod⟩
  · simp only [rank, syms, List.append_nil, rkd, Nat.add_zero]; exact h2
  · have := h6 i hi
    unfold wA sA at this ⊢
    simp only [given_size hi]; exact this

theorem Giv.cells {w wr : World} {B D : Nat} {ls : List Int} {m k : Nat} (h : Giv w wr B D ls m k) {i : Nat} (hi : i < ls.length) :
    (∃ x, wr.cell? ⟨D, i * 2, none⟩ = some (.int .i64 x)) ∧ (∃ x, wr.cell? ⟨D, i * 2 + 1, none⟩ = some (.int .i64 x)) ∧ wr.frozen? ⟨D, i * 2, none⟩ = false ∧ wr.frozen? ⟨D, i * 2 + 1, none⟩ = false := by
  obtain ⟨ws, h4, h5, h6⟩ := h.wds
  exact ⟨⟨_, cell_of h4 (h6 i hi).1⟩, ⟨_, cell_of h4 (h6 i hi).2⟩, frozen_of h4, frozen_of h4⟩

/-- The round of a symbol that has the size in hand. -/
theorem Giv.step {w wr w1 : World} {B D : Nat} {ls : List Int} {m k g cap : Nat} {rv : Value} (h : Giv w wr B D ls m k) (hk : k < ls.length) (hz : at0 ls k = ((m + 1 : Nat) : Int))
    (hs : Sz wr B (.slice (some ⟨D, 0, none⟩) ls.length ls.length) rv (cnt ls)) (hap : ∀ g, rv.ownBlock = some g → g ≠ D) (hrw : ∀ g, rv.ownBlock = some g → w.heap.size ≤ g)
    (hown : w1.ownsRow w.heap.size 3 1 (.slice (some ⟨g, 0, none⟩) (tot ls m + rank ls (m + 1) k + 1) cap) (tot ls m + rank ls (m + 1) k + 1) (cellsI (rkd ls m ++ syms ls (m + 1) k) ++ [.int .i64 (k : Int)]))
    (hf : Fr (fun i => rv.ownBlock = some i) ((wr.setCell ⟨D, k * 2, none⟩ (.int .i64 (wd ls k : Nat))).setCell ⟨D, k * 2 + 1, none⟩ (.int .i64 (at0 ls k))) w1) (hgs : rv.ownBlock = some g ∨ wr.heap.size ≤ g) :
    Giv w (w1.setCell ⟨B, 17, none⟩ (.slice (some ⟨g, 0, none⟩) (tot ls m + rank ls (m + 1) k + 1) cap)) B D ls m (k + 1) := by
  obtain ⟨ws, h4, h5, h6⟩ := h.wds
  obtain ⟨cs, s1, s2, s3, s4, s5⟩ := hs.eobj
  have hB := h.lob
  have hD := h.lod
  have hDs := lt_of h4
  have hwz := h.fr.size
  have hgB : g ≠ B := by
    rcases hgs with e | e
    · have := hrw g e; omega
    · omega
  have hgD : g ≠ D := by
    rcases hgs with e | e
    · exact hap g e
    · omega
  have hf0 : Fr (fun i => i = D) wr ((wr.setCell ⟨D, k * 2, none⟩ (.int .i64 (wd ls k : Nat))).setCell ⟨D, k * 2 + 1, none⟩ (.int .i64 (at0 ls k))) :=
    ((Fr.of_setCell wr ⟨D, k * 2, none⟩ (.int .i64 (wd ls k : Nat))).trans (Fr.of_setCell _ ⟨D, k * 2 + 1, none⟩ (.int .i64 (at0 ls k)))).mono fun i _ hi => by simpa using hi
  have hb1 : w1.heap[B]? = some (.cells cs 98 (0, 0)) := by
    rw [hf.block B (by have := hf0.size; omega) (fun e => by have := hrw B e; omega), hf0.block B (by omega) (by omega)]; exact s1
  have hd1 : w1.heap[D]? = some (.cells ((ws.setIfInBounds (k * 2) (.int .i64 (wd ls k : Nat))).setIfInBounds (k * 2 + 1) (.int .i64 (at0 ls k))) 121 (0, 0)) := by
    rw [hf.block D (by have := hf0.size; omega) (fun e => hap D e rfl)]
    exact heap_setCell_own _ (heap_setCell_own _ h4)
  have hd2 : (w1.setCell ⟨B, 17, none⟩ (.slice (some ⟨g, 0, none⟩) (tot ls m + rank ls (m + 1) k + 1) cap)).heap[D]? = some (.cells ((ws.setIfInBounds (k * 2) (.int .i64 (wd ls k : Nat))).setIfInBounds (k * 2 + 1) (.int .i64 (at0 ls k))) 121 (0, 0)) := by
    rw [Below.heap_setCell _ _ _ _ (by show D ≠ B; omega)]; exact hd1
  refine ⟨⟨.slice (some ⟨g, 0, none⟩) (tot ls m + rank ls (m + 1) k + 1) cap, ⟨_, heap_setCell_own _ hb1, by simpa using s2, ?_, ?_, fun i h1 h2 => ?_⟩, ?_, fun g' e => ?_⟩, ⟨_, hd2, ?_, fun i hi => ?_⟩, ?_, hB, hD⟩
  · rw [Array.getElem?_setIfInBounds_ne (by omega)]; exact s3
  · rw [Array.getElem?_setIfInBounds_self_of_lt (by omega)]
  · rw [Array.getElem?_setIfInBounds_ne (by omega)]; exact s5 i h1 h2
  · simp only [rank, syms, if_pos hz, ← List.append_assoc]
    have e : cellsI (rkd ls m ++ syms ls (m + 1) k ++ [k]) = cellsI (rkd ls m ++ syms ls (m + 1) k) ++ [.int .i64 (k : Int)] := by simp [cellsI]
    rw [e, ← Nat.add_assoc]
    refine ownsRow_fr hown fun i hi => ?_
    have : i = g := by simpa [Value.ownBlock] using hi.symm
    subst this
    exact Below.heap_setCell _ _ _ _ hgB
  · have : g' = g := by simpa [Value.ownBlock] using e.symm
    subst this; exact hgD
  · simpa using h5
  · have hw := h6 i hi
    by_cases e : i = k
    · subst e
      have hgv : given ls m (i + 1) i := Or.inr ⟨hz, by omega⟩
      simp only [wA, sA, if_pos hgv]
      refine ⟨?_, ?_⟩
      · rw [Array.getElem?_setIfInBounds_ne (by omega), Array.getElem?_setIfInBounds_self_of_lt (by omega)]
      · rw [Array.getElem?_setIfInBounds_self_of_lt (by simp; omega)]
    · have hgv : given ls m (k + 1) i ↔ given ls m k i := by unfold given; omega
      unfold wA sA at hw ⊢
      simp only [hgv]
      rw [Array.getElem?_setIfInBounds_ne (by omega), Array.getElem?_setIfInBounds_ne (by omega), Array.getElem?_setIfInBounds_ne (by omega), Array.getElem?_setIfInBounds_ne (by omega)]
      exact hw
  · exact (((h.fr.trans hf0).trans hf).trans (Fr.of_setCell w1 ⟨B, 17, none⟩ _)).mono fun i hi h' => by
      rcases h' with ((h' | h') | h') | h'
      · exact h'
      · omega
      · have := hrw i h'; omega
      · exact h'

theorem Fr.of_grown {w w' : World} {o : Option Nat} (h : w.grownBy w' o) : Fr (fun k => o = some k) w w' := ⟨h.os, h.tape, h.output, h.size, fun k hk hn => h.block k hk (fun e => hn e.symm)⟩

theorem Sz.set2 {w : World} {B D k l : Nat} {wv rv u v : Value} {f : Nat → Nat} (h : Sz w B wv rv f) (hD : ¬ D = B) : Sz ((w.setCell ⟨D, k, none⟩ u).setCell ⟨D, l, none⟩ v) B wv rv f :=
  h.keep (((Fr.of_setCell w ⟨D, k, none⟩ u).trans (Fr.of_setCell _ ⟨D, l, none⟩ v)).mono fun i _ hi => by simpa using hi) (S := fun i => i = D) (fun e => hD e.symm)

theorem add_block (ad : Addr) (j : Nat) : (ad.add j).block = ad.block := by unfold Addr.add; split <;> rfl

theorem LiesI.keep {w w' : World} {a : Option Addr} {zs : List Int} (h : LiesI w a zs) {S : Nat → Prop} (f : Fr S w w') (hS : ∀ ad, a = some ad → zs ≠ [] → ¬ S ad.block) : LiesI w' a zs := by
  intro j hj
  obtain ⟨ad, rfl, hc⟩ := h j hj
  refine ⟨ad, rfl, ?_⟩
  have hb := World.block_lt_of_cell? _ _ hc
  rw [add_block] at hb
  rw [World.cell?_of_block (w := w) (by rw [add_block]; exact f.block _ hb (hS ad rfl (by rintro rfl; simp at hj)))]
  exact hc

set_option maxHeartbeats 1600000 in
set_option maxRecDepth 100000 in
theorem giveWords_c (B : Nat) (a : Option Addr) (c : Nat) (ls : List Int) (w : World) (h : Sz w B (.slice none 0 0) (.slice none 0 0) (cnt ls)) (hl : LiesI w a ls) (hB : ∀ ad, a = some ad → ls ≠ [] → ad.block ≠ B) (hg : good ls) :
    Calls Tryd.prog 75 #[.pointer (some ⟨B, 0, none⟩), .slice a ls.length c] w fun e w' => e = .returned (.tuple #[]) ∧ ∃ D, Giv w w' B D ls 15 0 := by
  obtain ⟨i0, hi, hz0, hz1, hz2⟩ := info_parts Tryd.info3
  obtain ⟨zs, hmk, hzs, hzv⟩ := makeWords ls.length (by have := hg.1; omega)
  have h320 := hg.1
  have hc0 := h.cell0
  have hf0 := h.frozen 0
  have hBlt : B < w.heap.size := by obtain ⟨cs, ho, _⟩ := h.eobj; exact lt_of ho
  have H := hide h
  have Hl := hide hl
  have HB := hide hB
  have Hg := hide hg
  have Hz := hide hzv
  have Hs := hide hzs
  clear h hl hB hg hzv hzs
  go_enter Tryd.func75, Tryd.ntmps75
  go_wp2
  obtain ⟨D, hD⟩ : ∃ D, D = w.heap.size := ⟨_, rfl⟩
  have hst : Giv w ((w.setCell ⟨B, 0, none⟩ (.slice (some ⟨w.heap.size, 0, none⟩) ls.length ls.length)).alloc (.cells zs 121)) B D ls 0 0 := by
    obtain ⟨cs, s1, s2, s3, s4, s5⟩ := H.out.eobj
    have hb1 := heap_setCell_own (o := 0) (.slice (some ⟨w.heap.size, 0, none⟩) ls.length ls.length) s1
    have hsz : (w.setCell ⟨B, 0, none⟩ (.slice (some ⟨w.heap.size, 0, none⟩) ls.length ls.length)).heap.size = w.heap.size := by simp [World.setCell]
    have hd1 : ((w.setCell ⟨B, 0, none⟩ (.slice (some ⟨w.heap.size, 0, none⟩) ls.length ls.length)).alloc (.cells zs 121)).heap[D]? = some (.cells zs 121 (0, 0)) := heap_alloc_at (by rw [hsz]; exact hD)
    refine ⟨⟨.slice none 0 0, ⟨_, by rw [Below.heap_alloc _ _ _ (by rw [hsz]; exact hBlt)]; exact hb1, by simpa using s2, ?_, ?_, fun i h1 h2 => ?_⟩, ?_, fun g e => by cases e⟩, ⟨zs, hd1, Hs.out, fun i hi => ?_⟩, ?_, hBlt, by omega⟩
    · rw [Array.getElem?_setIfInBounds_self_of_lt (by omega), hD]
    · rw [Array.getElem?_setIfInBounds_ne (by omega)]; exact s4
    · rw [Array.getElem?_setIfInBounds_ne (by omega)]; exact s5 i h1 h2
    · exact World.ownsRow_nil _ _ _ _
    · unfold wA sA
      rw [if_neg given_start, if_neg given_start]
      exact ⟨Hz.out _ (by omega), Hz.out _ (by omega)⟩
    · exact ((Fr.of_setCell w ⟨B, 0, none⟩ _).trans (Fr.of_alloc _ _)).mono fun i _ h => by simpa using h
  have Hst := hide hst
  clear hst hD
  go_loopw [4, 5, 6, 7] (fun nxv sz _ _ wr => ∃ m s : Nat, m ≤ 15 ∧ Hid (s = m + 1) ∧ sz = .int .i64 (s : Int) ∧ nxv = .int .i64 (nx ls m : Nat) ∧ Giv w wr B D ls m 0) (fun _ sz _ _ _ => 16 - (intOf sz).toNat)
  case atStart => exact ⟨0, 1, Nat.zero_le _, rfl, rfl, rfl, Hst.out⟩
  case round =>
    obtain ⟨m, s, hm, Hm, rfl, rfl, hG⟩ := hrel
    by_cases hlt : m < 15
    · have hs15 : (s : Int) ≤ 15 := by have := Hm.out; omega
      have hs15' : decide ((s : Int) ≤ 15) = true := decide_eq_true hs15
      have hn1 := nx_bound ls h320 (n := m) (by omega)
      have HG := hide hG
      clear hG
      go_wp2
      go_loopw [4, 6, 7, 22] (fun nxv _ _ i wr => ∃ k : Nat, k ≤ ls.length ∧ i = .int .i64 (k : Int) ∧ nxv = .int .i64 ((2 * nx ls m + rank ls (m + 1) k : Nat) : Int) ∧ Giv w wr B D ls m k) (fun _ _ _ i _ => ls.length - (intOf i).toNat)
      case atStart => exact ⟨0, Nat.zero_le _, rfl, by simp [rank]; omega, HG.out⟩
      case round =>
        obtain ⟨k, hk, rfl, rfl, hG⟩ := hrel
        have hL := Hl.out.keep hG.fr (fun ad e hne => HB.out ad e hne)
        by_cases hlt2 : k < ls.length
        · obtain ⟨ad, rfl, hc⟩ := hL k hlt2
          have hr := rank_le ls (m + 1) k
          by_cases hz : at0 ls k = ((m + 1 : Nat) : Int)
          · obtain ⟨rv, hsz, hown, hap⟩ := hG.sz
            obtain ⟨a0, c0, rfl⟩ := ownsRow_shape hown
            obtain ⟨⟨x0, hx0⟩, ⟨x1, hx1⟩, fx0, fx1⟩ := hG.cells hlt2
            have hb0 := hsz.cell0
            have hb17 := hsz.cell17
            have hfb := hsz.frozen 17
            have hDB : ¬ D = B := by have := hG.lod; have := hG.lob; omega
            have hq : (at0 ls k == (s : Int)) = true := by rw [Hm.out]; simpa using hz
            obtain ⟨X, hX⟩ : ∃ X : Nat, X = 2 * nx ls m + rank ls (m + 1) k := ⟨_, rfl⟩
            rw [← hX]
            have hXb : X ≤ 30000000 := by omega
            have HX := hide hX
            have Hz2 := hide hz
            have hrw : ∀ g, (Value.slice a0 (tot ls m + rank ls (m + 1) k) c0).ownBlock = some g → w.heap.size ≤ g := fun g e => (hown.lt g e).1
            have hlen := tot_le ls m
            have HG := hide hG
            have Hap := hide hap
            have Hsz := hide hsz
            have Hrw := hide hrw
            have hos : ∀ v1 v2, ((wr.setCell ⟨D, k * 2, none⟩ v1).setCell ⟨D, k * 2 + 1, none⟩ v2).ownsRow w.heap.size 3 1 (.slice a0 (tot ls m + rank ls (m + 1) k) c0) (tot ls m + rank ls (m + 1) k) (cellsI (rkd ls m ++ syms ls (m + 1) k)) := by
              intro v1 v2
              refine ownsRow_fr hown fun i hi => ?_
              rw [Below.heap_setCell _ _ _ _ (hap i hi), Below.heap_setCell _ _ _ _ (hap i hi)]
            have Hos := hide hos
            have hwz : w.heap.size ≤ wr.heap.size := hG.fr.size
            clear hL hX hz hG hap hsz hrw hos hown
            obtain ⟨N, hN⟩ : ∃ N, N = tot ls m + rank ls (m + 1) k := ⟨_, rfl⟩
            rw [← hN] at Hos Hrw Hsz Hap hb17
            have hNb : N ≤ 1000 := by omega
            have HN := hide hN
            clear hN
            go_wp2_with (at_builtin; go_must (refine wpList_append_lies _ rfl _ _ 30 rfl w.heap.size 3 i0 (.int .i64 0) 1 8 Tryd.underlying30 hi hz0 hz1 hz2 rfl (by decide) (.slice a0 N c0) N (cellsI (rkd ls m ++ syms ls (m + 1) k)) rfl ((Hos.out _ _).alloc _) ⟨wr.heap.size, 0, none⟩ 1 1 [.int .i64 (k : Int)] rfl rfl (by have := cell_one_new ((wr.setCell ⟨D, k * 2, none⟩ (.int .i64 (X : Int))).setCell ⟨D, k * 2 + 1, none⟩ (.int .i64 (s : Int))) (.int .i64 (k : Int)) 3; simpa [World.setCell] using this) (fun x hx => by simp at hx; subst hx; rfl) (by decide) (by unfold maxLen; omega) (by omega) (by simp [World.setCell]; omega) (wr.heap.size + 1) (by simp [World.setCell]) ?_); intro g cap w1 hown1 hgrow hat hlt1
                         have hF1 : Fr (fun i => (Value.slice a0 N c0).ownBlock = some i) ((wr.setCell ⟨D, k * 2, none⟩ (.int .i64 (X : Int))).setCell ⟨D, k * 2 + 1, none⟩ (.int .i64 (s : Int))) w1 := ((Fr.of_alloc _ _).trans (Fr.of_grown hgrow)).mono fun i _ h => h.elim (fun h => h.elim) id
                         have hSz1 := (Hsz.out.set2 (D := D) (k := k * 2) (l := k * 2 + 1) (u := .int .i64 (X : Int)) (v := .int .i64 (s : Int)) hDB).keep hF1 (fun e => by have := Hrw.out B e; omega)
                         have q17 := hSz1.cell17
                         have z17 := hSz1.frozen 17
                         have Hown1 := hide hown1
                         have HF1 := hide hF1
                         have Hat := hide hat
                         clear hown1 hgrow hat hlt1 hF1 hSz1)
            have eX : X = wd ls k := by
              have hz := Hz2.out
              unfold wd
              rw [HX.out, hz]
              simp
            have eA : (s : Int) = at0 ls k := by rw [Hz2.out, Hm.out]
            have hst := HF1.out
            have how := Hown1.out
            have hsz := Hsz.out
            have hap := Hap.out
            have hrw := Hrw.out
            have hgs : (Value.slice a0 N c0).ownBlock = some g ∨ wr.heap.size ≤ g := by
              rcases Hat.out with h | h
              · exact Or.inl h
              · exact Or.inr (by omega)
            rw [eX, eA] at hst
            have hN := HN.out
            subst hN
            have hgv := HG.out.step hlt2 Hz2.out hsz hap hrw how hst hgs
            have hz := Hz2.out
            have hX := HX.out
            refine ⟨⟨k + 1, by omega, by go_num, ?_, hgv⟩, by simp [intOf]; omega⟩
            simp only [rank, if_pos hz]
            go_num
          · have HR : Hid (rank ls (m + 1) (k + 1) = rank ls (m + 1) k) := by simp only [rank]; rw [if_neg hz]; rfl
            have HG2 := hide (hG.skip hz)
            have hq : (at0 ls k == (s : Int)) = false := beq_false_of_ne (by rw [Hm.out]; exact hz)
            clear hG hL hz
            go_wp2
            go_roundw
            case rel => exact ⟨k + 1, by omega, by go_num, by rw [HR.out], HG2.out⟩
            case measure => simp [intOf]; omega
        · have e : k = ls.length := by omega
          subst e
          have HG2 := hide hG.size
          clear hG hL
          go_wp2
          go_roundw
          case rel => exact ⟨m + 1, s + 1, by omega, by have := Hm.out; show s + 1 = m + 1 + 1; omega, by go_num, by rw [nx_succ]; rfl, HG2.out⟩
          case measure => simp [intOf]; omega
    · have e : m = 15 := by omega
      subst e
      have hs15 : ¬ (s : Int) ≤ 15 := by have := Hm.out; omega
      go_wp2
      go_end0
      exact ⟨rfl, D, hG⟩
end Go.Proofs.YtleeaofofofgmaaDoor
