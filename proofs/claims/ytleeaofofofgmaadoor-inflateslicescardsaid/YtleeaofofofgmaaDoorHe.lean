/-
  The document's own code.
-/
import Derived.Test.YtleeaofofofgmaaDoorHd
import Derived.Deep.RegionHeldLaw
namespace Go.Proofs.YtleeaofofofgmaaDoor
open Go.RowKit

/-- The document's code, under way. -/
structure Rs (w : World) (B : Nat) (sv lv : Value) (f : Nat → Nat) : Prop where
  eobj : ∃ cs : Array Value, w.heap[B]? = some (.cells cs 87 (0, 0)) ∧ cs.size = 18 ∧ cs[16]? = some sv ∧ cs[17]? = some lv ∧ (∃ x : Nat, x ≤ 1000 ∧ cs[0]? = some (.int .i64 (x : Int))) ∧ ∀ i, 1 ≤ i → i < 16 → cs[i]? = some (.int .i64 (f i : Nat))

section

variable {w w' : World} {B : Nat} {sv lv : Value} {f : Nat → Nat}

theorem Rs.cell (h : Rs w B sv lv f) {i : Nat} (h1 : 1 ≤ i) (h2 : i < 16) : w.cell? ⟨B, i, none⟩ = some (.int .i64 (f i : Nat)) := by
  obtain ⟨cs, ho, _, _, _, _, hc⟩ := h.eobj
  exact cell_of ho (hc i h1 h2)

theorem Rs.cell16 (h : Rs w B sv lv f) : w.cell? ⟨B, 16, none⟩ = some sv := by
  obtain ⟨cs, ho, _, h0, _⟩ := h.eobj
  exact cell_of ho h0

theorem Rs.cell17 (h : Rs w B sv lv f) : w.cell? ⟨B, 17, none⟩ = some lv := by
  obtain ⟨cs, ho, _, _, h0, _⟩ := h.eobj
  exact cell_of ho h0

theorem Rs.frozen (h : Rs w B sv lv f) (i : Nat) : w.frozen? ⟨B, i, none⟩ = false := by
  obtain ⟨cs, ho, _⟩ := h.eobj
  exact frozen_of ho

theorem Rs.keep (h : Rs w B sv lv f) {S : Nat → Prop} (g : Fr S w w') (hB : ¬ S B) : Rs w' B sv lv f := by
  obtain ⟨cs, ho, h1⟩ := h.eobj
  exact ⟨cs, by rw [g.block B (lt_of ho) hB]; exact ho, h1⟩

theorem Rs.blk (h : Rs w B sv lv f) : B < w.heap.size := by
  obtain ⟨cs, ho, _⟩ := h.eobj
  exact lt_of ho

theorem Rs.set17 (h : Rs w B sv lv f) (v : Value) : Rs (w.setCell ⟨B, 17, none⟩ v) B sv v f := by
  obtain ⟨cs, s1, s2, s3, s4, ⟨x, hx, s5⟩, s6⟩ := h.eobj
  refine ⟨_, heap_setCell_own _ s1, by simpa using s2, ?_, ?_, ⟨x, hx, ?_⟩, fun i h1 h2 => ?_⟩
  · rw [Array.getElem?_setIfInBounds_ne (by omega)]; exact s3
  · rw [Array.getElem?_setIfInBounds_self_of_lt (by omega)]
  · rw [Array.getElem?_setIfInBounds_ne (by omega)]; exact s5
  · rw [Array.getElem?_setIfInBounds_ne (by omega)]; exact s6 i h1 h2

theorem Rs.set16 (h : Rs w B sv lv f) (v : Value) : Rs (w.setCell ⟨B, 16, none⟩ v) B v lv f := by
  obtain ⟨cs, s1, s2, s3, s4, ⟨x, hx, s5⟩, s6⟩ := h.eobj
  refine ⟨_, heap_setCell_own _ s1, by simpa using s2, ?_, ?_, ⟨x, hx, ?_⟩, fun i h1 h2 => ?_⟩
  · rw [Array.getElem?_setIfInBounds_self_of_lt (by omega)]
  · rw [Array.getElem?_setIfInBounds_ne (by omega)]; exact s4
  · rw [Array.getElem?_setIfInBounds_ne (by omega)]; exact s5
  · rw [Array.getElem?_setIfInBounds_ne (by omega)]; exact s6 i h1 h2

theorem Rs.set0 (h : Rs w B sv lv f) : Rs (w.setCell ⟨B, 0, none⟩ (.int .i64 0)) B sv lv f := by
  obtain ⟨cs, s1, s2, s3, s4, ⟨x, hx, s5⟩, s6⟩ := h.eobj
  refine ⟨_, heap_setCell_own _ s1, by simpa using s2, ?_, ?_, ⟨0, by omega, ?_⟩, fun i h1 h2 => ?_⟩
  · rw [Array.getElem?_setIfInBounds_ne (by omega)]; exact s3
  · rw [Array.getElem?_setIfInBounds_ne (by omega)]; exact s4
  · rw [Array.getElem?_setIfInBounds_self_of_lt (by omega)]; rfl
  · rw [Array.getElem?_setIfInBounds_ne (by omega)]; exact s6 i h1 h2

end

/-- The document's code after its first k lengths. -/
structure Rk (w wr : World) (B : Nat) (ls : List Int) (k : Nat) : Prop where
  sz : ∃ lv : Value, ∃ cs : Array Value, wr.heap[B]? = some (.cells cs 87 (0, 0)) ∧ cs.size = 18 ∧ cs[16]? = some (.slice none 0 0) ∧ cs[17]? = some lv ∧ (∀ i, i < 16 → cs[i]? = some (.int .i64 (rank ls i k : Nat))) ∧ wr.ownsRow w.heap.size 3 1 lv k (cellsZ (ls.take k)) ∧ ∀ g, lv.ownBlock = some g → g ≠ B
  fr : Fr (fun _ => False) w wr
  lob : w.heap.size ≤ B

theorem Rk.facts {w wr : World} {B : Nat} {ls : List Int} {k : Nat} (h : Rk w wr B ls k) :
    ∃ a c, wr.cell? ⟨B, 17, none⟩ = some (.slice a k c) ∧ wr.ownsRow w.heap.size 3 1 (.slice a k c) k (cellsZ (ls.take k)) ∧ (∀ g, (Value.slice a k c).ownBlock = some g → g ≠ B) ∧ (∀ i, i < 16 → wr.cell? ⟨B, i, none⟩ = some (.int .i64 (rank ls i k : Nat))) ∧ (∀ i, wr.frozen? ⟨B, i, none⟩ = false) ∧ B < wr.heap.size := by
  obtain ⟨lv, cs, h1, h2, h3, h4, h5, h6, h7⟩ := h.sz
  obtain ⟨a, c, rfl⟩ := ownsRow_shape h6
  exact ⟨a, c, cell_of h1 h4, h6, h7, fun i hi => cell_of h1 (h5 i hi), fun i => frozen_of h1, lt_of h1⟩

/-- The world behind a round's counting. -/
theorem Rk.step {w wr w1 : World} {B : Nat} {ls : List Int} {k n q g cap : Nat} {a : Option Addr} {c : Nat} (h : Rk w wr B ls k) (hk : k < ls.length) (hn : n < 16) (hz : at0 ls k = (n : Int)) (ha : wr.cell? ⟨B, 17, none⟩ = some (.slice a k c))
    (hf : Fr (fun i => (Value.slice a k c).ownBlock = some i) ((wr.setCell ⟨B, n, none⟩ (.int .i64 ((rank ls n k : Int) + 1))).drewN q) w1)
    (hown : w1.ownsRow w.heap.size 3 1 (.slice (some ⟨g, 0, none⟩) (k + 1) cap) (k + 1) (cellsZ (ls.take k) ++ [.int .i64 (n : Int)])) (hg : (Value.slice a k c).ownBlock = some g ∨ wr.heap.size ≤ g) :
    Rk w (w1.setCell ⟨B, 17, none⟩ (.slice (some ⟨g, 0, none⟩) (k + 1) cap)) B ls (k + 1) := by
  obtain ⟨lv, cs, h1, h2, h3, h4, h5, h6, h7⟩ := h.sz
  obtain rfl : lv = .slice a k c := by
    have := cell_of h1 h4
    rw [ha] at this
    exact (Option.some.inj this).symm
  have hB := lt_of h1
  have hw1 : w1.heap[B]? = some (.cells (cs.setIfInBounds n (.int .i64 ((rank ls n k : Int) + 1))) 87 (0, 0)) := by
    rw [hf.block B (by simp [World.setCell, World.drewN]; exact hB) (fun e => h7 B e rfl)]
    exact heap_setCell_own _ h1
  have hgB : g ≠ B := by
    rcases hg with e | e
    · exact h7 g e
    · omega
  have hst : Fr (fun i => i = B) wr ((wr.setCell ⟨B, n, none⟩ (.int .i64 ((rank ls n k : Int) + 1))).drewN q) := ((Fr.of_setCell wr ⟨B, n, none⟩ _).trans (Fr.of_drewN _ q)).mono fun i _ hi => by simpa using hi
  refine ⟨⟨.slice (some ⟨g, 0, none⟩) (k + 1) cap, _, heap_setCell_own _ hw1, by simpa using h2, ?_, ?_, fun i hi => ?_, ?_, fun g' e => ?_⟩, ?_, h.lob⟩
  · rw [Array.getElem?_setIfInBounds_ne (by omega), Array.getElem?_setIfInBounds_ne (by omega)]; exact h3
  · rw [Array.getElem?_setIfInBounds_self_of_lt (by simp; omega)]
  · rw [Array.getElem?_setIfInBounds_ne (by omega)]
    by_cases e : n = i
    · subst e
      rw [Array.getElem?_setIfInBounds_self_of_lt (by omega)]
      simp only [rank, if_pos hz]
      rfl
    · rw [Array.getElem?_setIfInBounds_ne (by omega), h5 i hi]
      simp only [rank]
      rw [if_neg (by omega)]
      rfl
  · have e : cellsZ (ls.take (k + 1)) = cellsZ (ls.take k) ++ [.int .i64 (n : Int)] := by
      rw [List.take_succ_eq_append_getElem hk]
      have : ls[k] = (n : Int) := by rw [← hz]; simp [at0, List.getElem?_eq_getElem hk]
      simp [cellsZ, this]
    rw [e]
    refine ownsRow_fr hown fun i hi => ?_
    have : i = g := by simpa [Value.ownBlock] using hi.symm
    subst this
    exact Below.heap_setCell _ _ _ _ hgB
  · have : g' = g := by simpa [Value.ownBlock] using e.symm
    subst this; exact hgB
  · have hlt := h6.lt
    exact h.fr.join_new (((hst.trans hf).trans (Fr.of_setCell w1 ⟨B, 17, none⟩ _)).mono fun i _ hi => by
      have := h.lob
      rcases hi with (hi | hi) | hi
      · omega
      · exact (hlt i hi).1
      · simp at hi; omega)

set_option maxHeartbeats 3200000 in
set_option maxRecDepth 100000 in
theorem refNew_big (a : Option Addr) (c : Nat) (ls : List Int) (w : World) (h : 320 < ls.length) :
    Calls Tryd.prog 33 #[.slice a ls.length c] w fun e w' => e = .returned (.tuple #[.pointer none, .int .i64 1]) ∧ w = w' := by
  go_enter Tryd.func33, Tryd.ntmps33
  go_wp2
  go_ret2
  exact ⟨rfl, rfl⟩
end Go.Proofs.YtleeaofofofgmaaDoor
