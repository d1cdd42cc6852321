/-
  Texts of the seat, put together: Pn Pa Pb Pc Pd Pf Pg Ga Gb Jb Gx Jc.
-/
import Derived.Test.YtdpmpllbdoefdaaGreatDoorQz3
import Derived.Test.YtdpmpllbdoefdaaGreatDoorQz1
import Derived.Deep.RegionLaw
import Derived.Deep.RegionHeldLaw
import Derived.Laws.AppendOwnNone
import Derived.Lib.AppendZerosOnto
import Derived.Deep.RegionHeld3
import Derived.Laws.CopyOwn
import Derived.Test.YtdpmpllbdoefdaaGreatDoorQz2
namespace Go.Proofs.YtdpmpllbdoefdaaGreatDoor
structure Syms (S : List Item) (L : Nat) : Prop where
  sym : ∀ x ∈ S, x.2 = false
  asc : Asc S
  two : 2 ≤ S.length
  fits : S.length ≤ 2 ^ L
  one : 1 ≤ L
def bel (S : List Item) : Nat → List Item
  | 0 => []
  | j + 1 => prs (rowN S j)
theorem bel_true (S : List Item) (j : Nat) : ∀ x ∈ bel S j, x.2 = true := by
  cases j with
  | zero => intro x hx; simp [bel] at hx
  | succ j => exact prs_true _
theorem row_mrg {S : List Item} (h1 : ∀ x ∈ S, x.2 = false) (h2 : Asc S) (j : Nat) : IsMrg S (bel S j) (rowN S j) := by
  induction j with
  | zero => exact ⟨h2, List.filter_eq_self.2 (fun x hx => by simp [h1 x hx]), List.filter_eq_nil_iff.2 (fun x hx => by simp [h1 x hx])⟩
  | succ j ih =>
    have f := mrg_filter S (prs (rowN S j)) h1 (prs_true _)
    exact ⟨mrg_asc S (prs (rowN S j)) h2 (prs_asc _ ih.asc) h1 (prs_true _), f.1, f.2⟩
theorem row_len {S : List Item} {L : Nat} (h : S.length ≤ 2 ^ L) (j : Nat) (hj : j ≤ L) : 2 * S.length ≤ (rowN S j).length + 2 ^ (L - j) := by
  induction j with
  | zero => simp only [rowN, Nat.sub_zero]; omega
  | succ j ih =>
    have := ih (by omega)
    simp only [rowN, mrg_length, prs_length]
    rw [show L - j = (L - (j + 1)) + 1 by omega, Nat.pow_succ] at this
    omega
def cT (S : List Item) (L : Nat) : Nat → Nat
  | 0 => 2 * S.length - 2
  | t + 1 => 2 * cntP ((rowN S (L - 1 - t)).take (cT S L t))
def pT (S : List Item) (L t : Nat) : Nat := cntP ((rowN S (L - 1 - t)).take (cT S L t))
def sT (S : List Item) (L t : Nat) : Nat := cT S L t - pT S L t
theorem cT_succ (S : List Item) (L t : Nat) : cT S L (t + 1) = 2 * pT S L t := rfl
theorem cT_le {S : List Item} {L : Nat} (h : Syms S L) : ∀ t, t < L → cT S L t ≤ (rowN S (L - 1 - t)).length := by
  intro t ht
  have h1 := h.one
  induction t with
  | zero =>
    have := row_len h.fits (L - 1) (by omega)
    rw [show L - (L - 1) = 1 by omega] at this
    simp only [cT, Nat.sub_zero]
    omega
  | succ t ih =>
    have h2 := (row_mrg h.sym h.asc (L - 1 - t)).take _ (ih (by omega))
    have h3 := h2.2.2.2.1
    rw [show L - 1 - t = (L - 1 - (t + 1)) + 1 by omega] at h3
    simp only [bel, prs_length] at h3
    rw [cT_succ]
    unfold pT
    rw [show L - 1 - t = (L - 1 - (t + 1)) + 1 by omega]
    omega
theorem sT_le {S : List Item} {L : Nat} (h : Syms S L) {t : Nat} (ht : t < L) : sT S L t ≤ S.length ∧ pT S L t ≤ cT S L t ∧ sT S L t + pT S L t = cT S L t := by
  have h2 := (row_mrg h.sym h.asc (L - 1 - t)).take _ (cT_le h t ht)
  unfold sT pT
  exact ⟨h2.2.2.1, h2.2.2.2.2, by omega⟩
theorem sT_anti {S : List Item} {L : Nat} (h : Syms S L) {t : Nat} (ht : t + 1 < L) : sT S L (t + 1) ≤ sT S L t := by
  rcases Nat.lt_or_ge (sT S L t) (sT S L (t + 1)) with hlt | hge
  · exfalso
    obtain ⟨a1, a2, a3⟩ := sT_le h (t := t) (by omega)
    obtain ⟨b1, b2, b3⟩ := sT_le h (t := t + 1) ht
    have hc := cT_le h t (by omega)
    have hc' := cT_le h (t + 1) ht
    rw [cT_succ] at b2 b3 hc'
    have hm := row_mrg h.sym h.asc (L - 1 - t)
    have hm' := row_mrg h.sym h.asc (L - 1 - (t + 1))
    obtain ⟨x, hx⟩ : ∃ x, S[sT S L t]? = some x := ⟨_, List.getElem?_eq_getElem (by omega)⟩
    have hp0 : 0 < pT S L t := by omega
    have hj : L - 1 - t = (L - 1 - (t + 1)) + 1 := by omega
    -- the last pair chosen
    have hg := prs_get (rowN S (L - 1 - (t + 1))) (pT S L t - 1) (by omega)
    have hb : (bel S (L - 1 - t))[pT S L t - 1]? = some (((rowN S (L - 1 - (t + 1))).getD (2 * (pT S L t - 1)) (0, false)).1 + ((rowN S (L - 1 - (t + 1))).getD (2 * (pT S L t - 1) + 1) (0, false)).1, true) := by
      rw [hj]; exact hg
    have i1 := hm.pair_in hc hb (by show pT S L t - 1 < pT S L t; omega)
    have i2 := (hm.sym_in hc hx).2 (Nat.le_refl _)
    have k1 := hm.asc.cut _ i1 i2
    have fx := h.sym x (List.mem_of_getElem? hx)
    have i3 := (hm'.sym_in (c := 2 * pT S L t) hc' hx).1 (by
      have : cntP ((rowN S (L - 1 - (t + 1))).take (2 * pT S L t)) = pT S L (t + 1) := rfl
      rw [this]
      unfold sT at hlt ⊢
      rw [cT_succ] at hlt
      exact hlt)
    have k2 := hm'.asc.last (c := 2 * pT S L t - 1) (x := x) (by rw [show 2 * pT S L t - 1 + 1 = 2 * pT S L t by omega]; exact i3) (by omega)
    rw [show 2 * (pT S L t - 1) + 1 = 2 * pT S L t - 1 by omega] at k1
    unfold key at k1
    rw [fx] at k1
    simp only [if_true, Bool.false_eq_true, if_false] at k1
    omega
  · exact hge
theorem last_pair {S : List Item} {L : Nat} (h : Syms S L) {z : Item} (hz : S[S.length - 1]? = some z) (j : Nat) {x : Item} (hx : (prs (rowN S j))[S.length - 2]? = some x) : z.1 ≤ x.1 := by
  have h2 := h.two
  have hl : S.length - 2 < (prs (rowN S j)).length := (List.getElem?_eq_some_iff.1 hx).1
  rw [prs_length] at hl
  have hc : 2 * S.length - 2 ≤ (rowN S j).length := by omega
  have hg := prs_get (rowN S j) (S.length - 2) (by omega)
  rw [hx] at hg
  have hxe := Option.some.inj hg
  have hm := row_mrg h.sym h.asc j
  have hx1 : ((rowN S j).getD (2 * S.length - 3) (0, false)).1 ≤ x.1 := by
    rw [hxe, show 2 * (S.length - 2) + 1 = 2 * S.length - 3 by omega]
    simp
  obtain ⟨t1, t2, t3, t4, t5⟩ := hm.take _ hc
  by_cases hs : S.length - 1 < 2 * S.length - 2 - cntP ((rowN S j).take (2 * S.length - 2))
  · have i1 := (hm.sym_in hc hz).1 hs
    have := hm.asc.last (c := 2 * S.length - 3) (x := z) (by rw [show 2 * S.length - 3 + 1 = 2 * S.length - 2 by omega]; exact i1) (by omega)
    omega
  · cases j with
    | zero => simp only [bel, List.length_nil] at t4; omega
    | succ j =>
      obtain ⟨y, hy⟩ : ∃ y, (prs (rowN S j))[S.length - 2]? = some y := ⟨_, List.getElem?_eq_getElem (by simp only [bel] at t4; omega)⟩
      have hzy := last_pair h hz j hy
      have i1 := hm.pair_in hc (i := S.length - 2) (x := y) hy (by omega)
      have := hm.asc.last (c := 2 * S.length - 3) (x := y) (by rw [show 2 * S.length - 3 + 1 = 2 * S.length - 2 by omega]; exact i1) (by omega)
      omega
theorem sT_zero {S : List Item} {L : Nat} (h : Syms S L) : sT S L 0 = S.length := by
  have h1 := h.one
  have h2 := h.two
  obtain ⟨a1, a2, a3⟩ := sT_le h (t := 0) (by omega)
  have hc := cT_le h 0 (by omega)
  have c0 : cT S L 0 = 2 * S.length - 2 := rfl
  rcases Nat.lt_or_ge (sT S L 0) S.length with hlt | hge
  · exfalso
    have hm := row_mrg h.sym h.asc (L - 1 - 0)
    obtain ⟨t1, t2, t3, t4, t5⟩ := hm.take _ hc
    obtain ⟨z, hz⟩ : ∃ z, S[S.length - 1]? = some z := ⟨_, List.getElem?_eq_getElem (by omega)⟩
    have fz := h.sym z (List.mem_of_getElem? hz)
    have hp : S.length - 2 < pT S L 0 := by omega
    have hp4 : pT S L 0 ≤ (bel S (L - 1 - 0)).length := t4
    obtain ⟨y, hy⟩ : ∃ y, (bel S (L - 1 - 0))[S.length - 2]? = some y := ⟨_, List.getElem?_eq_getElem (by omega)⟩
    have i1 := hm.pair_in hc hy hp
    have i2 := (hm.sym_in hc hz).2 (by show sT S L 0 ≤ S.length - 1; omega)
    have k1 := hm.asc.cut _ i1 i2
    have fy := bel_true S _ y (List.mem_of_getElem? hy)
    unfold key at k1
    rw [fz, fy] at k1
    simp only [if_true, Bool.false_eq_true, if_false] at k1
    obtain ⟨j, hj⟩ : ∃ j, L - 1 - 0 = j + 1 := by
      rcases Nat.eq_zero_or_pos (L - 1 - 0) with e | e
      · rw [e] at hp4; simp only [bel, List.length_nil] at hp4; omega
      · exact ⟨L - 1 - 0 - 1, by omega⟩
    rw [hj] at hy
    have := last_pair h hz j hy
    omega
  · omega
theorem cT_end {S : List Item} {L : Nat} (h : Syms S L) : cT S L L = 0 := by
  have h1 := h.one
  obtain ⟨t, rfl⟩ : ∃ t, L = t + 1 := ⟨L - 1, by omega⟩
  have hm := (row_mrg h.sym h.asc 0).take (cT S (t + 1) t) (by have := cT_le h t (by omega); simpa using this)
  have h4 := hm.2.2.2.1
  simp only [bel, List.length_nil] at h4
  rw [cT_succ]
  unfold pT
  rw [show t + 1 - 1 - t = 0 by omega]
  omega
def ln (S : List Item) (L : Nat) : Nat → Nat → Nat
  | 0, _ => 0
  | t + 1, i => ln S L t i + if i < sT S L t then 1 else 0
theorem ln_le (S : List Item) (L t i : Nat) : ln S L t i ≤ t := by
  induction t with
  | zero => exact Nat.le_refl _
  | succ t ih => simp only [ln]; split <;> omega
theorem ln_anti (S : List Item) (L t : Nat) {i k : Nat} (h : i ≤ k) : ln S L t k ≤ ln S L t i := by
  induction t with
  | zero => exact Nat.le_refl _
  | succ t ih => simp only [ln]; split <;> split <;> omega
theorem ln_full {S : List Item} {L : Nat} (h : Syms S L) {t i : Nat} (ht : t < L) (hi : i < sT S L t) : ln S L t i = t := by
  induction t with
  | zero => rfl
  | succ t ih =>
    have := sT_anti h ht
    simp only [ln]
    rw [ih (by omega) (by omega), if_pos (by omega)]
theorem ln_pos {S : List Item} {L : Nat} (h : Syms S L) {t i : Nat} (hi : i < S.length) : 1 ≤ ln S L (t + 1) i := by
  induction t with
  | zero => simp only [ln]; rw [if_pos (by rw [sT_zero h]; exact hi)]; omega
  | succ t ih => simp only [ln] at ih ⊢; omega
theorem row_bound {S : List Item} {M : Nat} (h : ∀ x ∈ S, x.1 ≤ M) (j : Nat) : ∀ x ∈ rowN S j, x.1 ≤ M * 2 ^ j := by
  induction j with
  | zero => simpa [rowN] using h
  | succ j ih =>
    intro x hx
    simp only [rowN] at hx
    rcases List.mem_append.1 ((mrg_perm S (prs (rowN S j))).mem_iff.1 hx) with h1 | h1
    · have := h x h1
      have h2 := pow_pos2 (j + 1)
      exact Nat.le_trans this (Nat.le_mul_of_pos_right _ h2)
    · obtain ⟨k, hk, rfl⟩ := List.mem_iff_getElem.1 h1
      rw [prs_length] at hk
      have hg := prs_get (rowN S j) k (by omega)
      rw [List.getElem?_eq_getElem (by rw [prs_length]; exact hk)] at hg
      rw [Option.some.inj hg]
      have e1 : (rowN S j).getD (2 * k) (0, false) = (rowN S j)[2 * k]'(by omega) := by simp [show 2 * k < (rowN S j).length by omega]
      have e2 : (rowN S j).getD (2 * k + 1) (0, false) = (rowN S j)[2 * k + 1]'(by omega) := by simp [show 2 * k + 1 < (rowN S j).length by omega]
      rw [e1, e2, Nat.pow_succ, ← Nat.mul_assoc]
      have a1 := ih _ (List.getElem_mem (show 2 * k < (rowN S j).length by omega))
      have a2 := ih _ (List.getElem_mem (show 2 * k + 1 < (rowN S j).length by omega))
      simp only
      omega
theorem row_size (S : List Item) (j : Nat) : (rowN S j).length ≤ 2 * S.length := by
  induction j with
  | zero => simp only [rowN]; omega
  | succ j ih => simp only [rowN, mrg_length, prs_length]; omega
end Go.Proofs.YtdpmpllbdoefdaaGreatDoor
namespace Go.Proofs.YtdpmpllbdoefdaaGreatDoor
open Go.RowKit
theorem Tryz.info197 : (Tryz.prog.info? 197).map (fun i => (i.zero, i.size, i.bytes)) = some (some (.agg #[.int .i64 0, .bool false]), 2, 16) := by kernel_rfl
def cellsT : List Item → List Value
  | [] => []
  | x :: r => .int .i64 ((x.1 : Nat) : Int) :: .bool x.2 :: cellsT r
theorem cellsT_length (l : List Item) : (cellsT l).length = l.length * 2 := by
  induction l with
  | nil => rfl
  | cons x r ih => simp [cellsT, ih]; omega
theorem cellsT_append (a b : List Item) : cellsT (a ++ b) = cellsT a ++ cellsT b := by
  induction a with
  | nil => rfl
  | cons x r ih => simp [cellsT, ih]
theorem cellsT_one (l : List Item) : ∀ u ∈ cellsT l, u.oneCell' = true := by
  induction l with
  | nil => simp [cellsT]
  | cons x r ih =>
    intro u hu
    simp only [cellsT, List.mem_cons] at hu
    rcases hu with rfl | rfl | hu
    · rfl
    · rfl
    · exact ih u hu
def it (l : List Item) (j : Nat) : Item := l.getD j (0, false)
theorem cellsT_get (l : List Item) (j : Nat) (h : j < l.length) : (cellsT l)[j * 2]? = some (.int .i64 (((it l j).1 : Nat) : Int)) ∧ (cellsT l)[j * 2 + 1]? = some (.bool (it l j).2) := by
  induction l generalizing j with
  | nil => simp at h
  | cons x r ih =>
    cases j with
    | zero => exact ⟨rfl, rfl⟩
    | succ j =>
      have := ih j (by simp at h; omega)
      rw [show (j + 1) * 2 = j * 2 + 1 + 1 by omega]
      simp only [cellsT, List.getElem?_cons_succ, it, List.getD_cons_succ] at this ⊢
      exact this
def LiesT (w : World) (a : Option Addr) (l : List Item) : Prop :=
  ∀ j, j < l.length → ∃ B o, a = some ⟨B, o, none⟩ ∧ w.cell? ⟨B, o + j * 2, none⟩ = some (.int .i64 (((it l j).1 : Nat) : Int)) ∧ w.cell? ⟨B, o + j * 2 + 1, none⟩ = some (.bool (it l j).2)
theorem LiesT.keep {w w' : World} {a : Option Addr} {l : List Item} (h : LiesT w a l) {S : Nat → Prop} (f : Fr S w w') (hS : ∀ ad, a = some ad → l ≠ [] → ¬ S ad.block) : LiesT w' a l := by
  intro j hj
  obtain ⟨B, o, rfl, h1, h2⟩ := h j hj
  have hne : l ≠ [] := by rintro rfl; simp at hj
  have b1 := World.block_lt_of_cell? _ _ h1
  have hb := f.block B b1 (hS ⟨B, o, none⟩ rfl hne)
  exact ⟨B, o, rfl, (World.cell?_of_block (a := ⟨B, o + j * 2, none⟩) hb).trans h1, (World.cell?_of_block (a := ⟨B, o + j * 2 + 1, none⟩) hb).trans h2⟩
theorem LiesT.keep0 {w w' : World} {a : Option Addr} {l : List Item} (h : LiesT w a l) (f : Fr (fun _ => False) w w') : LiesT w' a l := h.keep f (fun _ _ _ h => h)
abbrev OwnT (w : World) (lo : Nat) (v : Value) (l : List Item) : Prop := w.ownsRow lo 197 2 v l.length (cellsT l)
theorem own_liesT {w : World} {lo n : Nat} {a : Option Addr} {c : Nat} {l : List Item} (h : w.ownsRow lo 197 2 (.slice a n c) n (cellsT l)) (hn : n = l.length) : LiesT w a l := by
  intro j hj
  rcases h.2 with ⟨hv, e0⟩ | ⟨g, cap, cur, hv, hg, hh, hr⟩
  · omega
  · cases hv
    obtain ⟨h1, h2⟩ := cellsT_get l j hj
    have k1 := h.cells (g := g) rfl _ _ h1
    have k2 := h.cells (g := g) rfl _ _ h2
    rw [add_none] at k1 k2
    exact ⟨g, 0, rfl, k1, by rw [Nat.add_assoc]; exact k2⟩
theorem news_item (w : World) (x : Item) : ∀ (j : Nat) (u : Value), (cellsT [x])[j]? = some u → ((w.alloc (.cells #[.int .i64 ((x.1 : Nat) : Int), .bool x.2] 197)).drew).cell? ((⟨w.heap.size, 0, none⟩ : Addr).add j) = some u := by
  intro j u hu
  have hj : j = 0 ∨ j = 1 := by
    rcases Nat.lt_or_ge j 2 with h | h
    · omega
    · rw [List.getElem?_eq_none (by simp [cellsT]; omega)] at hu; cases hu
  rw [add_none]
  rcases hj with rfl | rfl
  · simp [cellsT] at hu
    subst hu
    have : (w.alloc (.cells #[.int .i64 ((x.1 : Nat) : Int), .bool x.2] 197)).cell? ⟨w.heap.size, 0 + 0, none⟩ = some (.int .i64 ((x.1 : Nat) : Int)) := cell_of (heap_alloc_at rfl) rfl
    exact this
  · simp [cellsT] at hu
    subst hu
    have : (w.alloc (.cells #[.int .i64 ((x.1 : Nat) : Int), .bool x.2] 197)).cell? ⟨w.heap.size, 0 + 1, none⟩ = some (.bool x.2) := cell_of (heap_alloc_at rfl) rfl
    exact this
theorem own_drew' {w : World} {lo : Nat} {e : TypeId} {size : Nat} {v : Value} {n : Nat} {xs : List Value} (h : w.ownsRow lo e size v n xs) (o : Obj) : ((w.alloc o).drew).ownsRow lo e size v n xs := h.alloc o
theorem fr_append {w wr w3 : World} {o : Obj} {e : TypeId} {size n : Nat} {v : Value} {xs : List Value} (hF : Fr (fun _ => False) w wr) (hO : wr.ownsRow w.heap.size e size v n xs) (hg : ((wr.alloc o).drew).grownBy w3 v.ownBlock) : Fr (fun _ => False) w w3 :=
  hF.join_new ((((Fr.of_alloc wr o).join (Fr.of_drewN _ 1)).trans (Fr.of_grown hg)).mono fun i _ h => by
    rcases h with h | h
    · exact h.elim
    · exact (hO.lt i h).1)
theorem fr_append0 {w wr w3 : World} {o : Obj} {e : TypeId} {size n : Nat} {v : Value} {xs : List Value} (hF : Fr (fun _ => False) w wr) (hO : wr.ownsRow w.heap.size e size v n xs) (hg : (wr.alloc o).grownBy w3 v.ownBlock) : Fr (fun _ => False) w w3 :=
  hF.join_new (((Fr.of_alloc wr o).trans (Fr.of_grown hg)).mono fun i _ h => by
    rcases h with h | h
    · exact h.elim
    · exact (hO.lt i h).1)
theorem prs_take_succ (l : List Item) (k : Nat) (h : 2 * k + 1 < l.length) : (prs l).take (k + 1) = (prs l).take k ++ [((it l (2 * k)).1 + (it l (2 * k + 1)).1, true)] := by
  have hg := prs_get l k h
  have hk : k < (prs l).length := (List.getElem?_eq_some_iff.1 hg).1
  rw [List.take_succ_eq_append_getElem hk]
  rw [List.getElem?_eq_getElem hk] at hg
  rw [Option.some.inj hg]
  rfl
set_option maxHeartbeats 3200000 in
set_option maxRecDepth 100000 in
theorem pairs_c (a : Option Addr) (c : Nat) (l : List Item) (w : World) (hl : LiesT w a l) (hlen : l.length ≤ 1000) (hw : ∀ j, j < l.length → (it l j).1 ≤ 1000000000000000) :
    Calls Tryz.prog 136 #[.slice a l.length c] w fun e w' => ∃ pa pc, e = .returned (.slice pa (prs l).length pc) ∧ OwnT w' w.heap.size (.slice pa (prs l).length pc) (prs l) ∧ Fr (fun _ => False) w w' := by
  obtain ⟨i0, hi0, hz0, hz1, hz2⟩ := info_parts Tryz.info197
  have Hl := hide hl
  have Hw := hide hw
  clear hl hw
  go_enter Tryz.func136, Tryz.ntmps136
  go_wp2
  go_loopw [3, 4] (fun vv iv wr => ∃ k i : Nat, Hid (i = 2 * k + 1) ∧ 2 * k ≤ l.length ∧ iv = .int .i64 (i : Int) ∧ wr.ownsRow w.heap.size 197 2 vv k (cellsT ((prs l).take k)) ∧ Fr (fun _ => False) w wr) (fun _ iv _ => l.length + 2 - (intOf iv).toNat)
  case atStart => exact ⟨0, 1, rfl, Nat.zero_le _, rfl, World.ownsRow_nil _ _ _ _, Fr.refl _ _⟩
  case round =>
    obtain ⟨k, i, Hi, hk, rfl, hO, hF⟩ := hrel
    obtain ⟨va, vc, rfl⟩ := ownsRow_shape hO
    have hie := Hi.out
    by_cases hlt : i < l.length
    · have hL := Hl.out.keep0 hF
      obtain ⟨x, hx⟩ : ∃ x : Nat, x = 2 * k := ⟨_, rfl⟩
      have hx1 : (i : Int) - 1 = (x : Int) := by omega
      obtain ⟨bB, bo, rfl, c1, _⟩ := hL x (by omega)
      obtain ⟨bB', bo', e, c2, _⟩ := hL i hlt
      cases e
      have w1 := Hw.out x (by omega)
      have w2 := Hw.out i hlt
      obtain ⟨A, hA⟩ : ∃ A, A = (it l x).1 := ⟨_, rfl⟩
      obtain ⟨B, hB⟩ : ∃ B, B = (it l i).1 := ⟨_, rfl⟩
      obtain ⟨T, hT⟩ : ∃ T, T = A + B := ⟨_, rfl⟩
      rw [← hA] at c1 w1
      rw [← hB] at c2 w2
      have hT1 : (A : Int) + (B : Int) = (T : Int) := by omega
      have hxs : (x : Int) < (l.length : Nat) := by omega
      have hwx : IntKind.i64.wrap (x : Int) = (x : Int) := wrap_i64_id _ (by omega) (by omega)
      have hwT : IntKind.i64.wrap (T : Int) = (T : Int) := wrap_i64_id _ (by omega) (by omega)
      have HO := hide hO
      have HF := hide hF
      have hws : w.heap.size ≤ wr.heap.size := hF.size
      have HTk : Hid ((prs l).take (k + 1) = (prs l).take k ++ [(T, true)]) := by
        show _ = _
        rw [prs_take_succ l k (by omega), ← hx, show x + 1 = i by omega, ← hA, ← hB, ← hT]
      clear hO hF hL hx hA hB hT hie
      go_wp2
      go_region_law ((refine step_append_lies _ (by rfl) _ _ _ (by rfl) w.heap.size 197 i0 (.agg #[.int .i64 0, .bool false]) 2 16 Tryz.underlying187 hi0 hz0 hz1 hz2 rfl (by decide) (.slice va k vc) k (cellsT ((prs l).take k)) (by rfl) (own_drew' HO.out _) ⟨wr.heap.size, 0, none⟩ 1 1 (cellsT [((T, true) : Item)]) (by rfl) rfl (news_item _ _) (cellsT_one _) (by decide) (by unfold maxLen; omega) (by omega) (by simp; omega) (wr.heap.size + 1) (by simp) ?_; intro g cap w3 hown3 hgrow hat hlt3))
      all_goals
        have HF3 := hide (fr_append HF.out HO.out hgrow)
        have HO3 : Hid (w3.ownsRow w.heap.size 197 2 (.slice (some ⟨g, 0, none⟩) (k + 1) cap) (k + 1) (cellsT ((prs l).take (k + 1)))) := by
          show World.ownsRow _ _ _ _ _ _ _
          rw [HTk.out, cellsT_append]
          exact hown3
        clear hown3 hgrow hat hlt3
        go_wp2
        go_roundw
        case rel => exact ⟨k + 1, i + 2, by have := Hi.out; show i + 2 = 2 * (k + 1) + 1; omega, by have := Hi.out; omega, by go_num, HO3.out, HF3.out⟩
        case measure => simp [intOf]; omega
    · go_wp2
      go_ret
      have e : k = (prs l).length := by rw [prs_length]; omega
      subst e
      rw [List.take_length] at hO
      exact ⟨va, vc, rfl, hO, hF⟩
set_option maxHeartbeats 1600000 in
set_option maxRecDepth 100000 in
theorem countPairs_c (a : Option Addr) (c : Nat) (l : List Item) (w : World) (hl : LiesT w a l) (hlen : l.length ≤ 1000) :
    Calls Tryz.prog 134 #[.slice a l.length c] w fun e w' => e = .returned (.int .i64 (cntP l : Nat)) ∧ Fr (fun _ => False) w w' := by
  have Hl := hide hl
  clear hl
  go_enter Tryz.func134, Tryz.ntmps134
  go_wp2
  go_loopw [3, 5, 8] (fun nv _ iv wr => ∃ i : Nat, i ≤ l.length ∧ iv = .int .i64 (i : Int) ∧ nv = .int .i64 (cntP (l.take i) : Nat) ∧ Fr (fun _ => False) w wr) (fun _ _ iv _ => l.length - (intOf iv).toNat)
  case atStart => exact ⟨0, Nat.zero_le _, rfl, rfl, Fr.refl _ _⟩
  case round =>
    obtain ⟨i, hi, rfl, rfl, hF⟩ := hrel
    by_cases hlt : i < l.length
    · obtain ⟨bB, bo, rfl, c1, c2⟩ := Hl.out.keep0 hF i hlt
      have hcb : cntP (l.take i) ≤ 1000 := by
        unfold cntP
        have h1 := List.length_filter_le (fun x : Item => x.2) (l.take i)
        rw [List.length_take] at h1
        omega
      have hstep : cntP (l.take (i + 1)) = cntP (l.take i) + if (it l i).2 then 1 else 0 := by
        have e : it l i = l[i] := by simp [it, hlt]
        unfold cntP
        rw [List.take_succ_eq_append_getElem hlt, List.filter_append, List.length_append, e]
        congr 1
        cases h : l[i].2 <;> simp [h]
      have Hst := hide hstep
      have HF := hide hF
      obtain ⟨A, hA⟩ : ∃ A, A = (it l i).1 := ⟨_, rfl⟩
      obtain ⟨bp, hbp⟩ : ∃ bp, bp = (it l i).2 := ⟨_, rfl⟩
      rw [← hA] at c1
      rw [← hbp] at c2 Hst
      have hb1 := World.block_lt_of_cell? _ _ c1
      clear hF hstep hA hbp
      cases bp with
      | true =>
        go_wp2
        go_roundw
        case rel => exact ⟨i + 1, by omega, by go_num, by rw [Hst.out]; go_num, HF.out.join (Fr.of_alloc _ _)⟩
        case measure => simp [intOf]; omega
      | false =>
        go_wp2
        go_roundw
        case rel => exact ⟨i + 1, by omega, by go_num, by rw [Hst.out]; rfl, HF.out.join (Fr.of_alloc _ _)⟩
        case measure => simp [intOf]; omega
    · have e : i = l.length := by omega
      subst e
      go_wp2
      go_ret
      exact ⟨by rw [List.take_length]; rfl, hF⟩
set_option maxHeartbeats 3200000 in
set_option maxRecDepth 100000 in
theorem symbolItems_c (a b : Option Addr) (c d : Nat) (fq : List Int) (us : List Nat) (w : World) (hl : LiesI w a fq) (hu : ∀ j, j < us.length → ∃ ad, b = some ad ∧ w.cell? (ad.add j) = some (.int .i64 ((us.getD j 0 : Nat) : Int))) (hlen : us.length ≤ 320) (hus : ∀ u ∈ us, u < fq.length ∧ 0 ≤ at0 fq u) :
    Calls Tryz.prog 128 #[.slice a fq.length c, .slice b us.length d] w fun e w' => ∃ pa pc, e = .returned (.slice pa us.length pc) ∧ w'.ownsRow w.heap.size 197 2 (.slice pa us.length pc) us.length (cellsT (us.map fun u => ((at0 fq u).toNat, false))) ∧ Fr (fun _ => False) w w' := by
  obtain ⟨i0, hi0, hz0, hz1, hz2⟩ := info_parts Tryz.info197
  have Hl := hide hl
  have Hu := hide hu
  have Hus := hide hus
  clear hl hu hus
  go_enter Tryz.func128, Tryz.ntmps128
  go_wp2
  go_loopw [5, 7, 10] (fun vv _ iv wr => ∃ i : Nat, i ≤ us.length ∧ iv = .int .i64 (i : Int) ∧ wr.ownsRow w.heap.size 197 2 vv i (cellsT ((us.take i).map fun u => ((at0 fq u).toNat, false))) ∧ Fr (fun _ => False) w wr) (fun _ _ iv _ => us.length - (intOf iv).toNat)
  case atStart => exact ⟨0, Nat.zero_le _, rfl, World.ownsRow_nil _ _ _ _, Fr.refl _ _⟩
  case round =>
    obtain ⟨i, hi, rfl, hO, hF⟩ := hrel
    obtain ⟨va, vc, rfl⟩ := ownsRow_shape hO
    by_cases hlt : i < us.length
    · obtain ⟨ad, rfl, c1⟩ := Hu.out i hlt
      have hb1 := World.block_lt_of_cell? _ _ c1
      have c1' := (World.cell?_of_block (hF.block _ hb1 (fun h => h))).trans c1
      have hget : us.getD i 0 = us[i] := by simp [hlt]
      rw [hget] at c1'
      have hum := Hus.out us[i] (List.getElem_mem hlt)
      obtain ⟨ad2, rfl, c2⟩ := Hl.out.keep hF (fun _ _ _ h => h) us[i] hum.1
      obtain ⟨T, hT⟩ : ∃ T, T = (at0 fq us[i]).toNat := ⟨_, rfl⟩
      have hT1 : at0 fq us[i] = (T : Int) := by omega
      rw [hT1] at c2
      obtain ⟨U, hU⟩ : ∃ U, U = us[i] := ⟨_, rfl⟩
      have hUl : U < fq.length := by rw [hU]; exact hum.1
      have HTk : Hid ((us.take (i + 1)).map (fun u => ((at0 fq u).toNat, false)) = (us.take i).map (fun u => ((at0 fq u).toNat, false)) ++ [(T, false)]) := by
        show _ = _
        rw [List.take_succ_eq_append_getElem hlt, List.map_append, hT]
        rfl
      rw [← hU] at c1' c2
      have HO := hide hO
      have HF := hide hF
      have hws : w.heap.size ≤ wr.heap.size := hF.size
      clear hO hF hum hT hT1 hget hU c1 hb1
      go_wp2_with (at_builtin; go_must (refine wpList_append_lies _ rfl _ _ 187 rfl w.heap.size 197 i0 (.agg #[.int .i64 0, .bool false]) 2 16 Tryz.underlying187 hi0 hz0 hz1 hz2 rfl (by decide) (.slice va i vc) i (cellsT ((us.take i).map fun u => ((at0 fq u).toNat, false))) rfl (HO.out.alloc _) ⟨wr.heap.size, 0, none⟩ 1 1 (cellsT [((T, false) : Item)]) rfl rfl (news_item _ _) (cellsT_one _) (by decide) (by unfold maxLen; omega) (by omega) (by simp; omega) (wr.heap.size + 1) (by simp) ?_); intro g cap w3 hown3 hgrow hat hlt3)
      have HF3 := hide (fr_append0 HF.out HO.out hgrow)
      have HO3 : Hid (w3.ownsRow w.heap.size 197 2 (.slice (some ⟨g, 0, none⟩) (i + 1) cap) (i + 1) (cellsT ((us.take (i + 1)).map fun u => ((at0 fq u).toNat, false)))) := by
        show World.ownsRow _ _ _ _ _ _ _
        rw [HTk.out, cellsT_append]
        exact hown3
      clear hown3 hgrow hat hlt3
      go_roundw
      case rel => exact ⟨i + 1, by omega, by go_num, HO3.out, HF3.out⟩
      case measure => simp [intOf]; omega
    · have e : i = us.length := by omega
      subst e
      go_wp2
      go_ret
      rw [List.take_length] at hO
      exact ⟨va, vc, rfl, hO, hF⟩
end Go.Proofs.YtdpmpllbdoefdaaGreatDoor
namespace Go.Proofs.YtdpmpllbdoefdaaGreatDoor
open Go.RowKit
theorem makeRoom (n : Nat) (hn : n ≤ 1000000) : ∃ zs : Array Value, (∀ W : World, (Instr.makeSlice 187 (.int .i64 0) (.int .i64 (n : Int))).run Tryz.prog W = .ok (.slice (some ⟨W.heap.size, 0, none⟩) 0 n) (W.alloc (.cells zs 197))) ∧ zs.size = n * 2 := by
  obtain ⟨i0, hi, hz0, hz1, hz2⟩ := info_parts Tryz.info197
  refine ⟨madeCells (Value.agg #[.int .i64 0, .bool false]).cells (n * 2), fun W => ?_, by simp [size_madeCells]⟩
  have := run_make (P := Tryz.prog) W 187 197 i0 (.agg #[.int .i64 0, .bool false]) Tryz.underlying187 hi hz0 .i64 .i64 0 n (by omega) (by omega) (by rw [hz2]; omega) (by omega)
  rw [hz1] at this
  simpa using this
theorem LiesT.tail {w : World} {B o c : Nat} {x : Item} {l : List Item} (h : LiesT w (some ⟨B, o, none⟩) (x :: l)) (hc : l.length + 1 ≤ c) : LiesT w (if c = 1 then some ⟨B, o, none⟩ else some ⟨B, o + 2, none⟩) l := by
  intro j hj
  obtain ⟨B', o', e, h1, h2⟩ := h (j + 1) (by simp; omega)
  cases e
  rw [if_neg (by omega)]
  refine ⟨B, o + 2, rfl, ?_, ?_⟩
  · rw [show o + 2 + j * 2 = o + (j + 1) * 2 by omega]; exact h1
  · rw [show o + 2 + j * 2 + 1 = o + (j + 1) * 2 + 1 by omega]; exact h2
theorem LiesT.head {w : World} {a : Option Addr} {x : Item} {l : List Item} (h : LiesT w a (x :: l)) : ∃ B o, a = some ⟨B, o, none⟩ ∧ w.cell? ⟨B, o, none⟩ = some (.int .i64 ((x.1 : Nat) : Int)) ∧ w.cell? ⟨B, o + 1, none⟩ = some (.bool x.2) := by
  obtain ⟨B, o, e, h1, h2⟩ := h 0 (by simp)
  exact ⟨B, o, e, by simpa [it] using h1, by simpa [it] using h2⟩
theorem LiesT.news {w : World} {ad : Addr} {l : List Item} (h : LiesT w (some ad) l) : ∀ j u, (cellsT l)[j]? = some u → w.cell? (ad.add j) = some u := by
  intro j u hu
  have hj : j < (cellsT l).length := (List.getElem?_eq_some_iff.1 hu).1
  rw [cellsT_length] at hj
  obtain ⟨k, hk⟩ : ∃ k, k = j / 2 := ⟨_, rfl⟩
  obtain ⟨B, o, e, h1, h2⟩ := h k (by omega)
  cases e
  obtain ⟨g1, g2⟩ := cellsT_get l k (by omega)
  rw [add_none]
  rcases (by omega : j = k * 2 ∨ j = k * 2 + 1) with rfl | rfl
  · rw [g1] at hu; cases hu; exact h1
  · rw [g2] at hu; cases hu; rw [← Nat.add_assoc]; exact h2
theorem append_items {w : World} {ops : Array Oper} {rest : List Oper} {o : Oper} {a : Act} {Q : Exit → Act → World → Prop} (hgd : o.guard = none) (s x : Operand)
    (ho : o.op = .call { callee := .builtin .append, args := #[s, x], argTypes := #[187, 187] }) (base : Nat) (v : Value) (n : Nat) (xs : List Value) (hs : a.eval s = v) (hown : w.ownsRow base 197 2 v n xs)
    (sa : Option Addr) (c : Nat) (l : List Item) (hx : a.eval x = .slice sa l.length c) (hl : LiesT w sa l) (hnil : sa = none → c = 0) (h63 : n + l.length ≤ 1000000) (hbase : base ≤ w.heap.size)
    (h : ∀ v' w', w'.ownsRow base 197 2 v' (n + l.length) (xs ++ cellsT l) → Below base w w' → wpList Tryz.prog ops Q rest (a.put o.dst v') w') : wpList Tryz.prog ops Q (o :: rest) a w := by
  obtain ⟨i0, hi, hz0, hz1, hz2⟩ := info_parts Tryz.info197
  cases sa with
  | none =>
    have hl0 : l = [] := by
      cases l with
      | nil => rfl
      | cons y r => obtain ⟨B, o, e, _⟩ := hl 0 (by simp); cases e
    have hc := hnil rfl
    subst hl0 hc
    refine wpList_append_own_none hgd s x 187 ho base 197 i0 2 Tryz.underlying187 hi v n xs hs hown hx ?_
    refine h v w ?_ (Below.refl _ _)
    simpa [cellsT] using hown
  | some ad =>
    refine wpList_append_own w hgd s x 187 ho base 197 i0 (.agg #[.int .i64 0, .bool false]) 2 16 Tryz.underlying187 hi hz0 hz1 hz2 rfl (by decide) v n xs hs hown ad l.length c (cellsT l) hx (by simp [cellsT_length]) hl.news (cellsT_one l) (by unfold maxLen; omega) (by omega) hbase ?_
    intro v' w' h1 h2 _
    exact h v' w' h1 (Below.grown (Below.refl _ _) h2 hbase (fun k hk => (hown.lt k hk).1))
theorem LiesT.blk {w : World} {a : Option Addr} {l : List Item} (h : LiesT w a l) : ∀ ad, a = some ad → l ≠ [] → ad.block < w.heap.size := by
  intro ad e hne
  obtain ⟨B, o, e2, h1, _⟩ := h 0 (List.length_pos_iff.2 hne)
  rw [e] at e2
  cases e2
  exact World.block_lt_of_cell? _ _ h1
def slLen (v : Value) : Nat := match v with
  | .slice _ n _ => n
  | _ => 0
set_option maxHeartbeats 3200000 in
set_option maxRecDepth 100000 in
theorem merged_c (a b : Option Addr) (c d : Nat) (A B : List Item) (w : World) (ha : LiesT w a A) (hb : LiesT w b B) (hca : A.length ≤ c) (hcb : B.length ≤ d) (hna : a = none → c = 0) (hnb : b = none → d = 0) (hlen : A.length + B.length ≤ 2000) :
    Calls Tryz.prog 135 #[.slice a A.length c, .slice b B.length d] w fun e w' => ∃ pa pc, e = .returned (.slice pa (mrg A B).length pc) ∧ OwnT w' w.heap.size (.slice pa (mrg A B).length pc) (mrg A B) ∧ Fr (fun _ => False) w w' := by
  obtain ⟨i0, hi0, hz0, hz1, hz2⟩ := info_parts Tryz.info197
  obtain ⟨N, hN⟩ : ∃ N, N = A.length + B.length := ⟨_, rfl⟩
  have hN1 : (A.length : Int) + (B.length : Int) = (N : Int) := by omega
  obtain ⟨zs, hmk, hzs⟩ := makeRoom N (by omega)
  have Ha := hide ha
  have Hna := hide hna
  have Hnb := hide hnb
  have Hb := hide hb
  have HN := hide hN
  have Hzs := hide hzs
  clear ha hb hN hzs hna hnb
  go_enter Tryz.func135, Tryz.ntmps135
  go_wp2
  clear hmk
  go_loopw [0, 1, 5] (fun av bv vv wr => ∃ (A2 B2 D : List Item) (aa bb : Option Addr) (ca cb : Nat), av = .slice aa A2.length ca ∧ bv = .slice bb B2.length cb ∧ Hid (D ++ mrg A2 B2 = mrg A B) ∧ LiesT w aa A2 ∧ LiesT w bb B2 ∧ A2.length ≤ ca ∧ B2.length ≤ cb ∧ Hid (aa = none → ca = 0) ∧ Hid (bb = none → cb = 0) ∧ D.length + A2.length + B2.length ≤ 2000 ∧ wr.ownsRow w.heap.size 197 2 vv D.length (cellsT D) ∧ Fr (fun _ => False) w wr) (fun av bv _ _ => slLen av + slLen bv)
  case atStart =>
    refine ⟨A, B, [], a, b, c, d, rfl, rfl, rfl, Ha.out, Hb.out, hca, hcb, Hna.out, Hnb.out, by simp; omega, ?_, Fr.of_alloc _ _⟩
    exact World.ownsRow_made w zs N (Nat.le_refl _) (by unfold maxLen; have := HN.out; omega) Hzs.out
  case round =>
    obtain ⟨A2, B2, D, aa, bb, ca, cb, rfl, rfl, HD, hA, hB, hca2, hcb2, Hn1, Hn2, hDl, hO, hF⟩ := hrel
    obtain ⟨va, vc, rfl⟩ := ownsRow_shape hO
    have hws : w.heap.size ≤ wr.heap.size := hF.size
    cases A2 with
    | nil =>
      have HA := hide hA
      have HB := hide hB
      have HO := hide hO
      have HF := hide hF
      have hmr : mrg ([] : List Item) B2 = B2 := by rw [mrg]
      have HM : Hid (mrg A B = D ++ ([] : List Item) ++ B2) := by
        show _ = _
        rw [← HD.out, hmr]
        simp
      have hAl : D.length + (([] : List Item)).length ≤ 2000 := by simp at hDl ⊢; omega
      have hBl : D.length + (([] : List Item)).length + (B2).length ≤ 2000 := by simp at hDl ⊢; omega

      clear hA hB hO hF hmr hDl
      go_wp2_with (at_builtin; first
        | (refine append_items rfl _ _ rfl w.heap.size (.slice va D.length vc) D.length (cellsT D) rfl HO.out aa ca ([] : List Item) rfl (HA.out.keep0 HF.out) Hn1.out (by omega) hws ?_; intro v1 w7 hO7 hB7; obtain ⟨v1a, v1c, rfl⟩ := ownsRow_shape hO7; have HO7 := hide hO7; have HF7 := hide (HF.out.join_new ((Fr.of_below hB7).mono fun k _ h => h)); have hws7 : w.heap.size ≤ w7.heap.size := Nat.le_trans hws hB7.size; clear hO7 hB7)
        | (refine append_items rfl _ _ rfl w.heap.size (.slice v1a (D.length + (([] : List Item)).length) v1c) (D.length + (([] : List Item)).length) (cellsT D ++ cellsT ([] : List Item)) rfl HO7.out bb cb B2 rfl (HB.out.keep0 HF7.out) Hn2.out (by omega) hws7 ?_; intro v2 w8 hO8 hB8; obtain ⟨v2a, v2c, rfl⟩ := ownsRow_shape hO8))
      have hM := HM.out
      have hlen2 : (mrg A B).length = D.length + (([] : List Item)).length + (B2).length := by rw [hM]; simp only [List.length_append]
      have hO9 : OwnT w8 w.heap.size (.slice v2a (mrg A B).length v2c) (mrg A B) := by
        show World.ownsRow _ _ _ _ _ _ _
        rw [hlen2, hM, cellsT_append, cellsT_append]
        exact hO8
      have HO9 := hide hO9
      have HF9 := hide (HF7.out.join_new ((Fr.of_below hB8).mono fun k _ h => h))
      have Hl2 := hide hlen2
      clear hO8 hB8 hO9 hlen2 hM
      go_ret
      exact ⟨v2a, v2c, by rw [Hl2.out]; rfl, HO9.out, HF9.out⟩
    | cons x A3 =>
      cases B2 with
      | nil =>
        have HA := hide hA
        have HB := hide hB
        have HO := hide hO
        have HF := hide hF
        have hmr : mrg (x :: A3) ([] : List Item) = x :: A3 := by rw [mrg]
        have HM : Hid (mrg A B = D ++ (x :: A3) ++ ([] : List Item)) := by
          show _ = _
          rw [← HD.out, hmr]
          simp
        have hAl : D.length + ((x :: A3)).length ≤ 2000 := by simp at hDl ⊢; omega
        have hBl : D.length + ((x :: A3)).length + (([] : List Item)).length ≤ 2000 := by simp at hDl ⊢; omega

        clear hA hB hO hF hmr hDl
        go_wp2_with (at_builtin; first
          | (refine append_items rfl _ _ rfl w.heap.size (.slice va D.length vc) D.length (cellsT D) rfl HO.out aa ca (x :: A3) rfl (HA.out.keep0 HF.out) Hn1.out (by omega) hws ?_; intro v1 w7 hO7 hB7; obtain ⟨v1a, v1c, rfl⟩ := ownsRow_shape hO7; have HO7 := hide hO7; have HF7 := hide (HF.out.join_new ((Fr.of_below hB7).mono fun k _ h => h)); have hws7 : w.heap.size ≤ w7.heap.size := Nat.le_trans hws hB7.size; clear hO7 hB7)
          | (refine append_items rfl _ _ rfl w.heap.size (.slice v1a (D.length + ((x :: A3)).length) v1c) (D.length + ((x :: A3)).length) (cellsT D ++ cellsT (x :: A3)) rfl HO7.out bb cb ([] : List Item) rfl (HB.out.keep0 HF7.out) Hn2.out (by omega) hws7 ?_; intro v2 w8 hO8 hB8; obtain ⟨v2a, v2c, rfl⟩ := ownsRow_shape hO8))
        have hM := HM.out
        have hlen2 : (mrg A B).length = D.length + ((x :: A3)).length + (([] : List Item)).length := by rw [hM]; simp only [List.length_append]
        have hO9 : OwnT w8 w.heap.size (.slice v2a (mrg A B).length v2c) (mrg A B) := by
          show World.ownsRow _ _ _ _ _ _ _
          rw [hlen2, hM, cellsT_append, cellsT_append]
          exact hO8
        have HO9 := hide hO9
        have HF9 := hide (HF7.out.join_new ((Fr.of_below hB8).mono fun k _ h => h))
        have Hl2 := hide hlen2
        clear hO8 hB8 hO9 hlen2 hM
        go_ret
        exact ⟨v2a, v2c, by rw [Hl2.out]; rfl, HO9.out, HF9.out⟩
      | cons y B3 =>
        obtain ⟨gB, go, rfl, a1, a2⟩ := (hA.keep0 hF).head
        obtain ⟨hBk, ho, rfl, b1, b2⟩ := (hB.keep0 hF).head
        have HA := hide hA
        have HB := hide hB
        have HO := hide hO
        have HF := hide hF
        have hlA : (0 : Int) < ((x :: A3).length : Nat) := by simp
        have hlB : (0 : Int) < ((y :: B3).length : Nat) := by simp
        clear hA hB hO hF
        obtain ⟨X, hX⟩ : ∃ X, X = x.1 := ⟨_, rfl⟩
        obtain ⟨Y, hY⟩ : ∃ Y, Y = y.1 := ⟨_, rfl⟩
        rw [← hX] at a1
        rw [← hY] at b1
        obtain ⟨LA, hLA⟩ : ∃ LA, LA = (x :: A3).length := ⟨_, rfl⟩
        obtain ⟨LB, hLB⟩ : ∃ LB, LB = (y :: B3).length := ⟨_, rfl⟩
        rw [← hLA, ← hLB]
        rw [← hLA] at hlA hca2 hDl
        rw [← hLB] at hlB hcb2 hDl
        have HLA := hide hLA
        have HLB := hide hLB
        have HX := hide hX
        have HY := hide hY
        have hLA1 : (1 : Int) ≤ (LA : Int) := by omega
        have hLB1 : (1 : Int) ≤ (LB : Int) := by omega
        clear hLA hLB hX hY
        by_cases hle : X ≤ Y
        · have hle2 : (X : Int) ≤ (Y : Int) := by omega
          go_wp2
          go_quiet (fail)
          have HF5 := hide (HF.out.join (Fr.of_drewN wr nq))
          have HO5 := hide (ownsRow_fr HO.out fun k _ => rfl (a := (wr.drewN nq).heap[k]?))
          have a1' : (wr.drewN nq).cell? ⟨gB, go, none⟩ = some (.int .i64 (X : Int)) := a1
          have a2' : (wr.drewN nq).cell? ⟨gB, go + 1, none⟩ = some (.bool x.2) := a2
          have hws5 : w.heap.size ≤ (wr.drewN nq).heap.size := hws
          generalize wr.drewN nq = w5 at HF5 HO5 a1' a2' hws5 ⊢
          clear a1 a2 b1 b2 HF HO hws
          go_wp2
          go_region_law ((refine step_append_lies _ (by rfl) _ _ _ (by rfl) w.heap.size 197 i0 (.agg #[.int .i64 0, .bool false]) 2 16 Tryz.underlying187 hi0 hz0 hz1 hz2 rfl (by decide) (.slice va D.length vc) D.length (cellsT D) (by rfl) (own_drew' HO5.out _) ⟨w5.heap.size, 0, none⟩ 1 1 (cellsT [((X, x.2) : Item)]) (by rfl) rfl (news_item _ _) (cellsT_one _) (by decide) (by unfold maxLen; omega) (by omega) (by simp; omega) (w5.heap.size + 1) (by simp) ?_; intro g cap w6 hown6 hgrow hat hlt6))
          all_goals
            have hT := HA.out.tail (c := ca) (by have := HLA.out; simp at this; omega)
            have hTn : (if ca = 1 then some (⟨gB, go, none⟩ : Addr) else some ⟨gB, go + 2, none⟩) ≠ none := by split <;> simp
            generalize (if ca = 1 then some (⟨gB, go, none⟩ : Addr) else some ⟨gB, go + 2, none⟩) = na at hT hTn ⊢
            have HTn : Hid (na = none → ca - 1 = 0) := fun e => absurd e hTn
            have HT := hide hT
            obtain ⟨L2, hL2⟩ : ∃ L2, L2 = LA - 1 := ⟨_, rfl⟩
            obtain ⟨c2, hc2⟩ : ∃ c2, c2 = ca - 1 := ⟨_, rfl⟩
            rw [← hL2, ← hc2]
            rw [← hc2] at HTn
            have HL2 := hide hL2
            have Hc2 := hide hc2
            have HF6 := hide (fr_append HF5.out HO5.out hgrow)
            have HO6 : Hid (w6.ownsRow w.heap.size 197 2 (.slice (some ⟨g, 0, none⟩) (D.length + 1) cap) (D ++ [x]).length (cellsT (D ++ [x]))) := by
              show World.ownsRow _ _ _ _ _ _ _
              rw [cellsT_append, List.length_append]
              have e : (X, x.2) = x := by rw [HX.out]
              rw [e] at hown6
              exact hown6
            have HD6 : Hid ((D ++ [x]) ++ mrg A3 (y :: B3) = mrg A B) := by
              show _ = _
              rw [← HD.out, mrg, if_pos (by rw [← HX.out, ← HY.out]; exact hle), List.append_assoc]
              rfl
            clear hT hL2 hc2 hTn hown6 hgrow hat hlt6
            simp [Act.put]
            go_wp2
            refine ⟨?rel, ?measure⟩
            case rel =>
              have e1 := HLA.out
              have e2 := HLB.out
              have e3 := HL2.out
              have e4 := Hc2.out
              simp only [List.length_cons] at e1 e2
              refine ⟨A3, y :: B3, D ++ [x], na, some ⟨hBk, ho, none⟩, c2, cb, by rw [show L2 = A3.length by omega], by rw [e2]; rfl, HD6, HT.out, HB.out, by omega, by simp; omega, HTn, Hn2, by simp; omega, HO6.out, HF6.out⟩
            case measure =>
              have e3 := HL2.out
              simp [slLen]; omega
        · have hle2 : ¬ (X : Int) ≤ (Y : Int) := by omega
          go_wp2
          go_quiet (fail)
          have HF5 := hide (HF.out.join (Fr.of_drewN wr nq))
          have HO5 := hide (ownsRow_fr HO.out fun k _ => rfl (a := (wr.drewN nq).heap[k]?))
          have a1' : (wr.drewN nq).cell? ⟨hBk, ho, none⟩ = some (.int .i64 (Y : Int)) := b1
          have a2' : (wr.drewN nq).cell? ⟨hBk, ho + 1, none⟩ = some (.bool y.2) := b2
          have hws5 : w.heap.size ≤ (wr.drewN nq).heap.size := hws
          generalize wr.drewN nq = w5 at HF5 HO5 a1' a2' hws5 ⊢
          clear a1 a2 b1 b2 HF HO hws
          go_wp2
          go_region_law ((refine step_append_lies _ (by rfl) _ _ _ (by rfl) w.heap.size 197 i0 (.agg #[.int .i64 0, .bool false]) 2 16 Tryz.underlying187 hi0 hz0 hz1 hz2 rfl (by decide) (.slice va D.length vc) D.length (cellsT D) (by rfl) (own_drew' HO5.out _) ⟨w5.heap.size, 0, none⟩ 1 1 (cellsT [((Y, y.2) : Item)]) (by rfl) rfl (news_item _ _) (cellsT_one _) (by decide) (by unfold maxLen; omega) (by omega) (by simp; omega) (w5.heap.size + 1) (by simp) ?_; intro g cap w6 hown6 hgrow hat hlt6))
          all_goals
            have hT := HB.out.tail (c := cb) (by have := HLB.out; simp at this; omega)
            have hTn : (if cb = 1 then some (⟨hBk, ho, none⟩ : Addr) else some ⟨hBk, ho + 2, none⟩) ≠ none := by split <;> simp
            generalize (if cb = 1 then some (⟨hBk, ho, none⟩ : Addr) else some ⟨hBk, ho + 2, none⟩) = na at hT hTn ⊢
            have HTn : Hid (na = none → cb - 1 = 0) := fun e => absurd e hTn
            have HT := hide hT
            obtain ⟨L2, hL2⟩ : ∃ L2, L2 = LB - 1 := ⟨_, rfl⟩
            obtain ⟨c2, hc2⟩ : ∃ c2, c2 = cb - 1 := ⟨_, rfl⟩
            rw [← hL2, ← hc2]
            rw [← hc2] at HTn
            have HL2 := hide hL2
            have Hc2 := hide hc2
            have HF6 := hide (fr_append HF5.out HO5.out hgrow)
            have HO6 : Hid (w6.ownsRow w.heap.size 197 2 (.slice (some ⟨g, 0, none⟩) (D.length + 1) cap) (D ++ [y]).length (cellsT (D ++ [y]))) := by
              show World.ownsRow _ _ _ _ _ _ _
              rw [cellsT_append, List.length_append]
              have e : (Y, y.2) = y := by rw [HY.out]
              rw [e] at hown6
              exact hown6
            have HD6 : Hid ((D ++ [y]) ++ mrg (x :: A3) B3 = mrg A B) := by
              show _ = _
              rw [← HD.out, mrg, if_neg (by rw [← HX.out, ← HY.out]; exact hle), List.append_assoc]
              rfl
            clear hT hL2 hc2 hTn hown6 hgrow hat hlt6
            simp [Act.put]
            go_wp2
            refine ⟨?rel, ?measure⟩
            case rel =>
              have e1 := HLA.out
              have e2 := HLB.out
              have e3 := HL2.out
              have e4 := Hc2.out
              simp only [List.length_cons] at e1 e2
              refine ⟨x :: A3, B3, D ++ [y], some ⟨gB, go, none⟩, na, ca, c2, by rw [e1]; rfl, by rw [show L2 = B3.length by omega], HD6, HA.out, HT.out, by simp; omega, by omega, Hn1, HTn, by simp; omega, HO6.out, HF6.out⟩
            case measure =>
              have e3 := HL2.out
              simp [slLen]; omega
end Go.Proofs.YtdpmpllbdoefdaaGreatDoor
namespace Go.Proofs.YtdpmpllbdoefdaaGreatDoor
open Go.RowKit
theorem Tryz.info187 : (Tryz.prog.info? 187).map (fun i => (i.zero, i.size, i.bytes)) = some (some (.slice none 0 0), 1, 24) := by kernel_rfl
def RowsOk (w : World) (S : List Item) (k : Nat) (vals : List Value) (ob : Option Nat) (lo : Nat) : Prop :=
  vals.length = k ∧ ∀ j, j < k → ∃ ra rc, vals[j]? = some (.slice ra (rowN S j).length rc) ∧ LiesT w ra (rowN S j) ∧ (rowN S j).length ≤ rc ∧ (ra = none → rc = 0) ∧ ∀ ad, ra = some ad → rowN S j ≠ [] → ob ≠ some ad.block ∧ lo ≤ ad.block
theorem RowsOk.keep {w w' : World} {S : List Item} {k : Nat} {vals : List Value} {ob : Option Nat} {lo : Nat} (h : RowsOk w S k vals ob lo) (f : Fr (fun i => ob = some i) w w') : RowsOk w' S k vals ob lo := by
  refine ⟨h.1, fun j hj => ?_⟩
  obtain ⟨ra, rc, h1, h2, h3, h4, h5⟩ := h.2 j hj
  exact ⟨ra, rc, h1, h2.keep f (fun ad e hne => (h5 ad e hne).1), h3, h4, h5⟩
theorem RowsOk.keep0 {w w' : World} {S : List Item} {k : Nat} {vals : List Value} {ob : Option Nat} {lo : Nat} (h : RowsOk w S k vals ob lo) (f : Fr (fun _ => False) w w') : RowsOk w' S k vals ob lo := by
  refine ⟨h.1, fun j hj => ?_⟩
  obtain ⟨ra, rc, h1, h2, h3, h4, h5⟩ := h.2 j hj
  exact ⟨ra, rc, h1, h2.keep0 f, h3, h4, h5⟩
theorem own_cell1 {w : World} {lo n : Nat} {e : TypeId} {a : Option Addr} {c : Nat} {xs : List Value} (h : w.ownsRow lo e 1 (.slice a n c) n xs) {j : Nat} {x : Value} (hx : xs[j]? = some x) : ∃ B, a = some ⟨B, 0, none⟩ ∧ w.cell? ⟨B, j, none⟩ = some x := by
  rcases h.2 with ⟨hv, e0⟩ | ⟨g, cap, cur, hv, hg, hh, hr⟩
  · have hl := h.1
    have hj := (List.getElem?_eq_some_iff.1 hx).1
    omega
  · cases hv
    have := h.cells (g := g) rfl j x hx
    rw [add_none, Nat.zero_add] at this
    exact ⟨g, rfl, this⟩
set_option maxHeartbeats 3200000 in
set_option maxRecDepth 100000 in
theorem mergedRows_c (a : Option Addr) (c L lo : Nat) (S : List Item) (w : World) (ha : LiesT w a S) (hca : S.length ≤ c) (hna : a = none → c = 0) (hlen : S.length ≤ 320) (hL1 : 1 ≤ L) (hL2 : L ≤ 15) (hw : ∀ x ∈ S, x.1 ≤ 1048576) (hlo : ∀ ad, a = some ad → S ≠ [] → lo ≤ ad.block) (hlow : lo ≤ w.heap.size) :
    Calls Tryz.prog 127 #[.slice a S.length c, .int .i64 (L : Int)] w fun e w' => ∃ pa pc vals, e = .returned (.slice pa L pc) ∧ w'.ownsRow w.heap.size 187 1 (.slice pa L pc) L vals ∧ RowsOk w' S L vals (Value.slice pa L pc).ownBlock lo ∧ Fr (fun _ => False) w w' := by
  obtain ⟨i0, hi0, hz0, hz1, hz2⟩ := info_parts Tryz.info187
  have hab := ha.blk
  have Ha := hide ha
  have Hna := hide hna
  have Hw := hide (row_bound hw)
  have Hab := hide hab
  have Hlo := hide hlo
  clear ha hna hw hab hlo
  go_enter Tryz.func127, Tryz.ntmps127
  go_wp2
  go_loopw [5] (fun vv wr => ∃ (k : Nat) (vals : List Value), 1 ≤ k ∧ k ≤ L ∧ wr.ownsRow w.heap.size 187 1 vv k vals ∧ RowsOk wr S k vals vv.ownBlock lo ∧ Fr (fun _ => False) w wr) (fun vv _ => L - slLen vv)
  case atStart =>
    refine ⟨1, [.slice a S.length c], Nat.le_refl _, hL1, ?_, ⟨rfl, fun j hj => ?_⟩, Fr.of_alloc _ _⟩
    · exact ⟨rfl, Or.inr ⟨w.heap.size, 1, #[.slice a S.length c], rfl, Nat.le_refl _, heap_alloc_new _ _, Nat.le_refl _, by unfold maxLen; omega, rfl, rfl⟩⟩
    · have e : j = 0 := by omega
      subst e
      refine ⟨a, c, rfl, Ha.out.keep0 (Fr.of_alloc _ _), hca, Hna.out, fun ad e hne => ⟨fun h => ?_, Hlo.out ad e hne⟩⟩
      have := Hab.out ad e hne
      simp [Value.ownBlock] at h
      omega
  case round =>
    obtain ⟨k, vals, hk1, hk2, hO, hR, hF⟩ := hrel
    obtain ⟨va, vc, rfl⟩ := ownsRow_shape hO
    have hws : w.heap.size ≤ wr.heap.size := hF.size
    by_cases hlt : k < L
    · obtain ⟨t, ht⟩ : ∃ t, k = t + 1 := ⟨k - 1, by omega⟩
      obtain ⟨ra, rc, r1, r2, r3, r4, r5⟩ := hR.2 t (by omega)
      obtain ⟨vB, rfl, hcell⟩ := own_cell1 hO r1
      have hkt : (k : Int) - 1 = (t : Int) := by omega
      have hti : (t : Int) < (k : Int) := by omega
      have hrs := row_size S t
      have Hwt : Hid (∀ j, j < (rowN S t).length → (it (rowN S t) j).1 ≤ 1000000000000000) := by
        intro j hj
        have e : it (rowN S t) j = (rowN S t)[j] := by simp [it, hj]
        rw [e]
        have h1 := Hw.out t _ (List.getElem_mem hj)
        have h2 : (2:Nat) ^ t ≤ 2 ^ 15 := Nat.pow_le_pow_right (by decide) (by omega)
        have h3 : 1048576 * 2 ^ t ≤ 1048576 * 2 ^ 15 := Nat.mul_le_mul_left _ h2
        have h4 : 1048576 * 2 ^ 15 = 34359738368 := by decide
        omega
      obtain ⟨RL, hRL⟩ : ∃ RL, RL = rowN S t := ⟨_, rfl⟩
      have HRL := hide hRL
      rw [← hRL] at r2 r3 hcell Hwt hrs
      have HO := hide hO
      have HR := hide hR
      have HF := hide hF
      have R2 := hide r2
      have Ht := hide ht
      have hRLl : RL.length ≤ 640 := by omega
      clear hO hR hF r1 r2 r3 r4 r5 ht hRL
      go_wp2_with fail
      refine (pairs_c ra rc RL wr R2.out (by omega) Hwt.out).mono ?_
      rintro e w2 ⟨pa, pc, rfl, hO2, hF2⟩
      have HF2 := hide hF2
      have HO2 := hide hO2
      have hpl : (prs RL).length ≤ 640 := by rw [prs_length]; omega
      have hpc : (prs RL).length ≤ pc ∧ (pa = none → pc = 0) := by
        rcases hO2.2 with ⟨hv, e0⟩ | ⟨g, cap, cur, hv, hg, hh, hr, _⟩
        · obtain ⟨e1, e2, e3⟩ := Value.slice.inj hv
          exact ⟨by omega, fun _ => e3⟩
        · obtain ⟨e1, e2, e3⟩ := Value.slice.inj hv
          exact ⟨by omega, fun h => by rw [h] at e1; cases e1⟩
      have HLP := hide (own_liesT hO2 rfl)
      clear hO2 hF2
      go_wp2_with fail
      refine (merged_c a pa c pc S (prs RL) w2 (Ha.out.keep0 (HF.out.join HF2.out)) HLP.out hca hpc.1 Hna.out hpc.2 (by omega)).mono ?_
      rintro e w3 ⟨qa, qc, rfl, hO3, hF3⟩
      have HF3 := hide (HF2.out.join hF3)
      have HO3 := hide hO3
      have hqc : (mrg S (prs RL)).length ≤ qc ∧ (qa = none → qc = 0) := by
        rcases hO3.2 with ⟨hv, e0⟩ | ⟨g, cap, cur, hv, hg, hh, hr, _⟩
        · obtain ⟨e1, e2, e3⟩ := Value.slice.inj hv
          exact ⟨by omega, fun _ => e3⟩
        · obtain ⟨e1, e2, e3⟩ := Value.slice.inj hv
          exact ⟨by omega, fun h => by rw [h] at e1; cases e1⟩
      have HLQ := hide (own_liesT hO3 rfl)
      have Hqb : Hid (∀ ad, qa = some ad → w2.heap.size ≤ ad.block ∧ ad.block < w3.heap.size) := fun ad e => hO3.lt ad.block (by rw [e]; rfl)
      have hOw : w3.ownsRow w.heap.size 187 1 (.slice (some ⟨vB, 0, none⟩) k vc) k vals := ownsRow_fr HO.out fun g hg => HF3.out.block g (HO.out.lt g hg).2 (fun h => h)
      have HOw := hide hOw
      have hw3 : w.heap.size ≤ w3.heap.size := Nat.le_trans hws HF3.out.size
      have hw23 : wr.heap.size ≤ w2.heap.size := HF2.out.size
      have hw33 : w2.heap.size ≤ w3.heap.size := hF3.size
      have Hqc := hide hqc
      clear hO3 hF3 hOw hqc
      obtain ⟨Q, hQ⟩ : ∃ Q, Q = mrg S (prs RL) := ⟨_, rfl⟩
      have HQ := hide hQ
      rw [← hQ] at HO3 HLQ Hqc ⊢
      clear hQ
      go_wp2_with (at_builtin; go_must (refine wpList_append_lies _ rfl _ _ 185 rfl w.heap.size 187 i0 (.slice none 0 0) 1 24 Tryz.underlying185 hi0 hz0 hz1 hz2 rfl (by decide) (.slice (some ⟨vB, 0, none⟩) k vc) k vals rfl (HOw.out.alloc _) ⟨w3.heap.size, 0, none⟩ 1 1 [.slice qa Q.length qc] rfl rfl (cell_one_new _ _ _) (fun x hx => by simp at hx; subst hx; rfl) (by decide) (by unfold maxLen; omega) (by omega) (by simp; omega) (w3.heap.size + 1) (by simp) ?_); intro g cap w4 hown4 hgrow hat hlt4)
      have hF4 : Fr (fun i => (Value.slice (some ⟨vB, 0, none⟩) k vc).ownBlock = some i) w3 w4 := ((Fr.of_alloc w3 _).trans (Fr.of_grown hgrow)).mono fun i _ h => h.elim (fun h => h.elim) id
      have hvB := (HOw.out.lt vB rfl).1
      have hvB2 := (HO.out.lt vB rfl).2
      have HR4 : Hid (RowsOk w4 S (k + 1) (vals ++ [.slice qa Q.length qc]) (Value.slice (some ⟨g, 0, none⟩) (k + 1) cap).ownBlock lo) := by
        have hR3 := (HR.out.keep0 HF3.out).keep hF4
        refine ⟨by simp [hR3.1], fun j hj => ?_⟩
        by_cases hjk : j < k
        · obtain ⟨xa, xc, x1, x2, x3, x4, x5⟩ := hR3.2 j hjk
          refine ⟨xa, xc, by rw [List.getElem?_append_left (by rw [hR3.1]; exact hjk)]; exact x1, x2, x3, x4, fun ad e hne => ⟨fun h => ?_, (x5 ad e hne).2⟩⟩
          have hg : g = ad.block := by simpa [Value.ownBlock] using h
          rcases hat with h1 | h1
          · exact (x5 ad e hne).1 (by rw [← hg]; exact h1)
          · obtain ⟨ya, yc, y1, y2, _⟩ := HR.out.2 j hjk
            have hbl := (HR.out.2 j hjk)
            obtain ⟨za, zc, z1, z2, _⟩ := hbl
            rw [x1] at z1
            cases z1
            have := z2.blk ad e hne
            omega
        · have hj' : j = k := by omega
          subst hj'
          have e1 := Ht.out
          have e2 := HRL.out
          have e3 := HQ.out
          have hrow : rowN S j = Q := by rw [e1, e3, e2]; rfl
          rw [hrow]
          refine ⟨qa, qc, by rw [List.getElem?_append_right (by rw [hR3.1]; exact Nat.le_refl _), hR3.1]; simp, HLQ.out.keep hF4 (fun ad e _ h => ?_), Hqc.out.1, Hqc.out.2, fun ad e _ => ⟨fun h => ?_, by have := Hqb.out ad e; omega⟩⟩
          · have hb := Hqb.out ad e
            have : vB = ad.block := by simpa [Value.ownBlock] using h
            omega
          · have hb := Hqb.out ad e
            have hg : g = ad.block := by simpa [Value.ownBlock] using h
            rcases hat with h1 | h1
            · have : vB = g := by simpa [Value.ownBlock] using h1
              omega
            · omega
      have HF4 : Hid (Fr (fun _ => False) w w4) := (HF.out.join HF3.out).join_new (hF4.mono fun i _ h => by
        have : vB = i := by simpa [Value.ownBlock] using h
        omega)
      have HO4 := hide hown4
      clear hown4 hgrow hat hlt4 hF4
      go_roundw
      case rel => exact ⟨k + 1, vals ++ [.slice qa Q.length qc], by omega, by omega, HO4.out, HR4.out, HF4.out⟩
      case measure => simp [slLen]; omega
    · have e : k = L := by omega
      subst e
      go_wp2
      go_ret
      exact ⟨va, vc, vals, rfl, hO, hR, hF⟩
end Go.Proofs.YtdpmpllbdoefdaaGreatDoor
namespace Go.Proofs.YtdpmpllbdoefdaaGreatDoor
open Go.RowKit
def fz (z : Int) : Nat := if 1 ≤ z ∧ z ≤ 15 then 2 ^ (15 - z.toNat) else 0
theorem nxk_fz (ls : List Int) (k : Nat) : nxk ls (k + 1) 15 = nxk ls k 15 + fz (at0 ls k) := by
  rw [nxk_succ]; rfl
theorem at0_set (o : List Int) (k : Nat) (z : Int) (hk : k < o.length) (j : Nat) : at0 (o.set k z) j = if j = k then z else at0 o j := by
  unfold at0
  simp only [List.getD_eq_getElem?_getD, List.getElem?_set]
  by_cases e : k = j
  · subst e; simp [hk]
  · rw [if_neg e, if_neg (Ne.symm e)]
theorem nxk_set (o : List Int) (k : Nat) (z : Int) (hk : k < o.length) (n : Nat) : nxk (o.set k z) n 15 + (if k < n then fz (at0 o k) else 0) = nxk o n 15 + (if k < n then fz z else 0) := by
  induction n with
  | zero => simp [nxk_zero]
  | succ n ih =>
    rw [nxk_fz, nxk_fz, at0_set o k z hk]
    by_cases e : n = k
    · subst e
      rw [if_neg (by omega), if_neg (by omega)] at ih
      simp
      omega
    · rw [if_neg e]
      by_cases h : k < n
      · rw [if_pos h, if_pos h] at ih
        rw [if_pos (by omega), if_pos (by omega)]
        omega
      · rw [if_neg h, if_neg h] at ih
        rw [if_neg (by omega), if_neg (by omega)]
        omega
structure LenSt (S : List Item) (L : Nat) (u : Nat → Nat) (o : List Int) (t x : Nat) : Prop where
  other : ∀ k, k < o.length → (∀ i, i < S.length → u i ≠ k) → at0 o k = 0
  sym : ∀ i, i < S.length → at0 o (u i) = ((ln S L t i + if i < x then 1 else 0 : Nat) : Int)
  kr0 : t = 0 → nxk o o.length 15 = x * 16384
  kr : 1 ≤ t → 2 * nxk o o.length 15 + x * 2 ^ (15 - t) = 65536 + cT S L t * 2 ^ (15 - t)
theorem LenSt.step {S : List Item} {L : Nat} {u : Nat → Nat} {o : List Int} {t x : Nat} (hS : Syms S L) (hL : L ≤ 15) (ht : t < L) (h : LenSt S L u o t x) (hx : x < sT S L t) (hu : ∀ i, i < S.length → u i < o.length) (hinj : ∀ i j, i < S.length → j < S.length → u i = u j → i = j) :
    LenSt S L u (o.set (u x) (at0 o (u x) + 1)) t (x + 1) ∧ at0 o (u x) = (t : Int) := by
  have hxn : x < S.length := by have := (sT_le hS ht).1; omega
  have hat : at0 o (u x) = (t : Int) := by
    rw [h.sym x hxn, if_neg (by omega), ln_full hS ht hx]; rfl
  have hux := hu x hxn
  have hns := nxk_set o (u x) ((t : Int) + 1) hux o.length
  rw [if_pos hux, if_pos hux, hat] at hns
  have f1 : fz ((t : Int) + 1) = 2 ^ (14 - t) := by
    unfold fz
    rw [if_pos (by omega), show ((t : Int) + 1).toNat = t + 1 by omega, show 15 - (t + 1) = 14 - t by omega]
  rw [f1] at hns
  refine ⟨⟨fun k hk hne => ?_, fun i hi => ?_, fun e => ?_, fun e => ?_⟩, hat⟩
  · rw [List.length_set] at hk
    rw [at0_set _ _ _ hux, if_neg (fun e => hne x hxn e.symm)]
    exact h.other k hk hne
  · rw [at0_set _ _ _ hux]
    by_cases e : i = x
    · subst e
      rw [if_pos rfl, if_pos (by omega), hat, ln_full hS ht hx]
      simp
    · rw [if_neg (fun e2 => e (hinj i x hi hxn e2)), h.sym i hi]
      by_cases h2 : i < x
      · rw [if_pos h2, if_pos (by omega)]
      · rw [if_neg h2, if_neg (by omega)]
  · rw [List.length_set, hat]
    have h0 := h.kr0 e
    subst e
    have f0 : fz ((0 : Nat) : Int) = 0 := by unfold fz; rw [if_neg (by omega)]
    rw [f0] at hns
    have e14 : (2:Nat) ^ (14 - 0) = 16384 := by decide
    rw [e14] at hns
    omega
  · rw [List.length_set, hat]
    have h0 := h.kr e
    have f0 : fz (t : Int) = 2 ^ (15 - t) := by
      unfold fz
      rw [if_pos (by omega)]
      simp
    rw [f0] at hns
    have e15 : (2:Nat) ^ (15 - t) = 2 * 2 ^ (14 - t) := by rw [show 15 - t = (14 - t) + 1 by omega, Nat.pow_succ]; omega
    rw [e15] at hns h0 ⊢
    rw [Nat.add_mul]
    omega
theorem LenSt.next {S : List Item} {L : Nat} {u : Nat → Nat} {o : List Int} {t : Nat} (hS : Syms S L) (hL : L ≤ 15) (ht : t < L) (h : LenSt S L u o t (sT S L t)) : LenSt S L u o (t + 1) 0 := by
  refine ⟨h.other, fun i hi => ?_, fun e => by omega, fun _ => ?_⟩
  · rw [h.sym i hi, if_neg (show ¬ i < 0 by omega)]
    simp only [ln]
    rfl
  · obtain ⟨a1, a2, a3⟩ := sT_le hS ht
    rw [cT_succ]
    rcases Nat.eq_zero_or_pos t with e | e
    · have h0 := h.kr0 e
      subst e
      have h1 := sT_zero hS
      have c0 : cT S L 0 = 2 * S.length - 2 := rfl
      have h2 := hS.two
      have e14 : (2:Nat) ^ (15 - (0 + 1)) = 16384 := by decide
      rw [e14, h0, h1]
      omega
    · have h0 := h.kr e
      have e15 : (2:Nat) ^ (15 - t) = 2 * 2 ^ (15 - (t + 1)) := by rw [show 15 - t = (15 - (t + 1)) + 1 by omega, Nat.pow_succ]; omega
      rw [e15, ← a3, Nat.add_mul] at h0
      generalize 2 ^ (15 - (t + 1)) = M at *
      have x1 : sT S L t * (2 * M) = 2 * (sT S L t * M) := by rw [Nat.mul_left_comm]
      have x2 : pT S L t * (2 * M) = 2 * (pT S L t * M) := by rw [Nat.mul_left_comm]
      have x3 : 2 * pT S L t * M = 2 * (pT S L t * M) := by rw [Nat.mul_assoc]
      rw [x3]
      omega
structure OutM (w : World) (g : Nat) (o : List Int) : Prop where
  ex : ∃ cs : Array Value, w.heap[g]? = some (.cells cs 3 (0, 0)) ∧ o.length ≤ cs.size ∧ ∀ k, k < o.length → cs[k]? = some (.int .i64 (at0 o k))
theorem OutM.set {w : World} {g : Nat} {o : List Int} (h : OutM w g o) {k : Nat} (hk : k < o.length) (z : Int) : OutM (w.setCell ⟨g, k, none⟩ (.int .i64 z)) g (o.set k z) := by
  obtain ⟨cs, h1, h2, h3⟩ := h.ex
  refine ⟨_, heap_setCell_own _ h1, by simpa using h2, fun j hj => ?_⟩
  rw [List.length_set] at hj
  rw [at0_set _ _ _ hk]
  by_cases e : j = k
  · subst e; rw [if_pos rfl, Array.getElem?_setIfInBounds_self_of_lt (by omega)]
  · rw [if_neg e, Array.getElem?_setIfInBounds_ne (Ne.symm e)]; exact h3 j hj
theorem OutM.cell {w : World} {g : Nat} {o : List Int} (h : OutM w g o) {k : Nat} (hk : k < o.length) : w.cell? ⟨g, k, none⟩ = some (.int .i64 (at0 o k)) ∧ w.frozen? ⟨g, k, none⟩ = false := by
  obtain ⟨cs, h1, h2, h3⟩ := h.ex
  exact ⟨cell_of h1 (h3 k hk), frozen_of h1⟩
theorem OutM.keep {w w' : World} {g : Nat} {o : List Int} (h : OutM w g o) {S : Nat → Prop} (f : Fr S w w') (hg : ¬ S g) : OutM w' g o := by
  obtain ⟨cs, h1, h2⟩ := h.ex
  exact ⟨cs, by rw [f.block g (lt_of h1) hg]; exact h1, h2⟩
theorem LiesT.take {w : World} {a : Option Addr} {l : List Item} (h : LiesT w a l) (c : Nat) : LiesT w a (l.take c) := by
  intro j hj
  rw [List.length_take] at hj
  obtain ⟨B, o, e, h1, h2⟩ := h j (by omega)
  have e2 : it (l.take c) j = it l j := by unfold it; simp only [List.getD_eq_getElem?_getD, List.getElem?_take, if_pos (show j < c by omega)]
  exact ⟨B, o, e, by rw [e2]; exact h1, by rw [e2]; exact h2⟩
set_option maxHeartbeats 3200000 in
set_option maxRecDepth 100000 in
theorem lengthen_c (gO gU c cU L lo rp : Nat) (ra : Option Addr) (S : List Item) (d : Array Nat) (o : List Int) (vals : List Value) (w : World) (hS : Syms S L) (hL : L ≤ 15) (hO : OutM w gO o) (hU : Dt w gU d) (hdn : d.size = S.length) (hov : w.ownsRow lo 187 1 (.slice ra L rp) L vals) (hR : RowsOk w S L vals (Value.slice ra L rp).ownBlock lo)
    (hgo : gO < lo) (hUO : gU ≠ gO) (hu : ∀ i, i < S.length → d[i]! < o.length) (hinj : ∀ i j, i < S.length → j < S.length → d[i]! = d[j]! → i = j) (hst : LenSt S L (fun i => d[i]!) o 0 0) (hcU : S.length ≤ cU) (hS320 : S.length ≤ 320) :
    Calls Tryz.prog 126 #[.slice (some ⟨gO, 0, none⟩) o.length c, .slice (some ⟨gU, 0, none⟩) S.length cU, .slice ra L rp] w fun e w' => e = .returned (.tuple #[]) ∧ ∃ o', o'.length = o.length ∧ OutM w' gO o' ∧ LenSt S L (fun i => d[i]!) o' L 0 ∧ Fr (fun k => k = gO) w w' := by
  have h2 := hS.two
  obtain ⟨c0, hc0⟩ : ∃ c0, c0 = 2 * S.length - 2 := ⟨_, rfl⟩
  have hc1 : 2 * (S.length : Int) - 2 = (c0 : Int) := by omega
  have Hc0 := hide hc0
  have HS := hide hS
  have HO := hide hO
  have HU := hide hU
  have Hdn := hide hdn
  have Hov := hide hov
  have HR := hide hR
  have Hu := hide hu
  have Hinj := hide hinj
  have Hst := hide hst
  have hL1 := hS.one
  clear hc0 hS hO hU hdn hov hR hu hinj hst
  go_enter Tryz.func126, Tryz.ntmps126
  go_wp2
  go_loopw [6, 7, 8, 10] (fun cv iv _ _ wr => ∃ (t : Nat) (i : Int) (o' : List Int), t ≤ L ∧ i = (L : Int) - 1 - t ∧ iv = .int .i64 i ∧ cv = .int .i64 (cT S L t : Nat) ∧ o'.length = o.length ∧ OutM wr gO o' ∧ Hid (LenSt S L (fun i => d[i]!) o' t 0) ∧ Fr (fun k => k = gO) w wr) (fun _ iv _ _ _ => (intOf iv + 1).toNat)
  case atStart => exact ⟨0, (L : Int) - 1, o, Nat.zero_le _, by omega, rfl, by rw [Hc0.out]; rfl, rfl, HO.out, Hst, Fr.refl _ _⟩
  case round =>
    obtain ⟨t, i, o', ht, hi, rfl, rfl, hol, hM, HL, hF⟩ := hrel
    by_cases hlt : t < L
    · obtain ⟨j, hj⟩ : ∃ j : Nat, j = L - 1 - t := ⟨_, rfl⟩
      have hij : i = (j : Int) := by omega
      subst hij
      obtain ⟨xa, xc, x1, x2, x3, x4, x5⟩ := HR.out.2 j (by omega)
      obtain ⟨vB, hva, hcell⟩ := own_cell1 Hov.out x1
      subst hva
      have hvB := Hov.out.lt vB rfl
      have hcell2 : wr.cell? ⟨vB, j, none⟩ = some (.slice xa (rowN S j).length xc) := (World.cell?_of_block (a := ⟨vB, j, none⟩) (hF.block vB hvB.2 (by omega))).trans hcell
      have x2' := x2.keep hF (fun ad e hne => by have := (x5 ad e hne).2; omega)
      have hcl := cT_le HS.out t hlt
      rw [← hj] at hcl
      have hrs := row_size S j
      obtain ⟨a1, a2, a3⟩ := sT_le HS.out hlt
      obtain ⟨ch, hch⟩ : ∃ ch, ch = cT S L t := ⟨_, rfl⟩
      obtain ⟨RL, hRL⟩ : ∃ RL, RL = rowN S j := ⟨_, rfl⟩
      rw [← hch] at hcl a2 a3 ⊢
      rw [← hRL] at hcell2 x2' hcl x3 hrs
      have hp : cntP (RL.take ch) = pT S L t := by unfold pT; rw [← hj, ← hRL, ← hch]
      have hlt2 : (RL.take ch).length = ch := by rw [List.length_take]; omega
      have CP := hide (countPairs_c xa xc (RL.take ch) wr (x2'.take ch) (by omega))
      rw [hp, hlt2] at CP
      obtain ⟨p, hpp⟩ : ∃ p, p = pT S L t := ⟨_, rfl⟩
      obtain ⟨s, hss⟩ : ∃ s, s = sT S L t := ⟨_, rfl⟩
      rw [← hpp] at CP a2 a3
      rw [← hss] at a1 a3
      have hjL : (j : Int) < (L : Int) := by omega
      have hcs : (ch : Int) - (p : Int) = (s : Int) := by omega
      have hchx : ch ≤ xc := by omega
      have hchi : (ch : Int) ≤ (xc : Int) := by omega
      have hscu : (s : Int) ≤ (cU : Int) := by omega
      have hchb : ch ≤ 640 := by omega
      have Hch := hide hch
      have Hpp := hide hpp
      have Hss := hide hss
      have Hj := hide hj
      have HM := hide hM
      have HF := hide hF
      have hj0 : (0 : Int) ≤ (j : Int) := by omega
      clear hM hF x1 x2 x2' x3 x4 x5 hcell hch hRL hp hlt2 hpp hss hj hi hcl hrs
      go_wp2_with fail
      refine CP.out.mono ?_
      rintro e w2 ⟨rfl, hF2⟩
      have HM2 := hide (HM.out.keep hF2 (fun h => h))
      have HF2 := hide (HF.out.join (hF2.mono fun _ _ h => h.elim))
      clear hF2
      go_wp2
      go_loopw [10, 35] (fun _ xv wr => ∃ (x : Nat) (o2 : List Int), x ≤ s ∧ xv = .int .i64 (x : Int) ∧ o2.length = o.length ∧ OutM wr gO o2 ∧ Hid (LenSt S L (fun i => d[i]!) o2 t x) ∧ Fr (fun k => k = gO) w wr) (fun _ xv _ => s - (intOf xv).toNat)
      case atStart => exact ⟨0, o', Nat.zero_le _, rfl, hol, HM2.out, HL, HF2.out⟩
      case round =>
        obtain ⟨x, o2, hx, rfl, hol2, hM3, HL3, hF3⟩ := hrel
        by_cases hxs : x < s
        · have hUw := HU.out.keep hF3 (fun e => hUO e)
          have hdn := Hdn.out
          have cu := hUw.cell (j := x) (by omega)
          have hux := Hu.out x (by omega)
          obtain ⟨q1, q2⟩ := hM3.cell (k := d[x]!) (by omega)
          obtain ⟨l1, l2⟩ := HL3.out.step HS.out hL hlt (by rw [← Hss.out]; exact hxs) (fun i hi => by rw [hol2]; exact Hu.out i hi) Hinj.out
          have l2' : at0 o2 d[x]! = (t : Int) := l2
          have l1' : LenSt S L (fun i => d[i]!) (o2.set d[x]! ((t : Int) + 1)) t (x + 1) := by
            have := l1
            simp only [l2'] at this
            exact this
          rw [l2'] at q1
          have HL4 := hide l1'
          have HM4 := hide (hM3.set (k := d[x]!) (by omega) ((t : Int) + 1))
          obtain ⟨ux, hux2⟩ : ∃ ux, ux = d[x]! := ⟨_, rfl⟩
          rw [← hux2] at cu q1 q2 hux HL4 HM4
          have HF4 := hide (hF3.join ((Fr.of_setCell _ ⟨gO, ux, none⟩ (.int .i64 ((t : Int) + 1))).mono fun k _ h => h))
          have huxi : (ux : Int) < (o.length : Nat) := by omega
          have hxi : (x : Int) < (s : Int) := by omega
          clear hUw hM3 hF3 l1 l2 l2' l1' hux2 hdn
          go_wp2
          go_roundw
          case rel => exact ⟨x + 1, o2.set ux ((t : Int) + 1), by omega, by go_num, by rw [List.length_set]; exact hol2, HM4.out, HL4, HF4.out⟩
          case measure => simp [intOf]; omega
        · have e : x = s := by omega
          subst e
          have hL5 := HL3.out
          rw [Hss.out] at hL5
          have HL5 := hide (hL5.next HS.out hL hlt)
          have HM3 := hide hM3
          have HF3 := hide hF3
          obtain ⟨c2, hc2⟩ : ∃ c2 : Nat, c2 = 2 * p := ⟨_, rfl⟩
          have hc3 : 2 * (p : Int) = (c2 : Int) := by omega
          have Hc2 := hide hc2
          clear hL5 hM3 hF3 hc2
          go_wp2
          go_roundw
          case rel =>
            have e1 := Hj.out
            have e2 := Hc2.out
            have e3 := Hpp.out
            exact ⟨t + 1, (j : Int) - 1, o2, by omega, by omega, rfl, by rw [cT_succ, ← e3, ← e2], hol2, HM3.out, HL5, HF3.out⟩
          case measure => simp [intOf]
    · have e : t = L := by omega
      subst e
      have hneg : ¬ (0 : Int) ≤ i := by omega
      have HM := hide hM
      have HF := hide hF
      clear hM hF
      go_wp2
      go_end0
      exact ⟨rfl, o', hol, HM.out, HL.out, HF.out⟩
end Go.Proofs.YtdpmpllbdoefdaaGreatDoor
namespace Go.Proofs.YtdpmpllbdoefdaaGreatDoor
open Go.RowKit
open Go.Sort (swp PermIn SortedIn SWO swp_get swp_size swp_permIn permIn_refl permIn_trans permIn_mono permIn_all Ins)
theorem makeInts (n : Nat) (hn : n ≤ 1000000) : ∃ zs : Array Value, (∀ W : World, (Instr.makeSlice 81 (.int .i64 (n : Int)) (.int .i64 (n : Int))).run Tryz.prog W = .ok (.slice (some ⟨W.heap.size, 0, none⟩) n n) (W.alloc (.cells zs 3))) ∧ zs.size = n ∧ ∀ i, i < n → zs[i]? = some (.int .i64 0) := by
  obtain ⟨i0, hi, hz0, hz1, hz2⟩ := info_parts Tryz.info3
  refine ⟨madeCells (Value.int .i64 0).cells (n * 1), fun W => ?_, by simp [size_madeCells], fun i hi => ?_⟩
  · have := run_make (P := Tryz.prog) W 81 3 i0 (.int .i64 0) Tryz.underlying81 hi hz0 .i64 .i64 n n (by omega) (Int.le_refl _) (by rw [hz2]; omega) (by omega)
    rw [hz1] at this
    simpa using this
  · simp [madeCells, hi, Value.cells, Nat.mod_one]
def items (fq : List Int) (us : List Nat) : List Item := us.map fun u => ((at0 fq u).toNat, false)
structure LenOk (fq : List Int) (L : Nat) (o : List Int) : Prop where
  len : o.length = fq.length
  zero : ∀ k, k < fq.length → ¬ 0 < at0 fq k → at0 o k = 0
  pos : ∀ k, k < fq.length → 0 < at0 fq k → 1 ≤ at0 o k ∧ at0 o k ≤ (L : Int)
  mono : ∀ i k, i < fq.length → k < fq.length → 0 < at0 fq k → at0 fq k < at0 fq i → at0 o i ≤ at0 o k
  code : codeOk o
  one : (posL fq fq.length).length = 1 → ∀ k, k < fq.length → at0 o k ≤ 1
  sor : 2 ≤ (posL fq fq.length).length → ∃ d : Array Nat, d.toList.Perm (posL fq fq.length) ∧ SortedIn (ltF fq) 0 d.size d ∧ ∀ i, i < d.size → at0 o d[i]! = ((ln (items fq d.toList) L L i : Nat) : Int)
def zeros (n : Nat) : List Int := List.replicate n 0
theorem at0_zeros (n k : Nat) : at0 (zeros n) k = 0 := by
  unfold at0 zeros
  simp only [List.getD_eq_getElem?_getD, List.getElem?_replicate]
  split <;> rfl
theorem nxk_zeros (n k : Nat) : nxk (zeros n) k 15 = 0 := by
  induction k with
  | zero => exact nxk_zero _ _
  | succ k ih => rw [nxk_fz, ih, at0_zeros]; rfl
theorem tot_zeros (n k : Nat) : totk (zeros n) k 15 = 0 := by
  induction k with
  | zero => exact totk_zero _ _
  | succ k ih => rw [totk_succ, ih, at0_zeros]; rfl
theorem lenOk_none (fq : List Int) (L : Nat) (h : posL fq fq.length = []) : LenOk fq L (zeros fq.length) := by
  have hn : ∀ k, k < fq.length → ¬ 0 < at0 fq k := fun k hk h2 => by
    have := (posL_mem fq fq.length k).2 ⟨hk, h2⟩
    rw [h] at this
    simp at this
  refine ⟨by simp [zeros], fun k _ _ => at0_zeros _ _, fun k hk h2 => absurd h2 (hn k hk), fun i k _ hk h2 _ => absurd h2 (hn k hk), Or.inr (Or.inl ?_), fun h2 => by rw [h] at h2; simp at h2, fun h2 => by rw [h] at h2; simp at h2⟩
  have : (zeros fq.length).length = fq.length := by simp [zeros]
  unfold tot
  rw [this]
  exact tot_zeros _ _
theorem rank_one (n u k : Nat) (hu : u < n) : rank ((zeros n).set u 1) 1 k = if u < k then 1 else 0 := by
  induction k with
  | zero => simp [rank]
  | succ k ih =>
    simp only [rank, ih]
    rw [at0_set _ _ _ (by simp [zeros]; exact hu), at0_zeros]
    by_cases e : k = u
    · subst e; simp
    · rw [if_neg e]
      have e2 : (u < k + 1) = (u < k) := by simp only [eq_iff_iff]; omega
      simp only [e2]
      simp
theorem tot_one (n u k : Nat) (hu : u < n) : totk ((zeros n).set u 1) k 15 = if u < k then 1 else 0 := by
  induction k with
  | zero => simp [totk_zero]
  | succ k ih =>
    rw [totk_succ, ih, at0_set _ _ _ (by simp [zeros]; exact hu), at0_zeros]
    by_cases e : k = u
    · subst e; simp
    · rw [if_neg e]
      have e2 : (u < k + 1) = (u < k) := by simp only [eq_iff_iff]; omega
      simp only [e2]
      simp
theorem lenOk_one (fq : List Int) (L u : Nat) (hL : 1 ≤ L) (h : posL fq fq.length = [u]) : LenOk fq L ((zeros fq.length).set u 1) := by
  have hu := (posL_mem fq fq.length u).1 (by rw [h]; simp)
  have hz : u < (zeros fq.length).length := by simp [zeros]; exact hu.1
  have hn : ∀ k, k < fq.length → 0 < at0 fq k → k = u := fun k hk h2 => by
    have := (posL_mem fq fq.length k).2 ⟨hk, h2⟩
    rw [h] at this
    simpa using this
  refine ⟨by simp [zeros], fun k hk h2 => ?_, fun k hk h2 => ?_, fun i k hi hk h2 h3 => ?_, Or.inr (Or.inr ⟨?_, ?_⟩), fun _ k hk => ?_, fun h2 => by rw [h] at h2; simp at h2⟩
  · have e2 : k ≠ u := by
      intro e
      rw [e] at h2
      exact h2 hu.2
    rw [at0_set _ _ _ hz, if_neg e2, at0_zeros]
  · rw [hn k hk h2, at0_set _ _ _ hz, if_pos rfl]; omega
  · have e1 := hn k hk h2
    have e2 := hn i hi (by omega)
    rw [e1, e2] at h3
    omega
  · unfold tot
    rw [tot_one _ _ _ hu.1, if_pos (by simp [zeros]; exact hu.1)]
  · unfold cnt
    rw [rank_one _ _ _ hu.1, if_pos (by simp [zeros]; exact hu.1)]
  · rw [at0_set _ _ _ hz]
    split
    · omega
    · rw [at0_zeros]; omega
theorem items_syms {fq : List Int} {d : Array Nat} {L : Nat} (hs : SortedIn (ltF fq) 0 d.size d) (h2 : 2 ≤ d.size) (hL : d.size ≤ 2 ^ L) (h1 : 1 ≤ L) : Syms (items fq d.toList) L := by
  refine ⟨fun x hx => ?_, ?_, by simpa [items] using h2, by simpa [items] using hL, h1⟩
  · simp only [items, List.mem_map] at hx
    obtain ⟨u, _, rfl⟩ := hx
    rfl
  · unfold Asc items
    rw [List.pairwise_map, List.pairwise_iff_getElem]
    intro i j hi hj hij
    have hi' : i < d.size := by simpa using hi
    have hj' : j < d.size := by simpa using hj
    have h3 := hs i j (Nat.zero_le _) hij hj'
    have e1 : d[i]! = d.toList[i] := by simp [hi']
    have e2 : d[j]! = d.toList[j] := by simp [hj']
    rw [e1, e2] at h3
    have h4 : ¬ at0 fq d.toList[j] < at0 fq d.toList[i] := by rw [ltF_false] at h3; omega
    unfold key
    simp only [Bool.false_eq_true, if_false]
    omega
theorem lenOk_many {fq : List Int} {d : Array Nat} {L : Nat} {o : List Int} (hp : d.toList.Perm (posL fq fq.length)) (hs : SortedIn (ltF fq) 0 d.size d) (h2 : 2 ≤ d.size) (hL : d.size ≤ 2 ^ L) (h1 : 1 ≤ L) (hl : o.length = fq.length)
    (h : LenSt (items fq d.toList) L (fun i => d[i]!) o L 0) : LenOk fq L o := by
  have hS := items_syms hs h2 hL h1
  have hil : (items fq d.toList).length = d.size := by simp [items]
  have hmem : ∀ k, k < fq.length → 0 < at0 fq k → ∃ i, i < d.size ∧ d[i]! = k := fun k hk h3 => by
    have hm : k ∈ d.toList := hp.mem_iff.2 ((posL_mem fq fq.length k).2 ⟨hk, h3⟩)
    obtain ⟨i, hi, e⟩ := List.mem_iff_getElem.1 hm
    have hi' : i < d.size := by simpa using hi
    exact ⟨i, hi', by simp [hi'] at e ⊢; exact e⟩
  have hat : ∀ i, i < d.size → at0 o d[i]! = (ln (items fq d.toList) L L i : Nat) := fun i hi => by
    have := h.sym i (by rw [hil]; exact hi)
    simpa using this
  obtain ⟨t, ht⟩ : ∃ t, L = t + 1 := ⟨L - 1, by omega⟩
  refine ⟨hl, fun k hk h3 => ?_, fun k hk h3 => ?_, fun i k hi hk h3 h4 => ?_, Or.inl ?_, fun h3 => ?_, fun _ => ⟨d, hp, hs, hat⟩⟩
  · refine h.other k (by rw [hl]; exact hk) (fun i hi e => h3 ?_)
    rw [hil] at hi
    have hm : k ∈ d.toList := by
      rw [← e]
      have : d[i]! = d.toList[i]'(by simpa using hi) := by simp [hi]
      show d[i]! ∈ d.toList
      rw [this]
      exact List.getElem_mem _
    exact ((posL_mem fq fq.length k).1 (hp.mem_iff.1 hm)).2
  · obtain ⟨i, hi, rfl⟩ := hmem k hk h3
    rw [hat i hi]
    have a1 := ln_le (items fq d.toList) L L i
    have a2 := ln_pos hS (t := t) (i := i) (by rw [hil]; exact hi)
    rw [← ht] at a2
    omega
  · obtain ⟨x, hx, rfl⟩ := hmem k hk h3
    obtain ⟨y, hy, rfl⟩ := hmem i hi (by omega)
    rw [hat x hx, hat y hy]
    have hxy : x ≤ y := by
      rcases Nat.lt_or_ge y x with h5 | h5
      · have := hs y x (Nat.zero_le _) h5 hx
        rw [ltF_false] at this
        omega
      · exact h5
    have := ln_anti (items fq d.toList) L L hxy
    omega
  · have hk := h.kr h1
    rw [cT_end hS] at hk
    have hf := fr_nx o 15
    have hn : nx o 15 = 32768 := by unfold nx; omega
    rw [hn] at hf
    have : (2:Int) ^ 15 = 32768 := by decide
    omega
  · have := hp.length_eq
    simp at this
    omega
end Go.Proofs.YtdpmpllbdoefdaaGreatDoor
namespace Go.Proofs.YtdpmpllbdoefdaaGreatDoor
open Go.RowKit
open Go.Sort (swp PermIn SortedIn SWO swp_get swp_size swp_permIn permIn_refl permIn_trans permIn_mono permIn_all Ins)
set_option maxRecDepth 100000 in
theorem lengths_most (a : Option Addr) (c : Nat) (fq : List Int) (m : Int) (w : World) (hm : m < 1 ∨ 15 < m) (Q : Ending → World → Prop) (hQ : Q (.returned (.tuple #[.slice none 0 0, .bool false])) w) :
    Calls Tryz.prog 111 #[.slice a fq.length c, .int .i64 m] w Q := by
  have HQ := hide hQ
  clear hQ
  rcases hm with hm | hm
  · go_enter Tryz.func111, Tryz.ntmps111
    go_wp2
    exact HQ.out
  · have h1 : ¬ m < 1 := by omega
    go_enter Tryz.func111, Tryz.ntmps111
    go_wp2
    exact HQ.out
set_option maxRecDepth 100000 in
theorem lengths_bad (a : Option Addr) (c : Nat) (fq : List Int) (m : Int) (w : World) (h1 : 1 ≤ m) (h2 : m ≤ 15) (hl : LiesI w a fq) (hlen : (fq.length : Int) ≤ 9223372036854775807) (hg : ¬ goodF fq) (Q : Ending → World → Prop) (hQ : Q (.returned (.tuple #[.slice none 0 0, .bool false])) w) :
    Calls Tryz.prog 111 #[.slice a fq.length c, .int .i64 m] w Q := by
  have HQ := hide hQ
  clear hQ
  have C := hide (mayFreq_no a c fq w hl hlen hg)
  clear hl hg
  have h3 : ¬ m < 1 := by omega
  have h4 : ¬ 15 < m := by omega
  go_enter Tryz.func111, Tryz.ntmps111
  go_wp2_with fail
  refine C.out.mono ?_
  rintro e w2 ⟨rfl, rfl⟩
  go_wp2
  exact HQ.out
theorem outM_new (w : World) (zs : Array Value) (n : Nat) (h1 : zs.size = n) (h2 : ∀ i, i < n → zs[i]? = some (.int .i64 0)) : OutM (w.alloc (.cells zs 3)) w.heap.size (zeros n) := by
  refine ⟨zs, heap_alloc_at rfl, by simp [zeros, h1], fun k hk => ?_⟩
  rw [at0_zeros]
  exact h2 k (by simpa [zeros] using hk)
set_option maxHeartbeats 3200000 in
set_option maxRecDepth 100000 in
theorem lengths_good (a : Option Addr) (c : Nat) (fq : List Int) (L : Nat) (w : World) (h1 : 1 ≤ L) (h2 : L ≤ 15) (hl : LiesI w a fq) (hg : goodF fq) (Q : Ending → World → Prop)
    (q0 : 2 ^ L < (posL fq fq.length).length → ∀ w', Fr (fun _ => False) w w' → Q (.returned (.tuple #[.slice none 0 0, .bool false])) w')
    (q1 : (posL fq fq.length).length ≤ 2 ^ L → ∀ g o w', OutM w' g o → LenOk fq L o → w.heap.size ≤ g → Fr (fun _ => False) w w' → Q (.returned (.tuple #[.slice (some ⟨g, 0, none⟩) fq.length fq.length, .bool true])) w') :
    Calls Tryz.prog 111 #[.slice a fq.length c, .int .i64 (L : Int)] w Q := by
  have h320 := hg.1
  have CG := hide (mayFreq_ok a c fq w hl hg)
  have Hl := hide hl
  have Hg := hide hg
  have Q0 := hide q0
  have Q1 := hide q1
  clear hl hg q0 q1
  obtain ⟨zs, hmk, hzs, hz0⟩ := makeInts fq.length (by omega)
  have Hzs := hide hzs
  have Hz0 := hide hz0
  clear hzs hz0
  obtain ⟨P2, hP2⟩ : ∃ P2, P2 = 2 ^ L := ⟨_, rfl⟩
  have hPi : (2:Int) ^ L = (P2 : Int) := by rw [hP2]; simp
  have hPb : P2 ≤ 32768 := by rw [hP2]; exact Nat.pow_le_pow_right (by decide) h2 
  have HP2 := hide hP2
  rw [← hP2] at Q0 Q1
  clear hP2
  have h3 : ¬ (L : Int) < 1 := by omega
  have h4 : ¬ 15 < (L : Int) := by omega
  go_enter Tryz.func111, Tryz.ntmps111
  go_wp2_with fail
  refine CG.out.mono ?_
  rintro e w2 ⟨rfl, rfl⟩
  go_wp2_with fail
  refine rarest_c a c fq w Hl.out h320 _ ?_ ?_
  · intro hp w2 hF
    have HF := hide hF
    have Hp := hide hp
    clear hF hp
    obtain ⟨w3, hw3⟩ : ∃ w3, w3 = w2.alloc (.cells zs 3) := ⟨_, rfl⟩
    obtain ⟨G, hG⟩ : ∃ G, G = w2.heap.size := ⟨_, rfl⟩
    have hmk2 := hmk w2
    rw [← hw3, ← hG] at hmk2
    have HG := hide hG
    have HO : Hid (OutM w3 G (zeros fq.length)) := by rw [hw3, hG]; exact outM_new w2 zs _ Hzs.out Hz0.out
    have HF3 : Hid (Fr (fun _ => False) w w3) := by rw [hw3]; exact HF.out.join (Fr.of_alloc _ _)
    have hP0 : ¬ ((P2 : Int) < 0) := by omega
    clear hmk hw3 hG
    go_wp2
    exact Q1.out (by rw [Hp.out]; simp) G _ w3 HO.out (lenOk_none fq L Hp.out) (by have := HF.out.size; have := HG.out; omega) HF3.out
  · intro g c' d w2 hD hp hs hc hgs hF
    have hds : d.size = (posL fq fq.length).length := by have := hp.length_eq; simpa using this
    have HD := hide hD
    have Hp := hide hp
    have Hs := hide hs
    have HF := hide hF
    have Hgs := hide hgs
    have Hc := hide hc
    have Hds := hide hds
    have hsm := hD.small
    clear hD hp hs hF hgs hc hds
    obtain ⟨n, hn⟩ : ∃ n, n = d.size := ⟨_, rfl⟩
    rw [← hn] at Hc Hds hsm ⊢
    have Hn := hide hn
    clear hn
    by_cases hbig : P2 < n
    · go_wp2
      exact Q0.out (by have := Hds.out; omega) w2 HF.out
    · obtain ⟨w3, hw3⟩ : ∃ w3, w3 = w2.alloc (.cells zs 3) := ⟨_, rfl⟩
      obtain ⟨G, hG⟩ : ∃ G, G = w2.heap.size := ⟨_, rfl⟩
      have hmk2 := hmk w2
      rw [← hw3, ← hG] at hmk2
      have HG := hide hG
      have hO : OutM w3 G (zeros fq.length) := by rw [hw3, hG]; exact outM_new w2 zs _ Hzs.out Hz0.out
      have hF23 : Fr (fun _ => False) w2 w3 := by rw [hw3]; exact Fr.of_alloc _ _
      have hs3 : w3.heap.size = G + 1 := by rw [hw3, hG]; simp
      have HF3 := hide (HF.out.join hF23)
      have HD3 := hide (HD.out.keep hF23 (fun h => h))
      have HO := hide hO
      have hwG : w.heap.size ≤ G := by have := HF.out.size; omega
      have hgG : g < G := by obtain ⟨cs, h, _⟩ := HD.out.eobj; have := lt_of h; omega
      have Hlow : Hid (∀ i, i < n → d[i]! < fq.length ∧ 0 < at0 fq d[i]!) := by
        intro i hi
        have hi' : i < d.size := by have := Hn.out; omega
        have hm : d[i]! ∈ d.toList := by
          have : d[i]! = d.toList[i]'(by simpa using hi') := by simp [hi']
          rw [this]
          exact List.getElem_mem _
        exact (posL_mem fq fq.length _).1 (Hp.out.mem_iff.1 hm)
      have Hs3 := hide hs3
      clear hmk hw3 hG hO hF23 hs3
      by_cases h1n : n = 1
      · subst h1n
        have hcu := HD3.out.cell (j := 0) (by have := Hn.out; omega)
        have hul := (Hlow.out 0 (by omega)).1
        have hpo : posL fq fq.length = [d[0]!] := by
          have e : d.toList = [d[0]!] := by
            have h := Hn.out
            obtain ⟨l⟩ := d
            match l, h with
            | [x], _ => rfl
          have h := Hp.out
          rw [e] at h
          exact (List.perm_singleton.1 h.symm)
        obtain ⟨u, hu⟩ : ∃ u, u = d[0]! := ⟨_, rfl⟩
        rw [← hu] at hcu hul hpo
        obtain ⟨hcu2, hfz⟩ := HO.out.cell (k := u) (by simp [zeros]; exact hul)
        rw [at0_zeros] at hcu2
        have Hpo := hide hpo
        clear hpo hu
        go_wp2
        exact Q1.out (by have := Hds.out; omega) G _ _ (HO.out.set (k := u) (by simp [zeros]; exact hul) 1) (lenOk_one fq L u h1 Hpo.out) hwG (HF3.out.join_new ((Fr.of_setCell _ _ _).mono fun i _ e => by subst e; exact hwG))
      · by_cases h0n : n = 0
        · subst h0n
          go_wp2
          exact Q1.out (by have := Hds.out; omega) G _ w3 HO.out (lenOk_none fq L (List.length_eq_zero_iff.1 Hds.out.symm)) hwG HF3.out
        · have hul : d.toList.length = n := by have := Hn.out; simp; omega
          have Hge : Hid (∀ j, j < n → d.toList.getD j 0 = d[j]!) := by
            intro j hj
            have hj' : j < d.size := by have := Hn.out; omega
            simp [hj']
          have CS := hide (symbolItems_c a (some ⟨g, 0, none⟩) c c' fq d.toList w3 (Hl.out.keep HF3.out (fun _ _ _ h => h)) (by
            intro j hj
            rw [hul] at hj
            refine ⟨⟨g, 0, none⟩, rfl, ?_⟩
            rw [Hge.out j hj]
            have := HD3.out.cell (j := j) (by have := Hn.out; omega)
            rw [add_none]
            simpa using this) (by omega) (by
            intro u hu
            have := (posL_mem fq fq.length u).1 (Hp.out.mem_iff.1 hu)
            exact ⟨this.1, by omega⟩))
          rw [hul] at CS
          go_wp2_with fail
          refine CS.out.mono ?_
          rintro e w4 ⟨pa, pc, rfl, hO4, hF4⟩
          have HS : Hid (Syms (items fq d.toList) L) := items_syms Hs.out (by have := Hn.out; omega) (by have := Hn.out; have := HP2.out; omega) h1
          obtain ⟨S, hS⟩ : ∃ S, S = items fq d.toList := ⟨_, rfl⟩
          have hSl : S.length = n := by rw [hS]; simp [items]; have := Hn.out; omega
          have hO4' : w4.ownsRow w3.heap.size 197 2 (.slice pa n pc) n (cellsT S) := by rw [hS]; exact hO4
          have Hw : Hid (∀ x ∈ S, x.1 ≤ 1048576) := by
            intro x hx
            rw [hS] at hx
            simp only [items, List.mem_map] at hx
            obtain ⟨u, hu, rfl⟩ := hx
            have h5 := (posL_mem fq fq.length u).1 (Hp.out.mem_iff.1 hu)
            have := Hg.out.2 u h5.1
            show (at0 fq u).toNat ≤ 1048576
            omega
          have HLT := hide (own_liesT hO4' hSl.symm)
          have hpc : n ≤ pc ∧ (pa = none → pc = 0) := by
            rcases hO4'.2 with ⟨hv, e0⟩ | ⟨g, cap, cur, hv, hg, hh, hr, _⟩
            · obtain ⟨e1, e2, e3⟩ := Value.slice.inj hv
              exact ⟨by omega, fun _ => e3⟩
            · obtain ⟨e1, e2, e3⟩ := Value.slice.inj hv
              exact ⟨by omega, fun h => by rw [h] at e1; cases e1⟩
          have Hpb : Hid (∀ ad, pa = some ad → w3.heap.size ≤ ad.block ∧ ad.block < w4.heap.size) := fun ad e => hO4'.lt ad.block (by rw [e]; rfl)
          have CM := hide (mergedRows_c pa pc L w3.heap.size S w4 HLT.out (by omega) hpc.2 (by omega) h1 h2 Hw.out (fun ad e _ => (Hpb.out ad e).1) hF4.size)
          rw [hSl] at CM
          have HF4 := hide hF4
          have HSl := hide hSl
          have HSe := hide hS
          rw [← hS] at HS
          clear hO4 hO4' hF4 hpc hS hSl
          go_wp2_with fail
          refine CM.out.mono ?_
          rintro e w5 ⟨ra, rp, vals, rfl, hov, hR, hF5⟩
          have HF35 := hide (HF4.out.join hF5)
          have hz : (zeros fq.length).length = fq.length := by simp [zeros]
          have CL := hide (lengthen_c G g fq.length c' L w3.heap.size rp ra S d (zeros fq.length) vals w5 HS.out h2 (HO.out.keep HF35.out (fun h => h)) (HD3.out.keep HF35.out (fun h => h)) (by rw [HSl.out]; exact Hn.out.symm) (⟨hov.1, hov.2.imp id fun ⟨g, cap, cur, y1, y2, y3⟩ => ⟨g, cap, cur, y1, Nat.le_trans HF4.out.size y2, y3⟩⟩) hR (by have := Hs3.out; omega) (by omega) (by
            intro i hi
            rw [HSl.out] at hi
            rw [hz]
            exact (Hlow.out i hi).1) (by
            intro i j hi hj e
            rw [HSl.out] at hi hj
            have hi' : i < d.size := by have := Hn.out; omega
            have hj' : j < d.size := by have := Hn.out; omega
            have e1 : d[i]! = d.toList[i]'(by simpa using hi') := by simp [hi']
            have e2 : d[j]! = d.toList[j]'(by simpa using hj') := by simp [hj']
            rw [e1, e2] at e
            have hnd := List.pairwise_iff_getElem.1 (Hp.out.nodup_iff.2 (posL_nodup _ _))
            rcases Nat.lt_trichotomy i j with h | h | h
            · exact absurd e (hnd i j _ _ h)
            · exact h
            · exact absurd e.symm (hnd j i _ _ h)) (by
            refine ⟨fun k _ _ => at0_zeros _ _, fun i _ => ?_, fun _ => ?_, fun h => absurd h (by decide)⟩
            · rw [at0_zeros]; simp [ln]
            · exact (nxk_zeros _ _).trans (by simp)) (by rw [HSl.out]; exact Hc.out) (by rw [HSl.out]; exact hsm))
          rw [HSl.out, hz] at CL
          clear hov hR hF5
          go_wp2_with fail
          refine CL.out.mono ?_
          rintro e w6 ⟨rfl, o, hol, hOM, hLS, hF6⟩
          have HQ := hide (Q1.out (by have := Hds.out; omega) G o w6 hOM (lenOk_many Hp.out Hs.out (by have := Hn.out; omega) (by have := Hn.out; have := HP2.out; omega) h1 hol (by rw [← HSe.out]; exact hLS)) hwG ((HF3.out.join HF35.out).join_new (hF6.mono fun i _ e => by subst e; exact hwG)))
          clear hOM hLS hF6 hol
          go_wp2
          exact HQ.out
theorem lengths_c (a : Option Addr) (c : Nat) (fq : List Int) (m : Int) (w : World) (hl : LiesI w a fq) (hlen : (fq.length : Int) ≤ 9223372036854775807) (Q : Ending → World → Prop)
    (q0 : ¬ (1 ≤ m ∧ m ≤ 15 ∧ goodF fq ∧ (posL fq fq.length).length ≤ 2 ^ m.toNat) → ∀ w', Fr (fun _ => False) w w' → Q (.returned (.tuple #[.slice none 0 0, .bool false])) w')
    (q1 : 1 ≤ m → m ≤ 15 → goodF fq → (posL fq fq.length).length ≤ 2 ^ m.toNat → ∀ g o w', OutM w' g o → LenOk fq m.toNat o → w.heap.size ≤ g → Fr (fun _ => False) w w' → Q (.returned (.tuple #[.slice (some ⟨g, 0, none⟩) fq.length fq.length, .bool true])) w') :
    Calls Tryz.prog 111 #[.slice a fq.length c, .int .i64 m] w Q := by
  by_cases h1 : m < 1
  · exact lengths_most a c fq m w (Or.inl h1) Q (q0 (fun h => by omega) w (Fr.refl _ _))
  by_cases h2 : 15 < m
  · exact lengths_most a c fq m w (Or.inr h2) Q (q0 (fun h => by omega) w (Fr.refl _ _))
  by_cases hg : goodF fq
  · obtain ⟨L, rfl⟩ : ∃ L : Nat, m = (L : Int) := ⟨m.toNat, by omega⟩
    simp only [Int.toNat_natCast] at q0 q1
    exact lengths_good a c fq L w (by omega) (by omega) hl hg Q (fun h => q0 (fun h2 => by omega)) (fun h => q1 (by omega) (by omega) hg h)
  · exact lengths_bad a c fq m w (by omega) (by omega) hl hlen hg Q (q0 (fun h => hg h.2.2.1) w (Fr.refl _ _))
end Go.Proofs.YtdpmpllbdoefdaaGreatDoor
namespace Go.Proofs.YtdpmpllbdoefdaaGreatDoor
open Go.RowKit
def trimN (ls : List Int) (fewest : Nat) : Nat → Nat
  | 0 => 0
  | n + 1 => if fewest < n + 1 ∧ at0 ls n = 0 then trimN ls fewest n else n + 1
theorem trimN_ok (ls : List Int) (fewest : Nat) : ∀ n, (∀ i, n ≤ i → at0 ls i = 0) → trimN ls fewest n ≤ n ∧ (fewest ≤ n → fewest ≤ trimN ls fewest n) ∧ ∀ i, trimN ls fewest n ≤ i → at0 ls i = 0 := by
  intro n
  induction n with
  | zero => intro h; exact ⟨Nat.le_refl _, fun h => h, h⟩
  | succ n ih =>
    intro h
    simp only [trimN]
    split
    · next hc =>
      obtain ⟨a, b, c⟩ := ih (fun i hi => by
        rcases Nat.lt_or_ge n i with h1 | h1
        · exact h i h1
        · obtain rfl : i = n := by omega
          exact hc.2)
      exact ⟨by omega, fun h1 => b (by omega), c⟩
    · exact ⟨Nat.le_refl _, fun h => h, h⟩
theorem at0_end (ls : List Int) : ∀ i, ls.length ≤ i → at0 ls i = 0 := fun i hi => by
  unfold at0
  rw [List.getD_eq_getElem?_getD, List.getElem?_eq_none hi]
  rfl
def trim (ls : List Int) (fewest : Nat) : List Int := ls.take (trimN ls fewest ls.length)
theorem trim_at (ls : List Int) (fewest i : Nat) : at0 (trim ls fewest) i = at0 ls i := by
  obtain ⟨h1, _, h3⟩ := trimN_ok ls fewest ls.length (at0_end ls)
  unfold trim
  by_cases hi : i < trimN ls fewest ls.length
  · unfold at0
    simp only [List.getD_eq_getElem?_getD]
    rw [List.getElem?_take_of_lt hi]
  · rw [h3 i (by omega), at0_end _ i (by simp; omega)]
theorem trim_len (ls : List Int) (fewest : Nat) : (trim ls fewest).length = trimN ls fewest ls.length := by
  obtain ⟨h1, _, _⟩ := trimN_ok ls fewest ls.length (at0_end ls)
  unfold trim
  simp
  omega
theorem rank_congr {ls ms : List Int} (h : ∀ i, at0 ls i = at0 ms i) (n k : Nat) : rank ls n k = rank ms n k := by
  induction k with
  | zero => rfl
  | succ k ih => simp only [rank, ih, h]
theorem rank_more {ls : List Int} {n k j : Nat} (hn : 1 ≤ n) (hk : ∀ i, k ≤ i → at0 ls i = 0) (hj : k ≤ j) : rank ls n j = rank ls n k := by
  induction j with
  | zero => obtain rfl : k = 0 := by omega
            rfl
  | succ j ih =>
    rcases Nat.lt_or_ge j k with h | h
    · obtain rfl : k = j + 1 := by omega
      rfl
    · simp only [rank]
      rw [ih h, hk j h, if_neg (by omega)]
      rfl
theorem cnt_congr {ls ms : List Int} (h : ∀ i, at0 ls i = at0 ms i) (n : Nat) (hn : 1 ≤ n) : cnt ls n = cnt ms n := by
  unfold cnt
  rcases Nat.le_total ls.length ms.length with hl | hl
  · rw [rank_congr h, rank_more hn (k := ls.length) (fun i hi => (h i).symm.trans (at0_end ls i hi)) hl]
  · rw [← rank_congr h n ms.length, rank_more hn (k := ms.length) (fun i hi => (h i).trans (at0_end ms i hi)) hl]
theorem frk_congr {ls ms : List Int} (h : ∀ i, at0 ls i = at0 ms i) (n : Nat) : frk ls n = frk ms n := by
  induction n with
  | zero => rfl
  | succ n ih => rw [frk_succ, frk_succ, ih, cnt_congr h (n + 1) (by omega)]
theorem tot_congr {ls ms : List Int} (h : ∀ i, at0 ls i = at0 ms i) (n : Nat) : tot ls n = tot ms n := by
  induction n with
  | zero => rfl
  | succ n ih => rw [tot_succ, tot_succ, ih, cnt_congr h (n + 1) (by omega)]
theorem trim_cok {ls : List Int} (fewest : Nat) (h : Cok ls) : Cok (trim ls fewest) := by
  have hl := (trimN_ok ls fewest ls.length (at0_end ls)).1
  refine ⟨⟨by rw [trim_len]; have := h.good.1; omega, fun i hi => ?_⟩, ?_⟩
  · rw [trim_at]
    rw [trim_len] at hi
    exact h.good.2 i (by omega)
  · have hc := h.code
    unfold codeOk at hc ⊢
    rw [frk_congr (trim_at ls fewest), tot_congr (trim_at ls fewest), cnt_congr (trim_at ls fewest) 1 (by omega)]
    exact hc
set_option maxHeartbeats 800000 in
set_option maxRecDepth 100000 in
theorem trimmed_c (a : Option Addr) (c : Nat) (ls : List Int) (fewest : Nat) (w : World) (hl : LiesI w a ls) (hlen : ls.length ≤ 320) (hc : ls.length ≤ c) (hf : fewest ≤ 320) :
    Calls Tryz.prog 112 #[.slice a ls.length c, .int .i64 (fewest : Int)] w fun e w' => e = .returned (.slice a (trim ls fewest).length c) ∧ w = w' := by
  rw [trim_len]
  obtain ⟨N, hN⟩ : ∃ N, N = ls.length := ⟨_, rfl⟩
  rw [← hN] at hlen hc ⊢
  have HL := hide hl
  have HN := hide hN
  have hNi : (N : Int) ≤ 320 := by omega
  have hfi : (fewest : Int) ≤ 320 := by omega
  have hci : (N : Int) ≤ (c : Int) := by omega
  clear hl hN
  go_enter Tryz.func112, Tryz.ntmps112
  go_wp2_with fail
  go_loop [5] (fun t => ∃ n : Nat, t = .int .i64 (n : Int) ∧ n ≤ N ∧ trimN ls fewest N = trimN ls fewest n) (fun t => (intOf t).toNat)
  case atStart => exact ⟨N, rfl, Nat.le_refl _, rfl⟩
  case round =>
    obtain ⟨n, rfl, hn, ht⟩ := hrel
    have Ht := hide ht
    clear ht
    have hnc : (n : Int) ≤ (c : Int) := by omega
    have hni : (n : Int) ≤ 320 := by omega
    by_cases hlt : fewest < n
    · obtain ⟨m, rfl⟩ : ∃ m, n = m + 1 := ⟨n - 1, by omega⟩
      obtain ⟨ad, rfl, hcell⟩ := HL.out m (by rw [← HN.out]; omega)
      have hlti : (fewest : Int) < (m : Int) + 1 := by omega
      have hmN : (m : Int) < (N : Int) := by omega
      have hmi : (m : Int) ≤ 320 := by omega
      obtain ⟨z, hz⟩ : ∃ z, z = at0 ls m := ⟨_, rfl⟩
      rw [← hz] at hcell
      have Hz := hide hz
      clear hz
      by_cases h0 : z = 0
      · have H0 := hide h0
        subst h0
        go_wp2
        go_round
        case rel =>
          refine ⟨m, by simp, by omega, ?_⟩
          rw [Ht.out, trimN, if_pos ⟨hlt, Hz.out.symm⟩]
        case measure => simp [intOf]
      · have hb : (z == 0) = false := beq_false_of_ne h0
        have hend : trimN ls fewest N = m + 1 := by rw [Ht.out, trimN, if_neg (fun h => h0 (by rw [Hz.out]; exact h.2))]
        rw [hend]
        go_wp2
        go_ret
        exact ⟨rfl, rfl⟩
    · have hlti : ¬ (fewest : Int) < (n : Int) := by omega
      have hend : trimN ls fewest N = n := by
        rw [Ht.out]
        cases n with
        | zero => rfl
        | succ m => rw [trimN, if_neg (fun h => hlt h.1)]
      rw [hend]
      go_wp2
      go_ret
      exact ⟨rfl, rfl⟩
end Go.Proofs.YtdpmpllbdoefdaaGreatDoor
namespace Go.Proofs.YtdpmpllbdoefdaaGreatDoor
open Go.RowKit
theorem LiesI.frS {w w' : World} {S : Nat → Prop} {a : Option Addr} {zs : List Int} (h : LiesI w a zs) (F : Fr S w w') (hn : ∀ ad, a = some ad → ¬ S ad.block) : LiesI w' a zs := fun j hj => by
  obtain ⟨ad, e, hc⟩ := h j hj
  refine ⟨ad, e, ?_⟩
  have hb : (ad.add j).block = ad.block := by unfold Addr.add; split <;> rfl
  rw [cell_blk (F.block _ (cell_lt hc) (by rw [hb]; exact hn ad e))]
  exact hc
set_option maxHeartbeats 800000 in
set_option maxRecDepth 100000 in
theorem newCode_c (a : Option Addr) (n c : Nat) (ls : List Int) (w : World) (hn : n = ls.length) (hl : LiesI w a ls) (hk : Cok ls) :
    Calls Tryz.prog 98 #[.slice a n c] w fun e w' => ∃ C lo hi, e = .returned (codeV a n c C) ∧ Cd w' lo hi C ls ∧ w.heap.size ≤ lo ∧ hi ≤ w'.heap.size ∧ Fr (fun _ => False) w w' := by
  have HL := hide hl
  have HK := hide hk
  have Hn := hide hn
  clear hl hk hn
  go_enter Tryz.func98, Tryz.ntmps98
  go_wp2_with fail
  refine (calls_args (new_ok a c ls (w.alloc (.cells #[.slice none 0 0, .pointer none] 125)) (HL.out.fr (Fr.of_alloc _ _)) HK.out.good HK.out.code) (by rw [← Hn.out])).mono ?_
  rintro e w1 ⟨C, rfl, hC, hF1⟩
  have hlt : w.heap.size < w1.heap.size := by have := hF1.size; simp at this; omega
  have hb : w1.heap[w.heap.size]? = some (.cells #[.slice none 0 0, .pointer none] 125 (0, 0)) := (hF1.block w.heap.size (by simp) (fun e => e)).trans (heap_alloc_at rfl)
  have c0 := cell_of (o := 0) hb rfl
  have c1 := cell_of (o := 1) hb rfl
  have f0 := frozen_of (o := 0) hb
  have f1 := frozen_of (o := 1) hb
  have HF1 := hide ((Fr.of_alloc w _).join hF1)
  have HC := hide hC
  clear hF1 hC hb
  go_wp2
  refine bodyPost_ret (v := .agg #[.slice a n c, .pointer (some ⟨C, 0, none⟩)]) (by simp [results, Tryz.results98, go_sem, c0, c1]) rfl ?_
  refine ⟨C, _, _, rfl, HC.out.keep (((Fr.of_setCell w1 ⟨w.heap.size, 0, none⟩ _).trans (Fr.of_setCell _ ⟨w.heap.size, 1, none⟩ _)).mono (S' := fun i => i = w.heap.size) fun i _ e => e.elim id id) (fun i h1 _ e => by simp at h1; omega), by simp, by simp [World.setCell], fr_set_new (fr_set_new HF1.out (Nat.le_refl _)) (Nat.le_refl _)⟩
theorem outM_lies {w : World} {g : Nat} {o : List Int} (h : OutM w g o) : LiesI w (some ⟨g, 0, none⟩) o := fun j hj => by
  obtain ⟨cs, h1, _, h3⟩ := h.ex
  refine ⟨_, rfl, ?_⟩
  rw [add_none, Nat.zero_add]
  exact cell_of h1 (h3 j hj)
theorem lenOk_cok {fq o : List Int} {L : Nat} (h : LenOk fq L o) (hL : L ≤ 15) (hf : fq.length ≤ 320) : Cok o :=
  ⟨⟨by rw [h.len]; exact hf, fun i hi => by
    rw [h.len] at hi
    by_cases hp : 0 < at0 fq i
    · have := h.pos i hi hp; omega
    · rw [h.zero i hi hp]; omega⟩, h.code⟩
theorem liesI_take {w : World} {a : Option Addr} {ls : List Int} (h : LiesI w a ls) (fewest : Nat) : LiesI w a (trim ls fewest) := fun j hj => by
  obtain ⟨ad, e, hc⟩ := h j (by rw [trim_len] at hj; have := (trimN_ok ls fewest ls.length (at0_end ls)).1; omega)
  exact ⟨ad, e, by rw [trim_at]; exact hc⟩
set_option maxHeartbeats 800000 in
set_option maxRecDepth 100000 in
theorem shortestCode_c (a : Option Addr) (n c : Nat) (fq : List Int) (most fewest : Nat) (w : World) (hn : n = fq.length) (hl : LiesI w a fq) (hg : goodF fq) (hp : (posL fq fq.length).length ≤ 2 ^ most) (hm1 : 1 ≤ most) (hm : most ≤ 15) (hf : fewest ≤ 320) :
    Calls Tryz.prog 97 #[.slice a n c, .int .i64 (most : Int), .int .i64 (fewest : Int)] w fun e w' => ∃ o g C lo hi, LenOk fq most o ∧ e = .returned (codeV (some ⟨g, 0, none⟩) (trim o fewest).length n C) ∧ LiesI w' (some ⟨g, 0, none⟩) (trim o fewest) ∧ w.heap.size ≤ g ∧ g < w'.heap.size ∧ Cd w' lo hi C (trim o fewest) ∧ w.heap.size ≤ lo ∧ hi ≤ w'.heap.size ∧ Fr (fun _ => False) w w' := by
  have HL := hide hl
  have Hg := hide hg
  have Hn := hide hn
  have Hp := hide hp
  have h320 : fq.length ≤ 320 := hg.1
  clear hl hg hn hp
  go_enter Tryz.func97, Tryz.ntmps97
  go_wp2_with fail
  refine calls_args (lengths_c a c fq (most : Int) (w.alloc (.cells #[.slice none 0 0, .pointer none] 125)) (HL.out.fr (Fr.of_alloc _ _)) (by omega) _ (fun h => absurd ⟨by omega, by omega, Hg.out, by simpa using Hp.out⟩ h) ?_) (by rw [← Hn.out])
  intro _ _ _ _ g o w1 hO hLen hgs hF1
  rw [← Hn.out]
  have hLen' : LenOk fq most o := by simpa using hLen
  have hok := lenOk_cok hLen' hm h320
  have hlo := outM_lies hO
  have hol : o.length = n := by rw [hLen'.len, Hn.out]
  have hlt : w.heap.size < w1.heap.size := by have := hF1.size; simp at this; omega
  have hb : w1.heap[w.heap.size]? = some (.cells #[.slice none 0 0, .pointer none] 125 (0, 0)) := (hF1.block w.heap.size (by simp) (fun e => e)).trans (heap_alloc_at rfl)
  have hgl : g < w1.heap.size := by obtain ⟨cs, h1, _, _⟩ := hO.ex; exact lt_of h1
  have hgw : w.heap.size < g := by simp at hgs; omega
  have HF1 := hide ((Fr.of_alloc w _).join hF1)
  have Hlen := hide hLen'
  have Hok := hide hok
  have Hlo := hide hlo
  have Hol := hide hol
  have Hb := hide hb
  clear hO hLen hLen' hok hlo hgs hF1 hol hb
  go_wp2_with fail
  refine (calls_args (trimmed_c (some ⟨g, 0, none⟩) n o fewest w1 Hlo.out (by rw [Hlen.out.len]; exact h320) (by rw [Hol.out]; exact Nat.le_refl _) hf) (by rw [Hol.out])).mono ?_
  rintro e w2 ⟨rfl, rfl⟩
  go_wp2_with fail
  refine (calls_args (newCode_c (some ⟨g, 0, none⟩) (trim o fewest).length n (trim o fewest) w1 rfl (liesI_take Hlo.out fewest) (trim_cok fewest Hok.out)) (by rfl)).mono ?_
  rintro e w3 ⟨C, lo, hi, rfl, hC, hlo1, hhi, hF3⟩
  have hb3 := cells_at Hb.out hF3 (fun e => e)
  have c0 := cell_of (o := 0) hb3 rfl
  have c1 := cell_of (o := 1) hb3 rfl
  have f0 := frozen_of (o := 0) hb3
  have f1 := frozen_of (o := 1) hb3
  have HF3 := hide (HF1.out.join hF3)
  have hs3 := hF3.size
  have HC := hide hC
  have HL3 := hide ((liesI_take Hlo.out fewest).fr hF3)
  clear hF3 hC hb3
  go_wp2
  refine bodyPost_ret (v := .agg #[.slice (some ⟨g, 0, none⟩) (trim o fewest).length n, .pointer (some ⟨C, 0, none⟩)]) (by simp [results, Tryz.results97, go_sem, c0, c1]) rfl ?_
  have fS : Fr (fun i => i = w.heap.size) w3 ((w3.setCell ⟨w.heap.size, 0, none⟩ (.slice (some ⟨g, 0, none⟩) (trim o fewest).length n)).setCell ⟨w.heap.size, 1, none⟩ (.pointer (some ⟨C, 0, none⟩))) :=
    ((Fr.of_setCell w3 ⟨w.heap.size, 0, none⟩ _).trans (Fr.of_setCell _ ⟨w.heap.size, 1, none⟩ _)).mono fun i _ e => e.elim id id
  refine ⟨o, g, C, lo, hi, Hlen.out, rfl, HL3.out.frS fS (fun ad e => by cases e; show ¬ g = w.heap.size; omega), by omega, by simp [World.setCell]; omega, HC.out.keep fS (fun i h1 _ e => by omega), by omega, by simp [World.setCell]; omega, fr_set_new (fr_set_new HF3.out (Nat.le_refl _)) (Nat.le_refl _)⟩
end Go.Proofs.YtdpmpllbdoefdaaGreatDoor
namespace Go.Proofs.YtdpmpllbdoefdaaGreatDoor
open Go.RowKit
def bitsF (ls fq : List Int) : Nat → Int
  | 0 => 0
  | k + 1 => bitsF ls fq k + at0 fq k * at0 ls k
theorem bitsF_bd {ls fq : List Int} (hl : ∀ i, 0 ≤ at0 ls i ∧ at0 ls i ≤ 15) (hf : ∀ i, 0 ≤ at0 fq i ∧ at0 fq i ≤ 1048576) : ∀ k, 0 ≤ bitsF ls fq k ∧ bitsF ls fq k ≤ 15728640 * (k : Int) := by
  intro k
  induction k with
  | zero => simp [bitsF]
  | succ k ih =>
    have h1 := hl k
    have h2 := hf k
    have h3 : 0 ≤ at0 fq k * at0 ls k := Int.mul_nonneg h2.1 h1.1
    have h4 : at0 fq k * at0 ls k ≤ 1048576 * 15 := Int.mul_le_mul h2.2 h1.2 h1.1 (by omega)
    simp only [bitsF]
    omega
theorem at_all {ls : List Int} (h : good ls) (i : Nat) : 0 ≤ at0 ls i ∧ at0 ls i ≤ 15 := by
  by_cases hi : i < ls.length
  · exact h.2 i hi
  · rw [at0_end ls i (by omega)]; omega
theorem atF_all {fq : List Int} (h : goodF fq) (i : Nat) : 0 ≤ at0 fq i ∧ at0 fq i ≤ 1048576 := by
  by_cases hi : i < fq.length
  · exact h.2 i hi
  · rw [at0_end fq i (by omega)]; omega
set_option maxHeartbeats 800000 in
set_option maxRecDepth 100000 in
theorem codeBits_c (lo hi' C : Nat) (ls fq : List Int) (a1 : Option Addr) (n1 c1 : Nat) (a : Option Addr) (n c : Nat) (w : World) (hC : Cd w lo hi' C ls) (hn : n = fq.length) (hl : LiesI w a fq) (hg : goodF fq) :
    Calls Tryz.prog 103 #[codeV a1 n1 c1 C, .slice a n c] w fun e w' => e = .returned (.int .i64 (bitsF ls fq n)) ∧ Fr (fun _ => False) w w' := by
  obtain ⟨w1, hw1⟩ : ∃ w1, w1 = w.alloc (.cells #[.slice a1 n1 c1, .pointer (some ⟨C, 0, none⟩)] 125) := ⟨_, rfl⟩
  have hF1 : Fr (fun _ => False) w w1 := by rw [hw1]; exact Fr.of_alloc _ _
  have hb1 : w1.heap[w.heap.size]? = some (.cells #[.slice a1 n1 c1, .pointer (some ⟨C, 0, none⟩)] 125 (0, 0)) := by rw [hw1]; exact heap_alloc_at rfl
  have HF1 := hide hF1
  have Hb1 := hide hb1
  have Hw1 := hide hw1
  have HC1 := hide (hC.keep hF1 (fun _ _ _ e => e))
  have HL1 := hide (hl.fr hF1)
  have Hn := hide hn
  have h320 : n ≤ 320 := by rw [hn]; exact hg.1
  have hni : (n : Int) ≤ 320 := by omega
  have Hbd := hide (bitsF_bd (at_all hC.egood) (atF_all hg))
  have Ha := hide (at_all hC.egood)
  have Hf := hide (atF_all hg)
  clear hC hl hn hg hF1 hb1 hw1
  go_enter Tryz.func103, Tryz.ntmps103
  go_wp2_with fail
  rw [← Hw1.out]
  go_loopw [5, 6, 7, 8, 9, 10, 13] (fun ts _ _ _ _ _ ti wr => ∃ i : Nat, ti = .int .i64 (i : Int) ∧ ts = .int .i64 (bitsF ls fq i) ∧ i ≤ n ∧ Fr (fun _ => False) w1 wr) (fun _ _ _ _ _ _ ti _ => n - (intOf ti).toNat)
  case atStart => exact ⟨0, rfl, rfl, Nat.zero_le _, Fr.refl _ _⟩
  case round =>
    obtain ⟨i, rfl, rfl, hi, hF⟩ := hrel
    have HF := hide hF
    have hk := cells_at Hb1.out hF (fun e => e)
    have k1 := cell_of (o := 1) hk rfl
    clear hF hk
    by_cases hlt : i < n
    · have hlti : (i : Int) < (n : Int) := by omega
      obtain ⟨ad, rfl, cx⟩ := (HL1.out.fr HF.out) i (by rw [← Hn.out]; exact hlt)
      obtain ⟨S, hS⟩ : ∃ S, S = bitsF ls fq i := ⟨_, rfl⟩
      have hSb := Hbd.out i
      have hSb2 := Hbd.out (i + 1)
      have hnx : bitsF ls fq (i + 1) = S + at0 fq i * at0 ls i := by rw [bitsF, hS]
      rw [hnx] at hSb2
      rw [← hS] at hSb ⊢
      obtain ⟨x, hx⟩ : ∃ x, x = at0 fq i := ⟨_, rfl⟩
      obtain ⟨y, hy⟩ : ∃ y, y = at0 ls i := ⟨_, rfl⟩
      have hxb := Hf.out i
      have hyb := Ha.out i
      rw [← hx] at cx hnx hSb2 hxb
      rw [← hy] at hnx hSb2 hyb
      have hm0 : 0 ≤ x * y := Int.mul_nonneg hxb.1 hyb.1
      have hm1 : x * y ≤ 1048576 * 15 := Int.mul_le_mul hxb.2 hyb.2 hyb.1 (by omega)
      have hs1 : S ≤ 15728640 * 320 := by omega
      obtain ⟨hs0, _⟩ := hSb
      have hwd : ∀ W, Cd W lo hi' C ls → Calls Tryz.prog 116 #[.pointer (some ⟨C, 0, none⟩), .int .i64 (i : Int)] W fun e w' => ∃ u v, e = .returned (.tuple #[.int .i64 u, .int .i64 y, .bool v]) ∧ Fr (fun _ => False) W w' := by
        intro W hW
        by_cases hil : i < ls.length
        · refine (word_in lo hi' C i ls W hW hil).mono ?_
          rintro e w' ⟨rfl, hf⟩
          rw [← hy]
          exact ⟨_, _, rfl, hf⟩
        · have y0 : y = 0 := by rw [hy, at0_end ls i (by omega)]
          refine (word_out lo hi' C (i : Int) ls W hW (Or.inr (by omega))).mono ?_
          rintro e w' ⟨rfl, hf⟩
          rw [y0]
          exact ⟨_, _, rfl, hf⟩
      have Hwd := hide hwd
      have Hnx := hide hnx
      clear hwd hnx hS hx hy hSb2
      go_wp2_with fail
      refine (calls_args (Hwd.out wr (HC1.out.keep HF.out (fun _ _ _ e => e))) (by rfl)).mono ?_
      rintro e w2 ⟨u, v, rfl, hF2⟩
      have HF2 := hide (HF.out.join hF2)
      clear hF2
      go_wp2
      go_roundw
      case rel => exact ⟨i + 1, by go_num, by rw [Hnx.out], by omega, HF2.out⟩
      case measure => simp [intOf]; omega
    · obtain rfl : i = n := by omega
      go_wp2
      go_ret
      exact ⟨rfl, HF1.out.join HF.out⟩
end Go.Proofs.YtdpmpllbdoefdaaGreatDoor
namespace Go.Proofs.YtdpmpllbdoefdaaGreatDoor
open Go.RowKit
theorem and_u64 (n : Nat) (hn : n < 4294967296) : bits .and .u64 (n : Int) 4294967295 = (n : Int) := by
  have e1 : (BitVec.ofInt 64 (n : Int)).toNat = n := by rw [BitVec.toNat_ofInt]; omega
  have e2 : (BitVec.ofInt 64 (4294967295 : Int)).toNat = 4294967295 := by decide
  have e3 : (BitVec.ofInt 64 (n : Int) &&& BitVec.ofInt 64 (4294967295 : Int)).toNat = n := by
    rw [BitVec.toNat_and, e1, e2]
    have : n &&& (2 ^ 32 - 1) = n % 2 ^ 32 := Nat.and_two_pow_sub_one_eq_mod n 32
    rw [show (4294967295 : Nat) = 2 ^ 32 - 1 from rfl, this]
    omega
  have e4 : bits .and .u64 (n : Int) 4294967295 = IntKind.u64.wrap ((n : Nat) : Int) := congrArg (fun k : Nat => IntKind.u64.wrap (k : Int)) e3
  rw [e4]
  show (n : Int) % 18446744073709551616 = n
  omega
set_option maxHeartbeats 800000 in
set_option maxRecDepth 100000 in
theorem mul64_c (n : Nat) (hn : n ≤ 1000000) (w : World) : Calls Tryz.prog 120 #[.int .u64 1, .int .u64 (n : Int)] w fun e w' => e = .returned (.tuple #[.int .u64 0, .int .u64 (n : Int)]) ∧ w = w' := by
  have h0 : bits .and .u64 0 4294967295 = 0 := by decide
  have h1 : bits .and .u64 1 4294967295 = 1 := by decide
  have h2 := and_u64 n (by omega)
  have h3 : (n : Int) / 4294967296 = 0 := by omega
  have h4 : ((n : Int) / 2 ^ 32) = 0 := by omega
  go_enter Tryz.func120, Tryz.ntmps120
  go_wp2
  go_ret2
  exact ⟨rfl, rfl⟩
set_option maxHeartbeats 800000 in
set_option maxRecDepth 100000 in
theorem mul_c (n : Nat) (hn : n ≤ 1000000) (w : World) : Calls Tryz.prog 108 #[.int .u64 1, .int .u64 (n : Int)] w fun e w' => e = .returned (.tuple #[.int .u64 0, .int .u64 (n : Int)]) ∧ w = w' := by
  go_enter Tryz.func108, Tryz.ntmps108
  go_wp2_with fail
  refine (mul64_c n hn w).mono ?_
  rintro e w1 ⟨rfl, rfl⟩
  go_wp2
  go_ret2
  exact ⟨rfl, rfl⟩
theorem makeI_c (n : Nat) (hn : n ≤ 1000000) : ∃ zs : List Value, (∀ W : World, (Instr.makeSlice 81 (.int .i64 (n : Int)) (.int .i64 (n : Int))).run Tryz.prog W = .ok (.slice (some ⟨W.heap.size, 0, none⟩) n n) (W.alloc (.cells zs.toArray 3))) ∧ zs.length = n := by
  obtain ⟨i0, hi, hz0, hz1, hz2⟩ := info_parts Tryz.info3
  refine ⟨(madeCells (Value.int .i64 0).cells n).toList, fun W => ?_, by simp [size_madeCells]⟩
  have := run_make (P := Tryz.prog) W 81 3 i0 (.int .i64 0) Tryz.underlying81 hi hz0 .i64 .i64 n n (by omega) (Int.le_refl _) (by rw [hz2]; omega) (by omega)
  rw [hz1] at this
  simpa using this
theorem take_repV {v : Value} {zs : List Value} {k m : Nat} (h : zs.take k = List.replicate k v) (hm : m ≤ k) : zs.take m = List.replicate m v := by
  have : (zs.take k).take m = (List.replicate k v).take m := by rw [h]
  rwa [List.take_take, List.take_replicate, Nat.min_eq_left hm] at this
theorem splice_rep {v : Value} {zs : List Value} {k m : Nat} (h : zs.take k = List.replicate k v) (hm : m ≤ k) : (splice zs k (zs.take m)).take (k + m) = List.replicate (k + m) v := by
  have e := take_repV h hm
  unfold splice
  rw [h, e, ← List.append_assoc, List.replicate_append_replicate]
  rw [List.take_append_of_le_length (by simp), List.take_of_length_le (by simp)]
theorem wp_copy_splice {P : Program} {o : Oper} {a : Act} {w : World} {K : Act → World → Prop} {Q : Exit → Act → World → Prop} (hgd : o.guard = none) (d s : Operand) (dT sT : TypeId)
    (ho : o.op = .call { callee := .builtin .copy, args := #[d, s], argTypes := #[dT, sT] }) (elem : TypeId) (hu : P.underlying dT = some (.slice elem)) (hsz : (P.info? elem).map (·.size) = some 1)
    (dp sp : Option Addr) (dLen dCap sLen sCap : Nat) (hd : a.eval d = .slice dp dLen dCap) (hs : a.eval s = .slice sp sLen sCap)
    (g off : Nat) (cur : List Value) (t : TypeId) (hg : w.heap[g]? = some (.cells cur.toArray t (0, 0))) (cs : List Value) (hn : cs.length = Nat.min sLen dLen)
    (hpos : 0 < cs.length → dp = some ⟨g, off, none⟩ ∧ ∃ ad, sp = some ad ∧ ∀ j v, cs[j]? = some v → w.cell? (ad.add j) = some v)
    (hfit : off + cs.length ≤ cur.length) (h1 : ∀ v ∈ cs, v.oneCell' = true) (B : Nat) (w0 : World) (hb : Below B w0 w) (hBg : B ≤ g)
    (h : ∀ w', Hid (w'.heap[g]? = some (.cells (splice cur off cs).toArray t (0, 0))) → Below B w0 w' → K (a.put o.dst (goInt cs.length)) w') : o.wp P a w K Q := by
  have hh := step_copy_splice (ops := #[]) (E := False) (Q := Q) hgd d s dT sT ho elem hu hsz dp sp dLen dCap sLen sCap hd hs g off cur t hg cs hn hpos hfit h1 B w0 hb hBg h
  rw [if_pos (by simp [Region.wanted, hgd])] at hh
  exact hh
theorem below_drew {D : Nat} {w w1 : World} (h : Below D w w1) : Below D w w1.drew := ⟨h.os, h.tape, h.output, h.size, h.block⟩
theorem src_take {w : World} {D m : Nat} {zs : List Value} {t : TypeId} (h : w.heap[D]? = some (.cells zs.toArray t (0, 0))) : ∀ j u, (zs.take m)[j]? = some u → w.cell? ((⟨D, 0, none⟩ : Addr).add j) = some u := by
  intro j u hu
  rw [add_none, Nat.zero_add]
  rw [List.getElem?_take] at hu
  split at hu
  · exact cell_of h (by simpa using hu)
  · cases hu
theorem one_take {zs : List Value} {k m : Nat} {v : Int} (h : zs.take k = List.replicate k (.int .i64 v)) (hm : m ≤ k) : ∀ u ∈ zs.take m, u.oneCell' = true := by
  rw [take_repV h hm]
  intro u hu
  rw [List.eq_of_mem_replicate hu]
  rfl
set_option maxHeartbeats 1600000 in
set_option maxRecDepth 100000 in
theorem repeat_c (v : Int) (ad : Addr) (c N : Nat) (w : World) (hx : w.cell? ad = some (.int .i64 v)) (hN : 1 ≤ N ∧ N ≤ 1000) :
    Calls Tryz.prog 92 #[.slice (some ad) 1 c, .int .i64 (N : Int)] w fun e w' => ∃ D, e = .returned (.slice (some ⟨D, 0, none⟩) N N) ∧ w'.heap[D]? = some (.cells (cellsZ (List.replicate N v)).toArray 3 (0, 0)) ∧ w.heap.size ≤ D ∧ Fr (fun _ => False) w w' := by
  obtain ⟨zs, hmk, hzl⟩ := makeI_c N (by omega)
  obtain ⟨i0, hi, hz0, hz1, hz2⟩ := info_parts Tryz.info3
  have hw1 : IntKind.u64.wrap (N : Int) = (N : Int) := by show (N : Int) % 18446744073709551616 = N; omega
  have hw2 : IntKind.i64.wrap (N : Int) = (N : Int) := wrap_i64_id _ (by omega) (by omega)
  have Hzl := hide hzl
  have Hx := hide hx
  clear hzl hx
  go_enter Tryz.func92, Tryz.ntmps92
  go_wp2_with fail
  refine calls_args (mul_c N (by omega) w) rfl |>.mono ?_
  rintro e w1 ⟨rfl, rfl⟩
  obtain ⟨D, hD⟩ : ∃ D, D = w.heap.size := ⟨_, rfl⟩
  have h1c : ∀ j u, [(Value.int .i64 v)][j]? = some u → (w.alloc (.cells zs.toArray 3)).cell? (ad.add j) = some u := by
    intro j u hu
    rcases j with _ | j
    · simp at hu
      subst hu
      have hb := cell_lt Hx.out
      have e0 : ad.add 0 = ad := by unfold Addr.add; simp
      rw [e0, World.cell?_alloc_lt _ _ _ hb]
      exact Hx.out
    · simp at hu
  have hbel : Below w.heap.size w (w.alloc (.cells zs.toArray 3)) := (Below.refl _ _).alloc (Nat.le_refl _) _
  have H1c := hide h1c
  have Hbel := hide hbel
  clear h1c hbel
  have t1 : (Tryz.prog.info? 3).map (·.size) = some 1 := by rw [hi]; simp [hz1]
  have t2 : [(Value.int .i64 v)].length = Nat.min 1 N := by simp [Nat.min_def]; omega
  have t3 : 0 + [(Value.int .i64 v)].length ≤ zs.length := by have := Hzl.out; simp; omega
  have t4 : ∀ x ∈ [(Value.int .i64 v)], x.oneCell' = true := fun x hx => by simp at hx; subst hx; rfl
  have T2 := hide t2
  have T3 := hide t3
  have T4 := hide t4
  clear t2 t3 t4
  go_wp2_with (refine wpList_copy_splice rfl (.tmp 31) (.tmp 32) 81 81 rfl 3 Tryz.underlying81 t1 (some ⟨w.heap.size, 0, none⟩) (some ad) N N 1 c rfl rfl w.heap.size 0 zs 3 (heap_alloc_new _ _) [.int .i64 v] T2.out (fun _ => ⟨rfl, ad, rfl, H1c.out⟩) T3.out T4.out w.heap.size w Hbel.out (Nat.le_refl _) ?_; intro w2 hg2 hb2)
  rw [← hD] at hg2 hb2 ⊢
  have Hs2 : Hid (∃ zs' : List Value, w2.heap[D]? = some (.cells zs'.toArray 3 (0, 0)) ∧ zs'.length = N ∧ zs'.take 1 = List.replicate 1 (.int .i64 v)) := by
    refine ⟨_, hg2.out, ?_, ?_⟩
    · rw [length_splice _ _ _ (by have := Hzl.out; simp; omega)]; exact Hzl.out
    · simp [splice]
  have HB2 := hide hb2
  have HD := hide hD
  clear hg2 hb2 hD
  go_wp2
  go_loopw [8] (fun kv wr => ∃ (k : Nat) (zs' : List Value), 1 ≤ k ∧ k ≤ N ∧ kv = .int .i64 ((k : Nat) : Int) ∧ Hid (wr.heap[D]? = some (.cells zs'.toArray 3 (0, 0))) ∧ Hid (zs'.length = N) ∧ Hid (zs'.take k = List.replicate k (.int .i64 v)) ∧ Hid (Below D w wr)) (fun kv _ => N - (intOf kv).toNat)
  case atStart =>
    obtain ⟨zs', g1, g2, g3⟩ := Hs2.out
    exact ⟨1, zs', by omega, by omega, rfl, g1, g2, g3, HB2.out⟩
  case round =>
    obtain ⟨k, zs', hk1, hk2, rfl, G1, G2, G3, G4⟩ := hrel
    by_cases hlt : k < N
    · have hlti : (k : Int) < (N : Int) := by omega
      have k1 : (k : Int) ≤ (N : Int) := by omega
      have k2 : ¬ N = k := by omega
      obtain ⟨m, hm⟩ : ∃ m, m = Nat.min k (N - k) := ⟨_, rfl⟩
      have hmb : m ≤ k ∧ m ≤ N - k ∧ 1 ≤ m := by rw [hm]; simp only [Nat.min_def]; split <;> omega
      obtain ⟨cs, hcs⟩ : ∃ cs, cs = zs'.take m := ⟨_, rfl⟩
      have hcl : cs.length = m := by rw [hcs]; have := G2.out; simp; omega
      have Hm := hide hm
      have hm1 := hmb.1
      have hm2 := hmb.2.1
      have hm3 := hmb.2.2
      have hfit : k + cs.length ≤ zs'.length := by have := G2.out; omega
      have Hfit := hide hfit
      have S1 : Hid (∀ j u, cs[j]? = some u → wr.drew.cell? ((⟨D, 0, none⟩ : Addr).add j) = some u) := by rw [hcs]; exact src_take G1.out
      have S2 : Hid (∀ u ∈ cs, u.oneCell' = true) := by rw [hcs]; exact one_take G3.out hm1
      have S3 : Hid ((splice zs' k cs).take (k + m) = List.replicate (k + m) (.int .i64 v)) := by rw [hcs]; exact splice_rep G3.out hm1
      have S4 : Hid (cs.length = Nat.min k (N - k)) := by show _ = _; rw [hcl]; exact hm
      clear hm hmb hcs hfit
      go_wp2_with fail
      refine wp_region_held_drew (S := fun _ => True) (by kernel_rfl) trivial (fun hHeld => ?_)
      refine wpAnyH_take (i := 0) (v := ?v0) rfl (by kernel_rfl) (by kernel_rfl) (by kernel_rfl) (fun _ _ _ h => h) (Or.inl ⟨by rfl, ?hy0⟩) hHeld ?rest0
      case hy0 => (intro W hSw; (try dsimp only at hSw); go_simp; all_goals (with_reducible rfl))
      change wpAnyH _ _ _ _ _ _ _ (Act.put _ (some 38) _) _
      simp only [Act.put, List.setIfInBounds_toArray, List.set_cons_zero, List.set_cons_succ]
      refine wpAnyH_take (i := 1) (v := ?v1) rfl (by kernel_rfl) (by kernel_rfl) (by kernel_rfl) (fun _ _ _ h => h) (Or.inl ⟨by rfl, ?hy1⟩) hHeld ?rest1
      case hy1 => (intro W hSw; (try dsimp only at hSw); go_simp; all_goals (with_reducible rfl))
      change wpAnyH _ _ _ _ _ _ _ (Act.put _ (some 39) _) _
      simp only [Act.put, List.setIfInBounds_toArray, List.set_cons_zero, List.set_cons_succ]
      refine wpAnyH_take (i := 2) (v := ?v2) rfl (by kernel_rfl) (by kernel_rfl) (by kernel_rfl) (fun _ _ _ h => h) (Or.inl ⟨by rfl, ?hy2⟩) hHeld ?rest2
      case hy2 => (intro W hSw; (try dsimp only at hSw); go_simp; all_goals (with_reducible rfl))
      change wpAnyH _ _ _ _ _ _ _ (Act.put _ (some 40) _) _
      simp only [Act.put, List.setIfInBounds_toArray, List.set_cons_zero, List.set_cons_succ]
      refine wpAnyH_take (i := 4) (v := ?v4) rfl (by kernel_rfl) (by kernel_rfl) (by kernel_rfl) (fun _ _ _ h => h) (Or.inl ⟨by rfl, ?hy4⟩) hHeld ?rest4
      case hy4 => (intro W hSw; (try dsimp only at hSw); go_simp; all_goals (with_reducible rfl))
      change wpAnyH _ _ _ _ _ _ _ (Act.put _ (some 42) _) _
      simp only [Act.put, List.setIfInBounds_toArray, List.set_cons_zero, List.set_cons_succ]
      refine wpAnyH_take (i := 5) (v := ?v5) rfl (by kernel_rfl) (by kernel_rfl) (by kernel_rfl) (fun _ _ _ h => h) (Or.inl ⟨by rfl, ?hy5⟩) hHeld ?rest5
      case hy5 => (intro W hSw; (try dsimp only at hSw); go_simp; all_goals (with_reducible rfl))
      change wpAnyH _ _ _ _ _ _ _ (Act.put _ (some 43) _) _
      simp only [Act.put, List.setIfInBounds_toArray, List.set_cons_zero, List.set_cons_succ]
      refine wpAnyH_take (i := 3) (v := ?v3) rfl (by kernel_rfl) (by kernel_rfl) (by kernel_rfl) (fun _ _ _ h => h) (Or.inl ⟨by rfl, ?hy3⟩) hHeld ?rest3
      case hy3 => (intro W hSw; (try dsimp only at hSw); go_simp; all_goals (with_reducible rfl))
      change wpAnyH _ _ _ _ _ _ _ (Act.put _ (some 41) _) _
      simp only [Act.put, List.setIfInBounds_toArray, List.set_cons_zero, List.set_cons_succ]
      refine wpAnyH_take (i := 6) (v := ?v6) rfl (by kernel_rfl) (by kernel_rfl) (by kernel_rfl) (fun _ _ _ h => h) (Or.inl ⟨by rfl, ?hy6⟩) hHeld ?rest6
      case hy6 => (intro W hSw; (try dsimp only at hSw); go_simp; all_goals (with_reducible rfl))
      change wpAnyH _ _ _ _ _ _ _ (Act.put _ (some 44) _) _
      simp only [Act.put, List.setIfInBounds_toArray, List.set_cons_zero, List.set_cons_succ]
      refine wpAnyH_ready (rs := [7]) (by kernel_rfl) (by simp) ?_
      refine AllReadyH.cons rfl (fun K hK => ?_) AllReadyH.nil
      try simp only [List.getElem_toArray, List.getElem_cons_succ, List.getElem_cons_zero]
      rw [if_pos (by rfl)]
      refine wp_copy_splice (w := wr.drew) (by rfl) (.tmp 41) (.tmp 44) 81 81 (by rfl) 3 Tryz.underlying81 (by rw [hi]; simp [hz1]) (some ⟨D, k, none⟩) (some ⟨D, 0, none⟩) (N - k) (N - k) k N (by rfl) (by rfl) D k zs' 3 G1.out cs S4.out (fun _ => ⟨rfl, ⟨D, 0, none⟩, rfl, S1.out⟩) Hfit.out S2.out D w (below_drew G4.out) (Nat.le_refl _) ?_
      intro w3 hg3 hb3
      have E3 := hide hg3
      have E4 := hide hb3
      refine hK.out _ _ trivial (fun hHeld => ?_)
      clear hK K
      refine wpAnyH_take (i := 8) (v := ?v8) rfl (by kernel_rfl) (by kernel_rfl) (by kernel_rfl) (fun _ _ _ h => h) (Or.inl ⟨by rfl, ?hy8⟩) hHeld ?rest8
      case hy8 => (intro W hSw; (try dsimp only at hSw); go_simp; all_goals (with_reducible rfl))
      change wpAnyH _ _ _ _ _ _ _ (Act.put _ (some 46) _) _
      simp only [Act.put, List.setIfInBounds_toArray, List.set_cons_zero, List.set_cons_succ]
      refine wpAnyH_take (i := 9) (v := ?v9) rfl (by kernel_rfl) (by kernel_rfl) (by kernel_rfl) (fun _ _ _ h => h) (Or.inl ⟨by rfl, ?hy9⟩) hHeld ?rest9
      case hy9 => (intro W hSw; (try dsimp only at hSw); go_simp; all_goals (with_reducible rfl))
      change wpAnyH _ _ _ _ _ _ _ (Act.put _ (some 8) _) _
      simp only [Act.put, List.setIfInBounds_toArray, List.set_cons_zero, List.set_cons_succ]
      refine wpAnyH_done (by kernel_rfl) ?_ _
      go_wp2
      go_roundw
      case rel => exact ⟨k + m, splice zs' k cs, by omega, by omega, by rw [wrap_i64_id _ (by omega) (by omega)]; simp, E3.out, by show _ = _; rw [length_splice _ _ _ Hfit.out]; exact G2.out, S3.out, E4.out⟩
      case measure => rw [wrap_i64_id _ (by omega) (by omega)]; simp [intOf]; omega
    · have hlti : ¬ (k : Int) < (N : Int) := by omega
      have hke : k = N := by omega
      subst hke
      go_wp2
      go_ret
      have hz : zs' = cellsZ (List.replicate k v) := by
        have h1 := G3.out
        rw [List.take_of_length_le (by have := G2.out; omega)] at h1
        rw [h1]
        simp [cellsZ]
      refine ⟨D, rfl, by rw [← hz]; exact G1.out, by have := HD.out; omega, ?_⟩
      have := HD.out
      exact ⟨G4.out.os, G4.out.tape, G4.out.output, G4.out.size, fun j hj _ => G4.out.block j (by omega)⟩
set_option maxHeartbeats 1600000 in
set_option maxRecDepth 100000 in
theorem grow_c (n : Nat) (hn : 1 ≤ n ∧ n ≤ 100000) (w : World) : Calls Tryz.prog 107 #[.slice none 0 0, .int .i64 (n : Int)] w fun e w' => ∃ a c, e = .returned (.slice a 0 c) ∧ w'.ownsRow w.heap.size 3 1 (.slice a 0 c) 0 (cellsZ []) ∧ Fr (fun _ => False) w w' := by
  obtain ⟨i0, hi, hz0, hz1, hz2⟩ := info_parts Tryz.info3
  have hold : (Builtin.firstCells i0.size 0 (.slice none 0 0)).run Tryz.prog w.drew = .ok ([] : List Value).toArray w.drew := run_firstCells_none w.drew i0.size 0 0 0
  have hrz : ∀ ty, (Builtin.append_ #[81, 3] ty #[.slice none 0 0, .int .i64 (n : Int)]).run Tryz.prog w =
      .ok (.slice (some ⟨w.heap.size, 0, none⟩) n (grownCap w n 0 3)) (w.drew.alloc (.cells (([] : List Value).toArray ++ Builtin.zeroCells (Value.int .i64 0).cells n ++ Builtin.zeroCells (Value.int .i64 0).cells (grownCap w n 0 3 - n)) 3)) := fun ty => by
    have h := Lib.run_append_grow_zeros w 81 3 ty 3 i0 (.int .i64 0) .i64 .i64 Tryz.underlying81 Tryz.underlying3 hi hz0 none 0 0 [] hold n (by omega) (by omega) (by omega) (by omega) (by rw [hz2]; omega) (by rw [Nat.zero_add]; exact growslice_fits (by omega) (by rw [hz2]; omega))
    rw [Nat.zero_add] at h
    exact h
  have hGn : n ≤ grownCap w n 0 3 := grownCap_ge w _ _ _
  have hG63 := grownCap_le_maxLen w n 0 3 (by unfold maxLen; omega)
  obtain ⟨G, hG⟩ : ∃ G, G = grownCap w n 0 3 := ⟨_, rfl⟩
  rw [← hG] at hrz hGn hG63
  have Hrz := hide hrz
  have HG63 := hide hG63
  have hGb : G ≤ 9223372036854775807 := by unfold maxLen at hG63; omega
  clear hold hG hrz hG63
  go_enter Tryz.func107, Tryz.ntmps107
  go_wp2_with (at_builtin; refine Lib.wpList_append_run _ rfl _ _ _ _ rfl _ _ rfl rfl _ _ (Hrz.out _) ?_)
  all_goals
    go_ret
    refine ⟨_, _, rfl, ⟨rfl, Or.inr ⟨w.heap.size, G, _, rfl, Nat.le_refl _, heap_alloc_at rfl, Nat.zero_le _, HG63.out, ?_, rfl⟩⟩, ⟨rfl, rfl, rfl, by simp, fun k hk _ => Below.heap_alloc _ _ _ hk⟩⟩
    simp [Builtin.zeroCells]
    omega
theorem cellsZ_one {zs : List Int} : ∀ u ∈ cellsZ zs, u.oneCell' = true := by
  intro u hu
  simp only [cellsZ, List.mem_map] at hu
  obtain ⟨b, _, rfl⟩ := hu
  rfl
def catTo (Ls : Nat → List Int) : Nat → List Int
  | 0 => []
  | i + 1 => catTo Ls i ++ Ls i
set_option maxHeartbeats 1600000 in
set_option maxRecDepth 100000 in
theorem concat_any (Z m : Nat) (Ds Cs : Nat → Nat) (Ls : Nat → List Int) (w : World) (hc : ∀ i, i < m → w.cell? ⟨Z, i, none⟩ = some (.slice (some ⟨Ds i, 0, none⟩) (Ls i).length (Cs i)))
    (hD : ∀ i, i < m → LiesI w (some ⟨Ds i, 0, none⟩) (Ls i)) (hne : ∀ i, i < m → 0 < (Ls i).length) (hm : 1 ≤ m ∧ m ≤ 10) (htot : ∀ i, i ≤ m → (catTo Ls i).length ≤ 1000) :
    Calls Tryz.prog 91 #[.slice (some ⟨Z, 0, none⟩) m m] w fun e w' => ∃ a c, e = .returned (.slice a (catTo Ls m).length c) ∧ w'.ownsRow w.heap.size 3 1 (.slice a (catTo Ls m).length c) (catTo Ls m).length (cellsZ (catTo Ls m)) ∧ Fr (fun _ => False) w w' := by
  obtain ⟨i0, hi, hz0, hz1, hz2⟩ := info_parts Tryz.info3
  have Hc := hide hc
  have HD := hide hD
  have Hne := hide hne
  have Htot := hide htot
  clear hc hD hne htot
  go_enter Tryz.func91, Tryz.ntmps91
  go_wp2
  go_loopw [3, 5, 11] (fun sv _ iv wr => ∃ i : Nat, i ≤ m ∧ iv = .int .i64 (i : Int) ∧ sv = .int .i64 ((catTo Ls i).length : Int) ∧ Hid (w = wr)) (fun _ _ iv _ => m - (intOf iv).toNat)
  case atStart => exact ⟨0, Nat.zero_le _, rfl, rfl, rfl⟩
  case round =>
    obtain ⟨i, hi1, rfl, rfl, Hw⟩ := hrel
    obtain rfl := Hw.out
    by_cases hlt : i < m
    · have hlti : (i : Int) < (m : Int) := by omega
      have qi := Hc.out i hlt
      have h1 := Htot.out i (by omega)
      have h2 := Htot.out (i + 1) (by omega)
      have e2 : (catTo Ls (i + 1)).length = (catTo Ls i).length + (Ls i).length := by simp [catTo]
      rw [e2] at h2
      have E2 := hide e2
      clear e2
      go_wp2
      go_roundw
      case rel => exact ⟨i + 1, by omega, by go_num, by rw [E2.out]; go_num, (by first | exact trivial | rfl)⟩
      case measure => simp [intOf]; omega
    · have hlti : ¬ (i : Int) < (m : Int) := by omega
      have hie : i = m := by omega
      subst hie
      have hS := Htot.out i (Nat.le_refl _)
      have hS1 : 1 ≤ (catTo Ls i).length := by
        obtain ⟨j, rfl⟩ : ∃ j, i = j + 1 := ⟨i - 1, by omega⟩
        have := Hne.out j (by omega)
        simp [catTo]
        omega
      obtain ⟨S, hSe⟩ : ∃ S, S = (catTo Ls i).length := ⟨_, rfl⟩
      rw [← hSe] at hS hS1 ⊢
      have HSe := hide hSe
      clear hSe Hw
      go_wp2_with fail
      refine (grow_c S (by omega) w).mono ?_
      rintro e w1 ⟨a1, c1, rfl, hown1, hF1⟩
      have Hown1 := hide hown1
      have HF1 := hide hF1
      clear hown1 hF1
      go_wp2
      go_loopw [6, 8, 27] (fun v _ jv wr => ∃ j : Nat, j ≤ i ∧ jv = .int .i64 (j : Int) ∧ ∃ a c, v = .slice a (catTo Ls j).length c ∧ wr.ownsRow w.heap.size 3 1 (.slice a (catTo Ls j).length c) (catTo Ls j).length (cellsZ (catTo Ls j)) ∧ Fr (fun _ => False) w wr) (fun _ _ jv _ => i - (intOf jv).toNat)
      case atStart => exact ⟨0, Nat.zero_le _, rfl, a1, c1, rfl, Hown1.out, HF1.out⟩
      case round =>
        obtain ⟨j, hj1, rfl, a, c, rfl, hown, hF⟩ := hrel
        have Hown := hide hown
        have HF := hide hF
        clear hown hF
        by_cases hlt : j < i
        · have hlti : (j : Int) < (i : Int) := by omega
          have qj : wr.cell? ⟨Z, j, none⟩ = some (.slice (some ⟨Ds j, 0, none⟩) (Ls j).length (Cs j)) := by
            have := Hc.out j hlt
            rw [cell_blk (HF.out.block Z (cell_lt this) (fun h => h))]
            exact this
          have h2 := Htot.out (j + 1) (by omega)
          have e2 : (catTo Ls (j + 1)).length = (catTo Ls j).length + (Ls j).length := by simp [catTo]
          rw [e2] at h2
          have E2 := hide e2
          obtain ⟨N, hN⟩ : ∃ N, N = (catTo Ls j).length := ⟨_, rfl⟩
          obtain ⟨K, hK⟩ : ∃ K, K = (Ls j).length := ⟨_, rfl⟩
          have hK0 : 0 < K := by rw [hK]; exact Hne.out j hlt
          have hsz := HF.out.size
          rw [← hN] at h2 Hown E2 ⊢
          rw [← hK] at h2 qj E2
          have hcl : (cellsZ (Ls j)).length = K * 1 := by simp [cellsZ, hK]
          have hsrc : ∀ q u, (cellsZ (Ls j))[q]? = some u → wr.cell? ((⟨Ds j, 0, none⟩ : Addr).add q) = some u := by
            intro q u hq
            have hql : q < (Ls j).length := by
              have := (List.getElem?_eq_some_iff.1 hq).1
              simpa [cellsZ] using this
            obtain ⟨ad, e, hcell⟩ := (HD.out j hlt).fr HF.out q hql
            cases e
            rw [hcell]
            rw [← hq]
            simp [cellsZ, at0, List.getElem?_eq_getElem hql]
          have Hcl := hide hcl
          have Hsrc := hide hsrc
          have HN := hide hN
          have HK := hide hK
          clear e2 hcl hsrc hN hK
          go_wp2_with (at_builtin; go_must (refine wpList_append_lies _ rfl _ _ 81 rfl w.heap.size 3 i0 (.int .i64 0) 1 8 Tryz.underlying81 hi hz0 hz1 hz2 rfl (by decide) (.slice a N c) N (cellsZ (catTo Ls j)) rfl Hown.out ⟨Ds j, 0, none⟩ K (Cs j) (cellsZ (Ls j)) rfl Hcl.out Hsrc.out cellsZ_one hK0 (by unfold maxLen; omega) (by omega) hsz wr.heap.size rfl ?_); intro g cap w3 hown3 hgrow hat hlt3)
          have f2 : Fr (fun _ => False) w w3 := (HF.out.trans ⟨hgrow.os, hgrow.tape, hgrow.output, hgrow.size, fun k hk hn => hgrow.block k hk (fun e => hn e.symm)⟩ : Fr (fun k => False ∨ (Value.slice a N c).ownBlock = some k) w w3).mono fun k hk h => by
            rcases h with h | h
            · exact h
            · have := (Hown.out.lt k h).1; omega
          have G1 := hide f2
          have G2 : Hid (w3.ownsRow w.heap.size 3 1 (.slice (some ⟨g, 0, none⟩) (N + K) cap) (N + K) (cellsZ (catTo Ls (j + 1)))) := by
            have e : cellsZ (catTo Ls (j + 1)) = cellsZ (catTo Ls j) ++ cellsZ (Ls j) := by simp [cellsZ, catTo]
            rw [e]; exact hown3
          clear f2 hown3 hgrow hat hlt3
          go_roundw
          case rel => exact ⟨j + 1, by omega, by go_num, _, _, by rw [E2.out], by rw [E2.out]; exact G2.out, G1.out⟩
          case measure => simp [intOf]; omega
        · have hlti : ¬ (j : Int) < (i : Int) := by omega
          have hie : j = i := by omega
          subst hie
          go_wp2
          go_ret
          exact ⟨a, c, rfl, Hown.out, HF.out⟩
theorem RowAt.fr {w w' : World} {D : Nat} {zs : List Int} (h : RowAt w D zs) (hF : Fr (fun _ => False) w w') : RowAt w' D zs := (hF.block D (lt_of h) (fun h => h)).trans h
theorem concat_c (Z m : Nat) (Ds : Nat → Nat) (Ls : Nat → List Int) (w : World) (hc : ∀ i, i < m → w.cell? ⟨Z, i, none⟩ = some (.slice (some ⟨Ds i, 0, none⟩) (Ls i).length (Ls i).length))
    (hD : ∀ i, i < m → LiesI w (some ⟨Ds i, 0, none⟩) (Ls i)) (hne : ∀ i, i < m → 0 < (Ls i).length) (hm : 1 ≤ m ∧ m ≤ 10) (htot : ∀ i, i ≤ m → (catTo Ls i).length ≤ 1000) :
    Calls Tryz.prog 91 #[.slice (some ⟨Z, 0, none⟩) m m] w fun e w' => ∃ a c, e = .returned (.slice a (catTo Ls m).length c) ∧ w'.ownsRow w.heap.size 3 1 (.slice a (catTo Ls m).length c) (catTo Ls m).length (cellsZ (catTo Ls m)) ∧ Fr (fun _ => False) w w' :=
  concat_any Z m Ds (fun i => (Ls i).length) Ls w hc hD hne hm htot
theorem cell_new1 (w : World) (v : Value) (t : TypeId) : (w.alloc (.cells #[v] t)).cell? ⟨w.heap.size, 0, none⟩ = some v := cell_of (heap_alloc_new _ _) rfl
def fixRows : Nat → List Int
  | 0 => List.replicate 144 8
  | 1 => List.replicate 112 9
  | 2 => List.replicate 24 7
  | 3 => List.replicate 8 8
  | _ => []
theorem fixRows_cat : catTo fixRows 4 = fixL := by
  show ((([] ++ List.replicate 144 (8 : Int)) ++ List.replicate 112 9) ++ List.replicate 24 7) ++ List.replicate 8 8 = fixL
  unfold fixL
  simp only [List.nil_append, List.append_assoc]
theorem fixRows_len : ∀ i, i < 4 → 0 < (fixRows i).length := by
  intro i hi
  rcases (by omega : i = 0 ∨ i = 1 ∨ i = 2 ∨ i = 3) with rfl | rfl | rfl | rfl <;> simp only [fixRows, List.length_replicate] <;> omega
theorem fixRows_le : ∀ i, i ≤ 4 → (catTo fixRows i).length ≤ 1000 := by
  intro i hi
  have e0 : (fixRows 0).length = 144 := List.length_replicate
  have e1 : (fixRows 1).length = 112 := List.length_replicate
  have e2 : (fixRows 2).length = 24 := List.length_replicate
  have e3 : (fixRows 3).length = 8 := List.length_replicate
  rcases (by omega : i = 0 ∨ i = 1 ∨ i = 2 ∨ i = 3 ∨ i = 4) with rfl | rfl | rfl | rfl | rfl <;> simp only [catTo, List.length_append, List.length_nil, e0, e1, e2, e3] <;> omega
theorem repeat_at (v : Int) (N : Nat) (w : World) (D : Nat) (hD : D = w.heap.size) (hN : 1 ≤ N ∧ N ≤ 1000) :
    Calls Tryz.prog 92 #[.slice (some ⟨D, 0, none⟩) 1 1, .int .i64 (N : Int)] (w.alloc (.cells #[.int .i64 v] 3)) fun e w' => ∃ D, e = .returned (.slice (some ⟨D, 0, none⟩) N N) ∧ RowAt w' D (List.replicate N v) ∧ w.heap.size ≤ D ∧ Fr (fun _ => False) w w' := by
  subst hD
  refine (repeat_c v ⟨w.heap.size, 0, none⟩ 1 N (w.alloc (.cells #[.int .i64 v] 3)) (cell_new1 _ _ _) hN).mono ?_
  rintro e w' ⟨D, rfl, h1, h2, h3⟩
  exact ⟨D, rfl, h1, by simp at h2; omega, (Fr.of_alloc w _).join h3⟩
def four (a b c d : Nat) : Nat → Nat
  | 0 => a
  | 1 => b
  | 2 => c
  | _ => d
theorem concat_fix (w : World) (D0 D1 D2 D3 : Nat) (h0 : RowAt w D0 (List.replicate 144 8)) (h1 : RowAt w D1 (List.replicate 112 9)) (h2 : RowAt w D2 (List.replicate 24 7)) (h3 : RowAt w D3 (List.replicate 8 8)) :
    Calls Tryz.prog 91 #[.slice (some ⟨w.heap.size, 0, none⟩) 4 4] (w.alloc (.cells #[.slice (some ⟨D0, 0, none⟩) 144 144, .slice (some ⟨D1, 0, none⟩) 112 112, .slice (some ⟨D2, 0, none⟩) 24 24, .slice (some ⟨D3, 0, none⟩) 8 8] 81)) fun e w' =>
      ∃ a c, e = .returned (.slice a fixL.length c) ∧ LiesI w' a fixL ∧ Fr (fun _ => False) w w' := by
  have fr := Fr.of_alloc w (.cells #[.slice (some ⟨D0, 0, none⟩) 144 144, .slice (some ⟨D1, 0, none⟩) 112 112, .slice (some ⟨D2, 0, none⟩) 24 24, .slice (some ⟨D3, 0, none⟩) 8 8] 81)
  have hn := heap_alloc_new w (.cells #[.slice (some ⟨D0, 0, none⟩) 144 144, .slice (some ⟨D1, 0, none⟩) 112 112, .slice (some ⟨D2, 0, none⟩) 24 24, .slice (some ⟨D3, 0, none⟩) 8 8] 81)
  refine (concat_c w.heap.size 4 (four D0 D1 D2 D3) fixRows _ ?_ ?_ fixRows_len (by omega) fixRows_le).mono ?_
  · intro i hi
    rcases (by omega : i = 0 ∨ i = 1 ∨ i = 2 ∨ i = 3) with rfl | rfl | rfl | rfl
    · exact cell_of hn (by simp only [fixRows, List.length_replicate]; rfl)
    · exact cell_of hn (by simp only [fixRows, List.length_replicate]; rfl)
    · exact cell_of hn (by simp only [fixRows, List.length_replicate]; rfl)
    · exact cell_of hn (by simp only [fixRows, List.length_replicate]; rfl)
  · intro i hi
    rcases (by omega : i = 0 ∨ i = 1 ∨ i = 2 ∨ i = 3) with rfl | rfl | rfl | rfl
    · exact (h0.fr fr).lies
    · exact (h1.fr fr).lies
    · exact (h2.fr fr).lies
    · exact (h3.fr fr).lies
  · rintro e w' ⟨a, c, rfl, hown, hF⟩
    rw [fixRows_cat] at hown ⊢
    exact ⟨a, c, rfl, own_lies hown, fr.join hF⟩
end Go.Proofs.YtdpmpllbdoefdaaGreatDoor
namespace Go.Proofs.YtdpmpllbdoefdaaGreatDoor
open Go.RowKit
theorem own_wide {w : World} {lo lo' : Nat} {e : TypeId} {size : Nat} {v : Value} {n : Nat} {xs : List Value} (h : w.ownsRow lo e size v n xs) (hl : lo' ≤ lo) : w.ownsRow lo' e size v n xs := by
  obtain ⟨h1, h2⟩ := h
  refine ⟨h1, ?_⟩
  rcases h2 with h2 | ⟨g, cap, cur, hv, hg, r⟩
  · exact Or.inl h2
  · exact Or.inr ⟨g, cap, cur, hv, Nat.le_trans hl hg, r⟩
theorem Cd.wide {w : World} {lo hi lo' hi' C : Nat} {ls : List Int} (h : Cd w lo hi C ls) (hl : lo' ≤ lo) (hh : hi ≤ hi') (hs : hi' ≤ w.heap.size) : Cd w lo' hi' C ls := by
  obtain ⟨D, rv, h1, h2, h3, h4, h5, h6⟩ := h.eobj
  exact ⟨Nat.le_trans hl h.elo, Nat.lt_of_lt_of_le h.ehi hh, hs, h.egood, h.eok, ⟨D, rv, h1, own_wide h2 hl, fun g hg => Nat.lt_of_lt_of_le (h3 g hg) hh, Nat.le_trans hl h4, Nat.lt_of_lt_of_le h5 hh, h6⟩⟩
set_option maxHeartbeats 1600000 in
set_option maxRecDepth 100000 in
theorem fixedCodes_c (w : World) :
    Calls Tryz.prog 75 #[] w fun e w' => ∃ a1 c1 C1 a2 c2 C2, e = .returned (codesV a1 288 c1 C1 a2 32 c2 C2) ∧ Cd w' w.heap.size w'.heap.size C1 fixL ∧ Cd w' w.heap.size w'.heap.size C2 fixD ∧ Fr (fun _ => False) w w' := by
  obtain ⟨w0, hw0⟩ : ∃ w0, w0 = w.alloc (.cells #[.slice none 0 0, .pointer none, .slice none 0 0, .pointer none] 127) := ⟨_, rfl⟩
  have hF0 : Fr (fun _ => False) w w0 := by rw [hw0]; exact Fr.of_alloc _ _
  have hb0 : w0.heap[w.heap.size]? = some (.cells #[.slice none 0 0, .pointer none, .slice none 0 0, .pointer none] 127 (0, 0)) := by rw [hw0]; exact heap_alloc_at rfl
  have HF0 := hide hF0
  have Hb0 := hide hb0
  have Hw0 := hide hw0
  clear hF0 hb0 hw0
  go_enter Tryz.func75, Tryz.ntmps75
  go_wp2_with fail
  rw [← Hw0.out]
  refine (calls_args (repeat_at 8 144 w0 w0.heap.size rfl (by omega)) (by rw [Hw0.out]; simp)).mono ?_
  rintro e w1 ⟨D0, rfl, hR0, _, hF1⟩
  have HR0 := hide hR0
  have HF1 := hide hF1
  clear hR0 hF1
  go_wp2_with fail
  refine (calls_args (repeat_at 9 112 w1 w1.heap.size rfl (by omega)) (by rfl)).mono ?_
  rintro e w2 ⟨D1, rfl, hR1, _, hF2⟩
  have HR0b := hide (HR0.out.fr hF2)
  have HR1 := hide hR1
  have HF2 := hide (HF1.out.join hF2)
  clear hR1 hF2
  go_wp2_with fail
  refine (calls_args (repeat_at 7 24 w2 w2.heap.size rfl (by omega)) (by rfl)).mono ?_
  rintro e w3 ⟨D2, rfl, hR2, _, hF3⟩
  have HR0c := hide (HR0b.out.fr hF3)
  have HR1c := hide (HR1.out.fr hF3)
  have HR2 := hide hR2
  have HF3 := hide (HF2.out.join hF3)
  clear hR2 hF3
  go_wp2_with fail
  refine (calls_args (repeat_at 8 8 w3 w3.heap.size rfl (by omega)) (by rfl)).mono ?_
  rintro e w4 ⟨D3, rfl, hR3, _, hF4⟩
  have HR0d := hide (HR0c.out.fr hF4)
  have HR1d := hide (HR1c.out.fr hF4)
  have HR2d := hide (HR2.out.fr hF4)
  have HR3 := hide hR3
  have HF4 := hide (HF3.out.join hF4)
  clear hR3 hF4
  go_wp2_with fail
  refine (calls_args (concat_fix w4 D0 D1 D2 D3 HR0d.out HR1d.out HR2d.out HR3.out) (by rfl)).mono ?_
  rintro e w5 ⟨a1, c1, rfl, hL5, hF5⟩
  have HL5 := hide hL5
  have HF5 := hide (HF0.out.join (HF4.out.join hF5))
  have hb5 := cells_at (cells_at Hb0.out HF4.out (fun e => e)) hF5 (fun e => e)
  have Hb5 := hide hb5
  rw [fixL_len]
  clear hL5 hF5 hb5
  go_wp2_with fail
  refine (calls_args (newCode_c a1 288 c1 fixL w5 fixL_len.symm HL5.out fixL_cok) (by rfl)).mono ?_
  rintro e w6 ⟨C1, lo1, hi1, rfl, hC1, hlo1, hhi1, hF6⟩
  have HC1 := hide hC1
  have HF6 := hide (HF5.out.join hF6)
  have hs56 := hF6.size
  have Hb6 := hide (cells_at Hb5.out hF6 (fun e => e))
  clear hC1 hF6
  go_wp2_with fail
  refine (calls_args (repeat_at 5 32 w6 w6.heap.size rfl (by omega)) (by rfl)).mono ?_
  rintro e w7 ⟨D5, rfl, hR5, _, hF7⟩
  have HC1b := hide (HC1.out.keep hF7 (fun _ _ _ e => e))
  have HF7 := hide (HF6.out.join hF7)
  have hs67 := hF7.size
  have Hb7 := hide (cells_at Hb6.out hF7 (fun e => e))
  have HR5 := hide hR5
  clear hF7 hR5
  go_wp2_with fail
  refine (calls_args (newCode_c (some ⟨D5, 0, none⟩) 32 32 fixD w7 fixD_len.symm HR5.out.lies fixD_cok) (by rfl)).mono ?_
  rintro e w8 ⟨C2, lo2, hi2, rfl, hC2, hlo2, hhi2, hF8⟩
  have HC1c := hide (HC1b.out.keep hF8 (fun _ _ _ e => e))
  have HF8 := hide (HF7.out.join hF8)
  have hs78 := hF8.size
  have hb8 := cells_at Hb7.out hF8 (fun e => e)
  have HC2 := hide hC2
  have f0 := frozen_of (o := 0) hb8
  have f1 := frozen_of (o := 1) hb8
  have f2 := frozen_of (o := 2) hb8
  have f3 := frozen_of (o := 3) hb8
  have k0 := cell_of (o := 0) hb8 rfl
  have k1 := cell_of (o := 1) hb8 rfl
  have k2 := cell_of (o := 2) hb8 rfl
  have k3 := cell_of (o := 3) hb8 rfl
  have hs05 := HF5.out.size
  clear hF8 hC2
  go_wp2
  refine bodyPost_ret (v := .agg #[.slice a1 288 c1, .pointer (some ⟨C1, 0, none⟩), .slice (some ⟨D5, 0, none⟩) 32 32, .pointer (some ⟨C2, 0, none⟩)]) (by simp [results, Tryz.results75, go_sem, k0, k1, k2, k3]) rfl ?_
  have fS : Fr (fun i => i = w.heap.size) w8 ((((w8.setCell ⟨w.heap.size, 0, none⟩ (.slice a1 288 c1)).setCell ⟨w.heap.size, 1, none⟩ (.pointer (some ⟨C1, 0, none⟩))).setCell ⟨w.heap.size, 2, none⟩ (.slice (some ⟨D5, 0, none⟩) 32 32)).setCell ⟨w.heap.size, 3, none⟩ (.pointer (some ⟨C2, 0, none⟩))) :=
    ((((Fr.of_setCell w8 ⟨w.heap.size, 0, none⟩ _).trans (Fr.of_setCell _ ⟨w.heap.size, 1, none⟩ _)).trans (Fr.of_setCell _ ⟨w.heap.size, 2, none⟩ _)).trans (Fr.of_setCell _ ⟨w.heap.size, 3, none⟩ _)).mono fun i _ e => by
      rcases e with ((e | e) | e) | e <;> exact e
  have hW : w.heap.size < w5.heap.size := lt_of Hb5.out
  have hsz := fS.size
  refine ⟨a1, c1, C1, some ⟨D5, 0, none⟩, 32, C2, rfl, (HC1c.out.keep fS (fun i h1 _ e => by omega)).wide (by omega) (by omega) (Nat.le_refl _), (HC2.out.keep fS (fun i h1 _ e => by omega)).wide (by omega) (by omega) (Nat.le_refl _), ?_⟩
  exact fr_set_new (fr_set_new (fr_set_new (fr_set_new HF8.out (Nat.le_refl _)) (Nat.le_refl _)) (Nat.le_refl _)) (Nat.le_refl _)
end Go.Proofs.YtdpmpllbdoefdaaGreatDoor
