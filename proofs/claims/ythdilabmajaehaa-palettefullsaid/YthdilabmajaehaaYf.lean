/-
  palette: Draw.
-/
import Derived.Test.YthdilabmajaehaaYc
import Derived.Test.YthdilabmajaehaaYe
import Derived.Test.YthdilabmajaehaaYd
namespace Go.Proofs.Ythdilabmajaehaa
open Go.RowKit

/-- Colours that lie there. -/
structure Cols (w : World) (a : Option Addr) (L : Nat) (u : List (List Nat)) : Prop where
  len : u.length = L
  good : ∀ x ∈ u, Good x
  at_ : 0 < L → ∃ g o, a = some ⟨g, o, none⟩ ∧ ∀ k r, k < L → r < 4 → w.cell? ⟨g, o + k * 4 + r, none⟩ = some (.int .u16 (((u.getD k []).getD r 0 : Nat) : Int))
/-- Places that lie there. -/
structure Bys (w : World) (a : Option Addr) (n : Nat) (ix : List Nat) : Prop where
  len : ix.length = n
  small : ∀ b ∈ ix, b < 256
  at_ : 0 < n → ∃ g o, a = some ⟨g, o, none⟩ ∧ ∀ j, j < n → w.cell? ⟨g, o + j, none⟩ = some (.int .u8 ((ix.getD j 0 : Nat) : Int))

theorem Cols.fr {w w' : World} {a : Option Addr} {L : Nat} {u : List (List Nat)} (h : Cols w a L u) {S : Nat → Prop} (f : Fr S w w') (hS : ∀ ad, a = some ad → ad.block < w.heap.size → ¬ S ad.block) : Cols w' a L u :=
  ⟨h.len, h.good, fun h0 => by
    obtain ⟨g, o, rfl, hc⟩ := h.at_ h0
    exact ⟨g, o, rfl, fun k r hk hr => (cell_blk (f.block g (cell_lt (hc k r hk hr)) (hS _ rfl (show g < w.heap.size from cell_lt (hc k r hk hr))))).trans (hc k r hk hr)⟩⟩
theorem Bys.fr {w w' : World} {a : Option Addr} {n : Nat} {ix : List Nat} (h : Bys w a n ix) {S : Nat → Prop} (f : Fr S w w') (hS : ∀ ad, a = some ad → ad.block < w.heap.size → ¬ S ad.block) : Bys w' a n ix :=
  ⟨h.len, h.small, fun h0 => by
    obtain ⟨g, o, rfl, hc⟩ := h.at_ h0
    exact ⟨g, o, rfl, fun j hj => (cell_blk (f.block g (cell_lt (hc j hj)) (hS _ rfl (show g < w.heap.size from cell_lt (hc j hj))))).trans (hc j hj)⟩⟩

/-- The error of Draw. -/
def drawE (W H : Int) (L : Nat) (ix : List Nat) : Int := if sizeE W H ≠ 0 then sizeE W H else if (ix.length : Int) < W * H then 2 else if W * H < (ix.length : Int) then 3 else if ix.all (fun b => decide (b < L)) then 0 else 4
/-- The samples drawn. -/
def drawn (u : List (List Nat)) (ix : List Nat) : List Nat := (ix.map fun b => u.getD b []).flatten

theorem getD_good {u : List (List Nat)} (h : ∀ x ∈ u, Good x) {k : Nat} (hk : k < u.length) : Good (u.getD k []) := by
  rw [List.getD_eq_getElem?_getD, List.getElem?_eq_getElem hk]
  exact h _ (List.getElem_mem hk)

theorem drawn_length {u : List (List Nat)} (h : ∀ x ∈ u, Good x) : ∀ {ix : List Nat}, (∀ b ∈ ix, b < u.length) → (drawn u ix).length = 4 * ix.length
  | [], _ => rfl
  | b :: t, hb => by
    have h1 := (getD_good h (hb b (by simp))).1
    have h2 := drawn_length h (ix := t) (fun x hx => hb x (by simp [hx]))
    unfold drawn at h2 ⊢
    rw [List.map_cons, List.flatten_cons, List.length_append, h1, h2, List.length_cons]
    omega

theorem drawn_step {u : List (List Nat)} {ix : List Nat} {i N b : Nat} (h : ∀ x ∈ u, Good x) (hi : i < N) (hN : ix.length = N) (hb : b = ix.getD i 0) (hbl : b < u.length) (ha : ∀ j, j < i → ix.getD j 0 < u.length) :
    setP (drawn u (ix.take i) ++ List.replicate (4 * (N - i)) 0) (4 * i) (u.getD b []) = drawn u (ix.take (i + 1)) ++ List.replicate (4 * (N - (i + 1))) 0 := by
  have hl : (drawn u (ix.take i)).length = 4 * i := by
    rw [drawn_length h (fun x hx => ?_)]
    · rw [List.length_take]; omega
    · obtain ⟨j, hj, rfl⟩ := List.getElem_of_mem hx
      have hj2 : j < i ∧ j < ix.length := by rw [List.length_take] at hj; omega
      have := ha j hj2.1
      rw [List.getD_eq_getElem?_getD, List.getElem?_eq_getElem hj2.2] at this
      simpa using this
  have h4 := (getD_good h hbl).1
  have ht : ix.take (i + 1) = ix.take i ++ [b] := by
    rw [List.take_succ_eq_append_getElem (by omega), hb, List.getD_eq_getElem?_getD, List.getElem?_eq_getElem (by omega)]
    rfl
  rw [ht]
  unfold setP
  rw [List.take_append_of_le_length (by omega), List.take_of_length_le (by omega), h4, List.drop_append]
  rw [List.drop_eq_nil_of_le (by omega), List.nil_append, hl, show 4 * i + 4 - 4 * i = 4 by omega, List.drop_replicate, show 4 * (N - i) - 4 = 4 * (N - (i + 1)) by omega]
  unfold drawn
  rw [List.map_append, List.flatten_append]
  simp

theorem store3 {w : World} {P : Nat} {a0 a1 a2 : Value} (x0 x1 x2 : Value) (h : w.heap[P]? = some (.cells #[a0, a1, a2] 24 (0, 0))) :
    (((w.setCell ⟨P, 0, none⟩ x0).setCell ⟨P, 1, none⟩ x1).setCell ⟨P, 2, none⟩ x2).heap[P]? = some (.cells [x0, x1, x2].toArray 24 (0, 0)) ∧ Fr (fun i => i = P) w (((w.setCell ⟨P, 0, none⟩ x0).setCell ⟨P, 1, none⟩ x1).setCell ⟨P, 2, none⟩ x2) :=
  ⟨heap_setCell_own (o := 2) x2 (heap_setCell_own (o := 1) x1 (heap_setCell_own (o := 0) x0 h)),
    ((Fr.of_setCell w ⟨P, 0, none⟩ x0).join (Fr.of_setCell _ ⟨P, 1, none⟩ x1)).join (Fr.of_setCell _ ⟨P, 2, none⟩ x2)⟩

/-- What Draw answers. -/
def Drawn (W H : Int) (L : Nat) (u : List (List Nat)) (ix : List Nat) (w : World) (e : Ending) (w' : World) : Prop :=
  Fr (fun _ => False) w w' ∧ ((drawE W H L ix ≠ 0 ∧ e = .returned (.tuple #[rasV 0 0 none 0 0, .int .i64 (drawE W H L ix)])) ∨
    (drawE W H L ix = 0 ∧ ∃ g, e = .returned (.tuple #[rasV W H (some ⟨g, 0, none⟩) (4 * ix.length) (4 * ix.length), .int .i64 0]) ∧ Own w' w.heap.size (some ⟨g, 0, none⟩) (4 * ix.length) (4 * ix.length) (drawn u ix)))

set_option maxHeartbeats 1000000 in
set_option maxRecDepth 100000 in
theorem draw_c (W H cl : Int) (a : Option Addr) (L c : Nat) (u : List (List Nat)) (b : Option Addr) (n2 c2 : Nat) (ix : List Nat) (w : World) (hu : Cols w a L u) (hx : Bys w b n2 ix) (hn2 : n2 ≤ 1000000) :
    Calls Try.prog 31 #[.agg #[.slice a L c, .int .i64 cl], .int .i64 W, .int .i64 H, .slice b n2 c2] w fun e w' => Drawn W H L u ix w e w' := by
  obtain ⟨w1, hw1⟩ : ∃ w1, w1 = (w.alloc (.cells #[.slice a L c, .int .i64 cl] 44)).alloc (.cells #[.int .i64 0, .int .i64 0, .slice none 0 0] 24) := ⟨_, rfl⟩
  obtain ⟨R0, hR0⟩ : ∃ R, R = w.heap.size := ⟨_, rfl⟩
  obtain ⟨R8, hR8⟩ : ∃ R, R = R0 + 1 := ⟨_, rfl⟩
  have hb0 : w1.heap[R0]? = some (.cells #[.slice a L c, .int .i64 cl] 44 (0, 0)) := by rw [hw1]; exact (Below.heap_alloc _ _ _ (by simp; omega)).trans (heap_alloc_at hR0)
  have hb8 : w1.heap[R8]? = some (.cells #[.int .i64 0, .int .i64 0, .slice none 0 0] 24 (0, 0)) := by rw [hw1]; exact heap_alloc_at (by simp; omega)
  have hF1 : Fr (fun _ => False) w w1 := by rw [hw1]; exact (Fr.of_alloc _ _).join (Fr.of_alloc _ _)
  have HN := hide (new_c W H w1)
  have HU := hide (hu.fr hF1 fun _ _ _ h => h)
  have HX := hide (hx.fr hF1 fun _ _ _ h => h)
  have Hb0 := hide hb0
  have Hb8 := hide hb8
  have HF1 := hide hF1
  have Hw1 := hide hw1
  have HR0 := hide hR0
  have HR8 := hide hR8
  obtain ⟨E, hE⟩ : ∃ E, E = drawE W H L ix := ⟨_, rfl⟩
  have HE := hide hE
  have Hn2 := hide hn2
  clear hu hx hb0 hb8 hF1 hw1 hR0 hR8 hE hn2
  go_enter Try.func31, Try.ntmps31
  go_wp2_with fail
  rw [← Hw1.out, ← HR0.out, ← HR8.out]
  refine HN.out.mono ?_
  rintro e w2 ⟨v, er, rfl, hD⟩
  have hF2 := hD.fr
  have HR8w : Hid (w.heap.size ≤ R8) := by have h1 := HR8.out; have h2 := HR0.out; show _ ≤ _; omega
  have HB82 := hide (cells_at Hb8.out hF2 (fun e => e))
  have HB02 := hide (cells_at Hb0.out hF2 (fun e => e))
  have HF2 := hide (HF1.out.join hF2)
  have HU2 := hide (HU.out.fr hF2 fun _ _ _ h => h)
  have HX2 := hide (HX.out.fr hF2 fun _ _ _ h => h)
  have HS2 : Hid (w1.heap.size ≤ w2.heap.size) := hF2.size
  have HR8l : Hid (R8 < w1.heap.size) := lt_of Hb8.out
  rcases hD.out with ⟨hs, hser, rfl⟩ | ⟨hs, rfl, n, g, hn, rfl, hgl, hg⟩
  · clear hD hF2
    obtain ⟨w3, hw3⟩ : ∃ w3, w3 = w2.alloc (.cells #[.int .i64 0, .int .i64 0, .slice none 0 0] 24) := ⟨_, rfl⟩
    have hF3 : Fr (fun _ => False) w2 w3 := by rw [hw3]; exact Fr.of_alloc _ _
    have HB8w3 := hide (cells_at HB82.out hF3 (fun e => e))
    have HFw3 := hide (HF2.out.join hF3)
    have Hs : Hid (er ≠ 0) := by rw [hser]; exact hs
    have her0 : (er != 0) = true := bne_iff_ne.2 Hs.out
    have Hser := hide hser
    have Hw3 := hide hw3
    clear hs hF3 hser hw3
    go_upto_region 3 with fail
    rw [← Hw3.out]
    have h8 := HB8w3.out
    have z0 := cell_of (o := 0) h8 rfl
    have z1 := cell_of (o := 1) h8 rfl
    have z2 := cell_of (o := 2) h8 rfl
    have y0 := frozen_of (o := 0) h8
    have y1 := frozen_of (o := 1) h8
    have y2 := frozen_of (o := 2) h8
    have Hdr := hide (show drawE W H L ix = er from by unfold drawE; rw [if_pos (by rw [← Hser.out]; exact Hs.out), Hser.out])
    have H8 := hide h8
    clear h8
    skip
    go_wp2_with fail
    obtain ⟨hb9, f9⟩ := store3 (.int .i64 0) (.int .i64 0) (.slice none 0 0) H8.out
    obtain ⟨w9, hw9⟩ : ∃ w9, w9 = ((w3.setCell ⟨R8, 0, none⟩ (.int .i64 0)).setCell ⟨R8, 1, none⟩ (.int .i64 0)).setCell ⟨R8, 2, none⟩ (.slice none 0 0) := ⟨_, rfl⟩
    rw [← hw9] at hb9 f9 ⊢
    obtain ⟨d, u1, u2, u3⟩ := Try.und24
    have hld := run_loadVar_mid (P := Try.prog) w9 R8 0 24 [.int .i64 0, .int .i64 0, .slice none 0 0] d (rangeAt_cells hb9) u1 u2 u3
    exact bodyPost_ret (results_two (t := 8) (s := 9) Try.results31 rfl hld rfl) rfl ⟨frJ HFw3.out f9 fun j hj => by have e : j = R8 := hj; rw [e]; exact HR8w.out, Or.inl ⟨by rw [Hdr.out]; exact Hs.out, by rw [Hdr.out]; rfl⟩⟩
  · have hO2 : Own w2 w1.heap.size (some ⟨g, 0, none⟩) n n (List.replicate n 0) := by
      refine ⟨⟨by simp [cellsU], Or.inr ⟨g, n, _, rfl, hgl, hg, Nat.le_refl _, ?_, by simp [cellsU], ?_⟩⟩, fun b hb => ?_⟩
      · have h1 := size_ok hs; have e4 : 4 * W * H = 4 * (W * H) := Int.mul_assoc _ _ _; unfold maxLen; omega
      · rw [Nat.mul_one, List.take_of_length_le (by simp [cellsU])]
      · rw [(List.mem_replicate.1 hb).2]; decide
    obtain ⟨m, hm, hnm, hmb, hm1⟩ := may_nums (W := W) (H := H) (n := n) (decide_eq_true ⟨hs, hn⟩)
    obtain ⟨w3, hw3⟩ : ∃ w3, w3 = w2.alloc (.cells #[.int .i64 W, .int .i64 H, .slice (some ⟨g, 0, none⟩) n n] 24) := ⟨_, rfl⟩
    obtain ⟨R10, hR10⟩ : ∃ R, R = w2.heap.size := ⟨_, rfl⟩
    have hF3 : Fr (fun _ => False) w2 w3 := by rw [hw3]; exact Fr.of_alloc _ _
    have HB10 : Hid (w3.heap[R10]? = some (.cells #[.int .i64 W, .int .i64 H, .slice (some ⟨g, 0, none⟩) n n] 24 (0, 0))) := by rw [hw3]; exact heap_alloc_at hR10
    have HB8w3 := hide (cells_at HB82.out hF3 (fun e => e))
    have HB0w3 := hide (cells_at HB02.out hF3 (fun e => e))
    have HFw3 := hide (HF2.out.join hF3)
    have HO3 := hide (hO2.keep hF3 fun _ _ h => h)
    have HU3 := hide (HU2.out.fr hF3 fun _ _ _ h => h)
    have HX3 := hide (HX2.out.fr hF3 fun _ _ _ h => h)
    have Hgl := hide hgl
    have HgR : Hid (g < R10) := by rw [hR10]; exact lt_of hg
    have Hw3 := hide hw3
    have HR10 := hide hR10
    have Hs := hide hs
    have Hnm := hide hnm
    have hm2 : W * H = (m : Int) := hm.symm
    have Hm := hide hm2
    have hx2 := HX2.out.len
    have Hx2 := hide hx2
    have HF13 := hide (hF2.join hF3)
    clear hD hF2 hgl hg hO2 hF3 hw3 hR10 hs hnm hm hn hx2
    have hn2 := Hn2.out
    by_cases hsh : (n2 : Int) < (m : Int)
    · go_upto_region 5 with fail
      rw [← Hw3.out, ← HR10.out]
      have h8 := HB8w3.out
      have z0 := cell_of (o := 0) h8 rfl
      have z1 := cell_of (o := 1) h8 rfl
      have z2 := cell_of (o := 2) h8 rfl
      have y0 := frozen_of (o := 0) h8
      have y1 := frozen_of (o := 1) h8
      have y2 := frozen_of (o := 2) h8
      have Hdr := hide (show drawE W H L ix = 2 from by unfold drawE; rw [if_neg (fun h => h Hs.out), if_pos (by rw [Hx2.out, Hm.out]; exact hsh)])
      have H8 := hide h8
      clear h8
      skip
      go_wp2_with fail
      obtain ⟨hb9, f9⟩ := store3 (.int .i64 0) (.int .i64 0) (.slice none 0 0) H8.out
      obtain ⟨w9, hw9⟩ : ∃ w9, w9 = ((w3.setCell ⟨R8, 0, none⟩ (.int .i64 0)).setCell ⟨R8, 1, none⟩ (.int .i64 0)).setCell ⟨R8, 2, none⟩ (.slice none 0 0) := ⟨_, rfl⟩
      rw [← hw9] at hb9 f9 ⊢
      obtain ⟨d, u1, u2, u3⟩ := Try.und24
      have hld := run_loadVar_mid (P := Try.prog) w9 R8 0 24 [.int .i64 0, .int .i64 0, .slice none 0 0] d (rangeAt_cells hb9) u1 u2 u3
      exact bodyPost_ret (results_two (t := 8) (s := 9) Try.results31 rfl hld rfl) rfl ⟨frJ HFw3.out f9 fun j hj => by have e : j = R8 := hj; rw [e]; exact HR8w.out, Or.inl ⟨by rw [Hdr.out]; decide, by rw [Hdr.out]; rfl⟩⟩
    by_cases hlg : (m : Int) < (n2 : Int)
    · go_upto_region 7 with fail
      rw [← Hw3.out, ← HR10.out]
      have h8 := HB8w3.out
      have z0 := cell_of (o := 0) h8 rfl
      have z1 := cell_of (o := 1) h8 rfl
      have z2 := cell_of (o := 2) h8 rfl
      have y0 := frozen_of (o := 0) h8
      have y1 := frozen_of (o := 1) h8
      have y2 := frozen_of (o := 2) h8
      have Hdr := hide (show drawE W H L ix = 3 from by unfold drawE; rw [if_neg (fun h => h Hs.out), if_neg (by rw [Hx2.out, Hm.out]; omega), if_pos (by rw [Hx2.out, Hm.out]; exact hlg)])
      have H8 := hide h8
      clear h8
      skip
      go_wp2_with fail
      obtain ⟨hb9, f9⟩ := store3 (.int .i64 0) (.int .i64 0) (.slice none 0 0) H8.out
      obtain ⟨w9, hw9⟩ : ∃ w9, w9 = ((w3.setCell ⟨R8, 0, none⟩ (.int .i64 0)).setCell ⟨R8, 1, none⟩ (.int .i64 0)).setCell ⟨R8, 2, none⟩ (.slice none 0 0) := ⟨_, rfl⟩
      rw [← hw9] at hb9 f9 ⊢
      obtain ⟨d, u1, u2, u3⟩ := Try.und24
      have hld := run_loadVar_mid (P := Try.prog) w9 R8 0 24 [.int .i64 0, .int .i64 0, .slice none 0 0] d (rangeAt_cells hb9) u1 u2 u3
      exact bodyPost_ret (results_two (t := 8) (s := 9) Try.results31 rfl hld rfl) rfl ⟨frJ HFw3.out f9 fun j hj => by have e : j = R8 := hj; rw [e]; exact HR8w.out, Or.inl ⟨by rw [Hdr.out]; decide, by rw [Hdr.out]; rfl⟩⟩
    go_upto_region 8 with fail
    rw [← Hw3.out, ← HR10.out]
    have hmn : m = n2 := by omega
    clear hm2 hsh hlg
    subst hmn
    rw [show decide (m < m) = false from decide_eq_false (Nat.lt_irrefl m)]
    have HdE : Hid (drawE W H L ix = if ix.all (fun b => decide (b < L)) then 0 else 4) := by
      show _ = _
      unfold drawE
      rw [if_neg (fun h => h Hs.out), if_neg (by rw [Hx2.out, Hm.out]; omega), if_neg (by rw [Hx2.out, Hm.out]; omega)]
    go_wp2_with fail
    go_loopw [12, 13, 43] (fun _ _ v43 wr => ∃ i : Nat, v43 = .int .i64 (i : Int) ∧ i ≤ m ∧ Hid (Own wr w1.heap.size (some ⟨g, 0, none⟩) n n (drawn u (ix.take i) ++ List.replicate (4 * (m - i)) 0)) ∧ Hid (∀ j, j < i → ix.getD j 0 < L) ∧ Hid (Fr (fun j => j = g) w3 wr)) (fun _ _ v43 _ => m - (intOf v43).toNat)
    case atStart => exact ⟨0, rfl, Nat.zero_le _, by show Own _ _ _ _ _ _; rw [List.take_zero, show 4 * (m - 0) = n by have := Hnm.out; omega]; exact HO3.out, fun j hj => absurd hj (Nat.not_lt_zero _), Fr.refl _ _⟩
    case round =>
      obtain ⟨i, rfl, hi, HO, HA, HFr⟩ := hrel
      have hF1r : Fr (fun j => j = g) w1 wr := (HF13.out.mono fun _ _ h => h.elim).join HFr.out
      have HUr := hide (HU.out.fr hF1r fun ad _ hl e => by have e2 : ad.block = g := e; have := Hgl.out; omega)
      have HXr := hide (HX.out.fr hF1r fun ad _ hl e => by have e2 : ad.block = g := e; have := Hgl.out; omega)
      have hB8 := cells_at HB8w3.out HFr.out (fun e => by have e2 : R8 = g := e; have := Hgl.out; have := HR8l.out; omega)
      have hB0 := cells_at HB0w3.out HFr.out (fun e => by have e2 : R0 = g := e; have := Hgl.out; have := HR8l.out; have := HR8.out; omega)
      have hB10 := cells_at HB10.out HFr.out (fun e => by have e2 : R10 = g := e; have := HgR.out; omega)
      have HB8wr := hide hB8
      have HFwr : Hid (Fr (fun _ => False) w wr) := frJ HFw3.out HFr.out fun j hj => by have e : j = g := hj; rw [e]; exact Nat.le_trans HF1.out.size Hgl.out
      have t0 := cell_of (o := 0) hB0 rfl
      have r0 := cell_of (o := 0) hB10 rfl
      have r1 := cell_of (o := 1) hB10 rfl
      have r2 := cell_of (o := 2) hB10 rfl
      clear hF1r hB8 hB0 hB10
      by_cases hlt : i < m
      · have hii : (i : Int) < (m : Int) := by omega
        obtain ⟨gx, ox, rfl, hcx⟩ := HXr.out.at_ (by omega)
        obtain ⟨p, hp⟩ : ∃ p, p = ix.getD i 0 := ⟨_, rfl⟩
        have cx := hcx i (by omega)
        rw [← hp] at cx
        have Hp := hide hp
        have hix : i < ix.length := by rw [Hx2.out]; omega
        have hp8 : p < 256 := by
          rw [hp, List.getD_eq_getElem?_getD, List.getElem?_eq_getElem hix]
          exact HXr.out.small _ (List.getElem_mem hix)
        have Hix := hide hix
        clear hp hcx hix
        by_cases hpl : p < L
        case neg =>
          have hpi : (L : Int) ≤ (p : Int) := by omega
          have hall : ix.all (fun b => decide (b < L)) = false := by
            rw [List.all_eq_false]
            refine ⟨p, ?_, by simp [hpl]⟩
            rw [Hp.out, List.getD_eq_getElem?_getD, List.getElem?_eq_getElem Hix.out]
            exact List.getElem_mem _
          have Hall := hide hall
          clear hall hpl
          go_upto_region 12 with fail
          have h8 := HB8wr.out
          have z0 := cell_of (o := 0) h8 rfl
          have z1 := cell_of (o := 1) h8 rfl
          have z2 := cell_of (o := 2) h8 rfl
          have y0 := frozen_of (o := 0) h8
          have y1 := frozen_of (o := 1) h8
          have y2 := frozen_of (o := 2) h8
          have Hdr := hide (show drawE W H L ix = 4 from by rw [HdE.out, Hall.out]; rfl)
          have H8 := hide h8
          clear h8
          skip
          go_wp2_with fail
          obtain ⟨hb9, f9⟩ := store3 (.int .i64 0) (.int .i64 0) (.slice none 0 0) H8.out
          obtain ⟨w9, hw9⟩ : ∃ w9, w9 = ((wr.setCell ⟨R8, 0, none⟩ (.int .i64 0)).setCell ⟨R8, 1, none⟩ (.int .i64 0)).setCell ⟨R8, 2, none⟩ (.slice none 0 0) := ⟨_, rfl⟩
          rw [← hw9] at hb9 f9 ⊢
          obtain ⟨d, u1, u2, u3⟩ := Try.und24
          have hld := run_loadVar_mid (P := Try.prog) w9 R8 0 24 [.int .i64 0, .int .i64 0, .slice none 0 0] d (rangeAt_cells hb9) u1 u2 u3
          exact bodyPost_ret (results_two (t := 8) (s := 9) Try.results31 rfl hld rfl) rfl ⟨frJ HFwr.out f9 fun j hj => by have e : j = R8 := hj; rw [e]; exact HR8w.out, Or.inl ⟨by rw [Hdr.out]; decide, by rw [Hdr.out]; rfl⟩⟩
        case pos =>
        have hpi : (p : Int) < (L : Int) := by omega
        obtain ⟨gc, oc, rfl, hcc⟩ := HUr.out.at_ (by omega)
        obtain ⟨J, hJ⟩ : ∃ J, J = 4 * i := ⟨_, rfl⟩
        have e1 : 4 * (i : Int) = (J : Int) := by omega
        have hJn : J + 4 ≤ n := by have := Hnm.out; omega
        have hJi : (J : Int) ≤ (n : Int) := by omega
        have hck : ¬ n = J := by omega
        have hn5 : n ≤ 65536 := by have := Hnm.out; omega
        have r3 : IntKind.i64.wrap (J : Int) = (J : Int) := wrap_i64_id _ (by omega) (by omega)
        obtain ⟨x, hx⟩ : ∃ x, x = u.getD p [] := ⟨_, rfl⟩
        have hpu : p < u.length := by rw [HUr.out.len]; exact hpl
        have hgx : Good x := by rw [hx]; exact getD_good HUr.out.good hpu
        have HSrc : Hid (∀ j v, (cellsU x)[j]? = some v → wr.drew.cell? ((⟨gc, oc + p * 4, none⟩ : Addr).add j) = some v) := fun j v hj => by
          have hj4 : j < 4 := by have h1 := (List.getElem?_eq_some_iff.1 hj).1; rw [cellsU_length, hgx.1] at h1; exact h1
          rw [add_none]
          have h2 := hcc p j hpl hj4
          rw [← hx] at h2
          have h3 := cellsU_get (px := x) (j := j) (by rw [hgx.1]; exact hj4)
          rw [h3] at hj
          cases hj
          exact h2
        obtain ⟨g', cur, eg, hglo, hgc, hcn, hcs, _⟩ := HO.out.form (by omega)
        cases eg
        have HJ := hide hJ
        have Hx := hide hx
        have Hgx := hide hgx
        have Hcur := hide hgc
        have Hcs := hide hcs
        have Hpu := hide hpu
        have hx4 := hgx.1
        have Hx4 := hide hx4
        clear hJ hx hgx hgc hcs hcc hpu hcn hx4
        go_upto_region 13 with fail
        refine wp_region_held_drew (S := fun W' => Fr (fun j => j = g) wr W') (by kernel_rfl) (by exact (Fr.of_drewN wr 1).mono fun _ _ h => h.elim) (fun hHeld => ?_)
        refine wpAnyH_take (i := 0) (v := ?v0) rfl (by kernel_rfl) (by kernel_rfl) (by kernel_rfl) (fun _ _ _ h => h) (Or.inl ⟨by rfl, ?hy0⟩) hHeld ?rest0
        case hy0 => (intro W hSw; (try dsimp only at hSw); have x0 := cell_blk (a := ⟨R0, 0, none⟩) (hSw.block R0 (cell_lt t0) (by have := Hgl.out; have := HR8l.out; have := HR8.out; omega)); rw [t0] at x0; have x2 := cell_blk (a := ⟨R10, 2, none⟩) (hSw.block R10 (cell_lt r2) (by have := HgR.out; omega)); rw [r2] at x2; have he := add_none g 0 J; go_simp; all_goals (with_reducible rfl))
        change wpAnyH _ _ _ _ _ _ _ (Act.put _ (some 55) _) _
        simp only [Act.put, List.setIfInBounds_toArray, List.set_cons_zero, List.set_cons_succ]
        refine wpAnyH_take (i := 2) (v := ?v2) rfl (by kernel_rfl) (by kernel_rfl) (by kernel_rfl) (fun _ _ _ h => h) (Or.inl ⟨by rfl, ?hy2⟩) hHeld ?rest2
        case hy2 => (intro W hSw; (try dsimp only at hSw); have x0 := cell_blk (a := ⟨R0, 0, none⟩) (hSw.block R0 (cell_lt t0) (by have := Hgl.out; have := HR8l.out; have := HR8.out; omega)); rw [t0] at x0; have x2 := cell_blk (a := ⟨R10, 2, none⟩) (hSw.block R10 (cell_lt r2) (by have := HgR.out; omega)); rw [r2] at x2; have he := add_none g 0 J; go_simp; all_goals (with_reducible rfl))
        change wpAnyH _ _ _ _ _ _ _ (Act.put _ (some 57) _) _
        simp only [Act.put, List.setIfInBounds_toArray, List.set_cons_zero, List.set_cons_succ]
        refine wpAnyH_take (i := 5) (v := ?v5) rfl (by kernel_rfl) (by kernel_rfl) (by kernel_rfl) (fun _ _ _ h => h) (Or.inl ⟨by rfl, ?hy5⟩) hHeld ?rest5
        case hy5 => (intro W hSw; (try dsimp only at hSw); have x0 := cell_blk (a := ⟨R0, 0, none⟩) (hSw.block R0 (cell_lt t0) (by have := Hgl.out; have := HR8l.out; have := HR8.out; omega)); rw [t0] at x0; have x2 := cell_blk (a := ⟨R10, 2, none⟩) (hSw.block R10 (cell_lt r2) (by have := HgR.out; omega)); rw [r2] at x2; have he := add_none g 0 J; go_simp; all_goals (with_reducible rfl))
        change wpAnyH _ _ _ _ _ _ _ (Act.put _ (some 60) _) _
        simp only [Act.put, List.setIfInBounds_toArray, List.set_cons_zero, List.set_cons_succ]
        refine wpAnyH_take (i := 7) (v := ?v7) rfl (by kernel_rfl) (by kernel_rfl) (by kernel_rfl) (fun _ _ _ h => h) (Or.inl ⟨by rfl, ?hy7⟩) hHeld ?rest7
        case hy7 => (intro W hSw; (try dsimp only at hSw); have x0 := cell_blk (a := ⟨R0, 0, none⟩) (hSw.block R0 (cell_lt t0) (by have := Hgl.out; have := HR8l.out; have := HR8.out; omega)); rw [t0] at x0; have x2 := cell_blk (a := ⟨R10, 2, none⟩) (hSw.block R10 (cell_lt r2) (by have := HgR.out; omega)); rw [r2] at x2; have he := add_none g 0 J; go_simp; all_goals (with_reducible rfl))
        change wpAnyH _ _ _ _ _ _ _ (Act.put _ (some 62) _) _
        simp only [Act.put, List.setIfInBounds_toArray, List.set_cons_zero, List.set_cons_succ]
        refine wpAnyH_take (i := 1) (v := ?v1) rfl (by kernel_rfl) (by kernel_rfl) (by kernel_rfl) (fun _ _ _ h => h) (Or.inl ⟨by rfl, ?hy1⟩) hHeld ?rest1
        case hy1 => (intro W hSw; (try dsimp only at hSw); have x0 := cell_blk (a := ⟨R0, 0, none⟩) (hSw.block R0 (cell_lt t0) (by have := Hgl.out; have := HR8l.out; have := HR8.out; omega)); rw [t0] at x0; have x2 := cell_blk (a := ⟨R10, 2, none⟩) (hSw.block R10 (cell_lt r2) (by have := HgR.out; omega)); rw [r2] at x2; have he := add_none g 0 J; go_simp; all_goals (with_reducible rfl))
        change wpAnyH _ _ _ _ _ _ _ (Act.put _ (some 56) _) _
        simp only [Act.put, List.setIfInBounds_toArray, List.set_cons_zero, List.set_cons_succ]
        refine wpAnyH_take (i := 3) (v := ?v3) rfl (by kernel_rfl) (by kernel_rfl) (by kernel_rfl) (fun _ _ _ h => h) (Or.inl ⟨by rfl, ?hy3⟩) hHeld ?rest3
        case hy3 => (intro W hSw; (try dsimp only at hSw); have x0 := cell_blk (a := ⟨R0, 0, none⟩) (hSw.block R0 (cell_lt t0) (by have := Hgl.out; have := HR8l.out; have := HR8.out; omega)); rw [t0] at x0; have x2 := cell_blk (a := ⟨R10, 2, none⟩) (hSw.block R10 (cell_lt r2) (by have := HgR.out; omega)); rw [r2] at x2; have he := add_none g 0 J; go_simp; all_goals (with_reducible rfl))
        change wpAnyH _ _ _ _ _ _ _ (Act.put _ (some 58) _) _
        simp only [Act.put, List.setIfInBounds_toArray, List.set_cons_zero, List.set_cons_succ]
        refine wpAnyH_take (i := 6) (v := ?v6) rfl (by kernel_rfl) (by kernel_rfl) (by kernel_rfl) (fun _ _ _ h => h) (Or.inl ⟨by rfl, ?hy6⟩) hHeld ?rest6
        case hy6 => (intro W hSw; (try dsimp only at hSw); have x0 := cell_blk (a := ⟨R0, 0, none⟩) (hSw.block R0 (cell_lt t0) (by have := Hgl.out; have := HR8l.out; have := HR8.out; omega)); rw [t0] at x0; have x2 := cell_blk (a := ⟨R10, 2, none⟩) (hSw.block R10 (cell_lt r2) (by have := HgR.out; omega)); rw [r2] at x2; have he := add_none g 0 J; go_simp; all_goals (with_reducible rfl))
        change wpAnyH _ _ _ _ _ _ _ (Act.put _ (some 61) _) _
        simp only [Act.put, List.setIfInBounds_toArray, List.set_cons_zero, List.set_cons_succ]
        refine wpAnyH_take (i := 4) (v := ?v4) rfl (by kernel_rfl) (by kernel_rfl) (by kernel_rfl) (fun _ _ _ h => h) (Or.inl ⟨by rfl, ?hy4⟩) hHeld ?rest4
        case hy4 => (intro W hSw; (try dsimp only at hSw); have x0 := cell_blk (a := ⟨R0, 0, none⟩) (hSw.block R0 (cell_lt t0) (by have := Hgl.out; have := HR8l.out; have := HR8.out; omega)); rw [t0] at x0; have x2 := cell_blk (a := ⟨R10, 2, none⟩) (hSw.block R10 (cell_lt r2) (by have := HgR.out; omega)); rw [r2] at x2; have he := add_none g 0 J; go_simp; all_goals (with_reducible rfl))
        change wpAnyH _ _ _ _ _ _ _ (Act.put _ (some 59) _) _
        simp only [Act.put, List.setIfInBounds_toArray, List.set_cons_zero, List.set_cons_succ]
        refine wpAnyH_take (i := 8) (v := ?v8) rfl (by kernel_rfl) (by kernel_rfl) (by kernel_rfl) (fun _ _ _ h => h) (Or.inl ⟨by rfl, ?hy8⟩) hHeld ?rest8
        case hy8 => (intro W hSw; (try dsimp only at hSw); have x0 := cell_blk (a := ⟨R0, 0, none⟩) (hSw.block R0 (cell_lt t0) (by have := Hgl.out; have := HR8l.out; have := HR8.out; omega)); rw [t0] at x0; have x2 := cell_blk (a := ⟨R10, 2, none⟩) (hSw.block R10 (cell_lt r2) (by have := HgR.out; omega)); rw [r2] at x2; have he := add_none g 0 J; go_simp; all_goals (with_reducible rfl))
        change wpAnyH _ _ _ _ _ _ _ (Act.put _ (some 63) _) _
        simp only [Act.put, List.setIfInBounds_toArray, List.set_cons_zero, List.set_cons_succ]
        refine wpAnyH_take (i := 9) (v := ?v9) rfl (by kernel_rfl) (by kernel_rfl) (by kernel_rfl) (fun _ _ _ h => h) (Or.inl ⟨by rfl, ?hy9⟩) hHeld ?rest9
        case hy9 => (intro W hSw; (try dsimp only at hSw); have x0 := cell_blk (a := ⟨R0, 0, none⟩) (hSw.block R0 (cell_lt t0) (by have := Hgl.out; have := HR8l.out; have := HR8.out; omega)); rw [t0] at x0; have x2 := cell_blk (a := ⟨R10, 2, none⟩) (hSw.block R10 (cell_lt r2) (by have := HgR.out; omega)); rw [r2] at x2; have he := add_none g 0 J; go_simp; all_goals (with_reducible rfl))
        change wpAnyH _ _ _ _ _ _ _ (Act.put _ (some 64) _) _
        simp only [Act.put, List.setIfInBounds_toArray, List.set_cons_zero, List.set_cons_succ]
        refine wpAnyH_ready (rs := [10]) (by kernel_rfl) (by simp) ?_
        refine AllReadyH.cons rfl (fun K hK => ?_) AllReadyH.nil
        try simp only [List.getElem_toArray, List.getElem_cons_succ, List.getElem_cons_zero]
        rw [if_pos (by rfl)]
        refine wp_copy_own _ _ 22 22 rfl 29 Try.underlying22 (by kernel_rfl) g J (n - J) (n - J) ⟨gc, oc + p * 4, none⟩ 4 4 rfl rfl cur 29 (show wr.drew.heap[g]? = _ from Hcur.out) (cellsU x) ?hmin HSrc.out (by rw [cellsU_length, Hx4.out, Hcs.out]; omega) (cellsU_one x) ?_
        case hmin => (rw [cellsU_length, Hx4.out]; show 4 = min 4 (n - J); omega)
        refine hK.out _ _ (((Fr.of_drewN wr 1).mono fun _ _ h => h.elim).join (setRow_fr _ _ _)) (fun hHeld => ?_)
        clear hK K
        refine wpAnyH_done (by kernel_rfl) ?_ _
        have hset := Own.set (w := wr.drew) (q := x) (HO.out.keep (S := fun _ => False) (Fr.drew1 _ wr) fun _ _ h => h) (show wr.drew.heap[g]? = _ from Hcur.out) (by rw [Hx4.out]; exact hJn) Hgx.out.2 (by omega)
        rw [HJ.out, Hx.out, drawn_step HUr.out.good hlt Hx2.out Hp.out Hpu.out (fun j hj => by rw [HUr.out.len]; exact HA.out j hj), ← HJ.out, ← Hx.out] at hset
        have hfs := setRow_fr wr.drew g (cur.toList.take J ++ (cellsU x ++ cur.toList.drop (J + x.length))).toArray
        have hcl := cellsU_length x
        rw [hcl]
        generalize wr.drew.setRow g (cur.toList.take J ++ (cellsU x ++ cur.toList.drop (J + x.length))).toArray = w5 at hset hfs ⊢
        have HA2 : Hid (∀ j, j < i + 1 → ix.getD j 0 < L) := fun j hj => by
          by_cases e : j = i
          · rw [e, ← Hp.out]; exact hpl
          · exact HA.out j (by omega)
        have Hset := hide hset
        have Hfs := hide hfs
        clear hset hfs hcl hHeld t0 r0 r1 r2 cx
        go_wp2_with fail
        exact ⟨⟨i + 1, by go_num, by omega, Hset.out, HA2.out, HFr.out.join (((Fr.of_drewN wr 1).mono fun _ _ h => h.elim).join Hfs.out)⟩, by simp [intOf]; omega⟩
      · have hii : ¬ (i : Int) < (m : Int) := by omega
        obtain rfl : i = m := by omega
        have hall : ix.all (fun b => decide (b < L)) = true := by
          rw [List.all_eq_true]
          intro b hb
          obtain ⟨j, hj, rfl⟩ := List.getElem_of_mem hb
          have h1 := HA.out j (by rw [Hx2.out] at hj; omega)
          rw [List.getD_eq_getElem?_getD, List.getElem?_eq_getElem hj] at h1
          exact decide_eq_true h1
        have Hall := hide hall
        have h8 := HB8wr.out
        have z0 := cell_of (o := 0) h8 rfl
        have z1 := cell_of (o := 1) h8 rfl
        have z2 := cell_of (o := 2) h8 rfl
        have y0 := frozen_of (o := 0) h8
        have y1 := frozen_of (o := 1) h8
        have y2 := frozen_of (o := 2) h8
        have H8 := hide h8
        clear h8 hall t0
        go_wp2_with fail
        obtain ⟨hb9, f9⟩ := store3 (.int .i64 W) (.int .i64 H) (.slice (some ⟨g, 0, none⟩) n n) H8.out
        obtain ⟨w9, hw9⟩ : ∃ w9, w9 = ((wr.setCell ⟨R8, 0, none⟩ (.int .i64 W)).setCell ⟨R8, 1, none⟩ (.int .i64 H)).setCell ⟨R8, 2, none⟩ (.slice (some ⟨g, 0, none⟩) n n) := ⟨_, rfl⟩
        rw [← hw9] at hb9 f9 ⊢
        obtain ⟨d, u1, u2, u3⟩ := Try.und24
        have hld := run_loadVar_mid (P := Try.prog) w9 R8 0 24 [.int .i64 W, .int .i64 H, .slice (some ⟨g, 0, none⟩) n n] d (rangeAt_cells hb9) u1 u2 u3
        have hO9 := (HO.out.keep f9 (fun ad e h => by cases e; have e2 : g = R8 := h; have := Hgl.out; have := HR8l.out; omega)).low HF1.out.size
        have hlen : 4 * ix.length = n := by rw [Hx2.out, Hnm.out]
        rw [List.take_of_length_le (by rw [Hx2.out]; omega), Nat.sub_self, Nat.mul_zero, List.replicate_zero, List.append_nil] at hO9
        have hd0 : drawE W H L ix = 0 := by rw [HdE.out, Hall.out]; rfl
        exact bodyPost_ret (results_two (t := 8) (s := 9) Try.results31 rfl hld rfl) rfl ⟨frJ HFwr.out f9 fun j hj => by have e : j = R8 := hj; rw [e]; exact HR8w.out, Or.inr ⟨hd0, g, by rw [hlen]; rfl, by rw [hlen]; exact hO9⟩⟩
end Go.Proofs.Ythdilabmajaehaa
