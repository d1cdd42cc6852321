/-
  lzw: the document's reader keeps rows of bytes.
-/
import Derived.Test.YtdbgolklgiadeaaYc
import Derived.Lib.LazyBuf
namespace Go.Proofs.Ytdbgolklgiadeaa
open Go.RowKit

theorem Try.info22 : (Try.prog.info? 22).map (fun i => (i.zero, i.size, i.bytes)) = some (some (.slice none 0 0), 1, 24) := by kernel_rfl

/-- Slices' own row: an append of one. -/
theorem run_appS (w : World) (ty : TypeId) (base : Nat) (v : Value) (hs : List Value) (hown : w.ownsRow base 22 1 v hs.length hs) (ad : Addr) (c : Nat) (x : Value) (hx : x.oneCell' = true) (hc : w.cell? ad = some x) (h63 : hs.length ≤ 100000) (hbase : base ≤ w.heap.size) :
    ∃ a c' w', (Builtin.append_ #[57, 57] ty #[v, .slice (some ad) 1 c]).run Try.prog w = .ok (.slice a (hs.length + 1) c') w' ∧ w'.ownsRow base 22 1 (.slice a (hs.length + 1) c') (hs.length + 1) (hs ++ [x]) ∧ Fr (fun i => v.ownBlock = some i) w w' ∧ ((Value.slice a (hs.length + 1) c').ownBlock = v.ownBlock ∨ (Value.slice a (hs.length + 1) c').ownBlock = some w.heap.size) := by
  obtain ⟨i0, hi, hz0, hz1, hz2⟩ := info_parts Try.info22
  have hcell : ∀ j u, [x][j]? = some u → w.cell? (ad.add j) = some u := by
    intro j u hj
    cases j with
    | zero => simp at hj; subst hj; exact hc
    | succ j => simp at hj
  obtain ⟨v', w', h1, h2, h3, _, h5⟩ := run_append_own_at (P := Try.prog) w base 57 ty 22 i0 (.slice none 0 0) 1 24 Try.underlying57 hi hz0 hz1 hz2 rfl (by decide) v hs.length hs hown ad 1 c [x] rfl hcell (by intro u hu; simp at hu; subst hu; exact hx) (by unfold maxLen; omega) (by omega) hbase
  obtain ⟨a, c', rfl⟩ := ownsRow_shape h2
  exact ⟨a, c', w', h1, h2, Fr.of_grown h3, h5⟩

theorem wp_appS {w : World} {o : Oper} {a : Act} {K : Act → World → Prop} {Q : Exit → Act → World → Prop} (s x : Operand)
    (ho : o.op = .call { callee := .builtin .append, args := #[s, x], argTypes := #[57, 57] }) (base : Nat) (v : Value) (hs : List Value) (hsv : a.eval s = v) (hown : w.ownsRow base 22 1 v hs.length hs)
    (ad : Addr) (c : Nat) (y : Value) (hx : a.eval x = .slice (some ad) 1 c) (hy : y.oneCell' = true) (hc : w.cell? ad = some y) (h63 : hs.length ≤ 100000) (hbase : base ≤ w.heap.size)
    (h : ∀ a' c' w', w'.ownsRow base 22 1 (.slice a' (hs.length + 1) c') (hs.length + 1) (hs ++ [y]) → Fr (fun i => v.ownBlock = some i) w w' → ((Value.slice a' (hs.length + 1) c').ownBlock = v.ownBlock ∨ (Value.slice a' (hs.length + 1) c').ownBlock = some w.heap.size) → K (a.put o.dst (.slice a' (hs.length + 1) c')) w') : o.wp Try.prog a w K Q := by
  obtain ⟨a', c', w', hr, h2, h3, h4⟩ := run_appS w o.type base v hs hown ad c y hy hc h63 hbase
  unfold Oper.wp execOp
  simp only [ho, resolve, invoke, builtin, Sem.run_bind, Sem.run_pure, Result.andThen_ok, List.map_toArray, List.map_cons, List.map_nil, hsv, hx, hr]
  exact h a' c' w' h2 h3 h4

theorem add_at (g j : Nat) : (⟨g, 0, none⟩ : Addr).add j = ⟨g, j, none⟩ := by
  unfold Addr.add
  split
  · next h => subst h; rfl
  · simp

/-- A row of bytes at an address, apart from the two rows that grow. -/
structure Dr (w : World) (R : Nat) (rv ov : Value) (ad : Nat) (x : List Nat) : Prop where
  cells : ∀ j u, (cellsOf x)[j]? = some u → w.cell? ⟨ad, j, none⟩ = some u
  lo : R < ad
  hi : ad < w.heap.size
  or : rv.ownBlock ≠ some ad
  oo : ov.ownBlock ≠ some ad

theorem Dr.lies {w : World} {R : Nat} {rv ov : Value} {ad : Nat} {x : List Nat} (h : Dr w R rv ov ad x) (c : Nat) : Lies w (.slice (some ⟨ad, 0, none⟩) x.length c) x := Or.inr ⟨⟨ad, 0, none⟩, c, rfl, fun j u hu => by rw [add_at]; exact h.cells j u hu⟩

theorem add_block (ad : Addr) (j : Nat) : (ad.add j).block = ad.block := by unfold Addr.add; split <;> rfl

theorem Grown.ne {w : World} {v v' : Value} (g : Grown w v v') {b : Nat} (h : v.ownBlock ≠ some b) (hb : b < w.heap.size) : v'.ownBlock ≠ some b := by
  intro e
  rcases g with g | g
  · exact h (g ▸ e)
  · have := g b e
    omega

theorem Dr.fr {w w' : World} {R : Nat} {rv ov rv' ov' : Value} {ad : Nat} {x : List Nat} (h : Dr w R rv ov ad x) {S : Nat → Prop} (F : Fr S w w') (hS : ¬ S ad) (g1 : Grown w rv rv') (g2 : Grown w ov ov') : Dr w' R rv' ov' ad x :=
  ⟨fun j u hu => (cell_blk (a := ⟨ad, j, none⟩) (F.block _ h.hi hS)).trans (h.cells j u hu), h.lo, Nat.lt_of_lt_of_le h.hi F.size, g1.ne h.or h.hi, g2.ne h.oo h.hi⟩

theorem Grown.rfl' {w : World} {v : Value} : Grown w v v := Or.inl rfl

theorem Grown.of_new {w : World} {v v' : Value} (h : v'.ownBlock = v.ownBlock ∨ v'.ownBlock = some w.heap.size) : Grown w v v' :=
  h.imp id fun h j hj => by rw [h] at hj; injection hj with hj; omega

/-- The document's reader at work. -/
structure Dz (w : World) (R : Nat) (rv ov : Value) (hs : List Value) (rows : List (List Nat)) (out : List Nat) : Prop where
  own : OwnB w (R + 1) ov out
  rws : w.ownsRow (R + 1) 22 1 rv hs.length hs
  hl : hs.length = rows.length
  at_ : ∀ (i : Nat) (x : List Nat), rows[i]? = some x → ∃ ad c, hs[i]? = some (Value.slice (some ⟨ad, 0, none⟩) x.length c) ∧ Dr w R rv ov ad x

theorem own_ne {w : World} {lo lo' n n' : Nat} {v v' : Value} {xs xs' : List Value} (h : w.ownsRow lo 5 1 v n xs) (h' : w.ownsRow lo' 22 1 v' n' xs') : ∀ j, v.ownBlock = some j → v'.ownBlock ≠ some j := by
  intro j hj e
  rcases h.2 with ⟨rfl, _⟩ | ⟨g, cap, cur, rfl, _, hh, _⟩
  · cases hj
  rcases h'.2 with ⟨rfl, _⟩ | ⟨g', cap', cur', rfl, _, hh', _⟩
  · cases e
  injection hj with hj
  injection e with e
  simp at hj e
  subst hj e
  rw [hh] at hh'
  injection hh' with hh'
  injection hh' with _ h2 _
  exact absurd h2 (by decide)

theorem Dz.fr {w w' : World} {R : Nat} {rv ov : Value} {hs : List Value} {rows : List (List Nat)} {out : List Nat} (h : Dz w R rv ov hs rows out) {S : Nat → Prop} (F : Fr S w w') (hS : ∀ j, R < j → ¬ S j) : Dz w' R rv ov hs rows out :=
  ⟨ownsRow_fr h.own fun j hj => F.block j (World.ownsRow.lt h.own j hj).2 (hS j (World.ownsRow.lt h.own j hj).1), ownsRow_fr h.rws fun j hj => F.block j (World.ownsRow.lt h.rws j hj).2 (hS j (World.ownsRow.lt h.rws j hj).1), h.hl, fun i x hx => by
    obtain ⟨ad, c, h1, h2⟩ := h.at_ i x hx
    exact ⟨ad, c, h1, h2.fr F (hS _ h2.lo) Grown.rfl' Grown.rfl'⟩⟩

theorem Dz.put {w w' : World} {R : Nat} {rv ov ov' : Value} {hs : List Value} {rows : List (List Nat)} {out out' : List Nat} (h : Dz w R rv ov hs rows out) (F : Fr (fun i => ov.ownBlock = some i) w w') (ho : OwnB w' (R + 1) ov' out') (g : Grown w ov ov') : Dz w' R rv ov' hs rows out' :=
  ⟨ho, ownsRow_fr h.rws fun j hj => F.block j (World.ownsRow.lt h.rws j hj).2 (fun e => own_ne h.own h.rws j e hj), h.hl, fun i x hx => by
    obtain ⟨ad, c, h1, h2⟩ := h.at_ i x hx
    exact ⟨ad, c, h1, h2.fr F h2.oo Grown.rfl' g⟩⟩

theorem Dz.push {w w' : World} {R : Nat} {rv rv' ov : Value} {hs : List Value} {rows : List (List Nat)} {out : List Nat} (h : Dz w R rv ov hs rows out) (F : Fr (fun i => rv.ownBlock = some i) w w') {ad : Nat} {c : Nat} {x : List Nat} (hd : Dr w R rv ov ad x)
    (hr : w'.ownsRow (R + 1) 22 1 rv' (hs.length + 1) (hs ++ [.slice (some ⟨ad, 0, none⟩) x.length c])) (g : Grown w rv rv') : Dz w' R rv' ov (hs ++ [.slice (some ⟨ad, 0, none⟩) x.length c]) (rows ++ [x]) out := by
  refine ⟨ownsRow_fr h.own fun j hj => F.block j (World.ownsRow.lt h.own j hj).2 (own_ne h.own h.rws j hj), by simpa using hr, by simp [h.hl], fun i y hy => ?_⟩
  by_cases hi : i < rows.length
  · rw [List.getElem?_append_left hi] at hy
    obtain ⟨ad', c', h1, h2⟩ := h.at_ i y hy
    exact ⟨ad', c', by rw [List.getElem?_append_left (by rw [h.hl]; exact hi)]; exact h1, h2.fr F h2.or g Grown.rfl'⟩
  · rw [List.getElem?_append_right (by omega)] at hy
    have e : i = rows.length := by
      by_cases e : i - rows.length = 0
      · omega
      · rw [List.getElem?_eq_none (by simp; omega)] at hy
        cases hy
    subst e
    simp at hy
    subst hy
    refine ⟨ad, c, ?_, hd.fr F hd.or g Grown.rfl'⟩
    rw [← h.hl, List.getElem?_append_right (Nat.le_refl _), Nat.sub_self]
    rfl

/-- What is new lies apart from the two. -/
theorem Dr.new {w w' : World} {R : Nat} {rv ov : Value} {hs : List Value} {rows : List (List Nat)} {out : List Nat} (h : Dz w R rv ov hs rows out) {ad : Nat} {x : List Nat} (hR : R < w.heap.size) (hc : ∀ j u, (cellsOf x)[j]? = some u → w'.cell? ⟨ad, j, none⟩ = some u) (hb : w.heap.size ≤ ad) (hb2 : ad < w'.heap.size) : Dr w' R rv ov ad x :=
  ⟨hc, by omega, hb2, fun e => by have := (World.ownsRow.lt h.rws _ e).2; omega, fun e => by have := (World.ownsRow.lt h.own _ e).2; omega⟩

theorem Dr.of_own {w w' : World} {R : Nat} {rv ov : Value} {hs : List Value} {rows : List (List Nat)} {out : List Nat} (h : Dz w R rv ov hs rows out) {v : Value} {x : List Nat} {lo : Nat} (hR : R < w.heap.size) (hlo : w.heap.size ≤ lo) (ho : OwnB w' lo v x) (hx : x ≠ []) : ∃ ad c, v = .slice (some ⟨ad, 0, none⟩) x.length c ∧ Dr w' R rv ov ad x := by
  rcases ho.2 with ⟨_, e⟩ | ⟨g, cap, cur, e, hg, hh, _⟩
  · exact absurd (List.eq_nil_of_length_eq_zero e) hx
  · refine ⟨g, cap, e, Dr.new h hR ?_ (Nat.le_trans hlo hg) (lt_of hh)⟩
    intro j u hu
    have := World.ownsRow.cells ho (g := g) (by rw [e]; rfl) j u hu
    first | exact this | (rw [← add_at]; exact this)

theorem Rf.keepR {w w' : World} {R : Nat} {sv : Value} {bs : List Nat} {p : Nat} (h : Rf w R sv bs p false) {S : Nat → Prop} (F : Fr S w w') (hS : ∀ j, S j → R < j) (hsb : bs ≠ [] → ∀ ad n c, sv = .slice (some ad) n c → ad.block < R) (hR : R < w.heap.size) : Rf w' R sv bs p false :=
  h.keep F (fun e => by have := hS _ e; omega) fun hne ad n c e => ⟨by have := hsb hne ad n c e; omega, fun e2 => by have := hS _ e2; have := hsb hne ad n c e; omega⟩

theorem nilN (w : World) (a : Option Addr) (n c : Nat) : (binOp .neq 22 (.slice a n c) (.slice none 0 0)).run Try.prog w = .ok (.bool (!a.isNone)) w := run_neq_slice_nil (P := Try.prog) w 22 5 a n c Try.underlying22
end Go.Proofs.Ytdbgolklgiadeaa
