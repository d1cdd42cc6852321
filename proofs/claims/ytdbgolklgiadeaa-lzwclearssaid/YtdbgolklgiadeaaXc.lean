/-
  Rows of bytes, and what is put behind them.
-/
import Derived.Test.YtdbgolklgiadeaaBo
import Derived.Test.YtdbgolklgiadeaaBx
import Derived.Test.YtdbgolklgiadeaaXa
import Derived.Maps.AppendAt
import Derived.Laws.AppendOwnNone
namespace Go.Proofs.Ytdbgolklgiadeaa
open Go.RowKit

theorem cell_blk {w w' : World} {a : Addr} (h : w'.heap[a.block]? = w.heap[a.block]?) : w'.cell? a = w.cell? a := by
  unfold World.cell?
  rw [h]

theorem cell_lt {w : World} {a : Addr} {v : Value} (h : w.cell? a = some v) : a.block < w.heap.size := World.block_lt_of_cell? w _ h

theorem Fr.join' {a b c : World} (h : Fr (fun _ => False) a b) (k : Below a.heap.size b c) : Fr (fun _ => False) a c :=
  (h.trans (Fr.of_below k)).mono fun i hi e => e.elim id (fun e => by omega)

theorem lies_frS {w w' : World} {S : Nat → Prop} {sv : Value} {bs : List Nat} (h : Lies w sv bs) (hF : Fr S w w') (hn : ∀ ad n c, sv = .slice (some ad) n c → ad.block < w.heap.size → ¬ S ad.block) : Lies w' sv bs := by
  rcases h with h | ⟨ad, c, rfl, h2⟩
  · exact Or.inl h
  · refine Or.inr ⟨ad, c, rfl, fun j u hu => ?_⟩
    have h3 := h2 j u hu
    have hb : (ad.add j).block = ad.block := by unfold Addr.add; split <;> rfl
    rw [cell_blk (hF.block _ (cell_lt h3) (by rw [hb]; exact hn ad _ _ rfl (by rw [← hb]; exact cell_lt h3)))]
    exact h3

theorem lies_false {w w' : World} {sv : Value} {bs : List Nat} (h : Lies w sv bs) (f : Fr (fun _ => False) w w') : Lies w' sv bs := lies_frS h f fun _ _ _ _ _ hS => hS

theorem own_monoZ {w : World} {lo lo' : Nat} {e : TypeId} {size : Nat} {v : Value} {n : Nat} {xs : List Value} (h : w.ownsRow lo e size v n xs) (hl : lo' ≤ lo) : w.ownsRow lo' e size v n xs :=
  ⟨h.1, h.2.imp id fun ⟨g, cap, cur, hv, hg, r⟩ => ⟨g, cap, cur, hv, Nat.le_trans hl hg, r⟩⟩

theorem sub_bytes {bs : List Nat} (h : ∀ b ∈ bs, b < 256) (n : Nat) : ∀ b ∈ bs.drop n, b < 256 := fun b hb => h b (List.mem_of_mem_drop hb)

theorem drop_lies {w : World} {ad : Addr} {m c : Nat} {bs : List Nat} (h : Lies w (.slice (some ad) m c) bs) (n c' : Nat) : Lies w (.slice (some (ad.add n)) (bs.drop n).length c') (bs.drop n) := by
  rcases h with ⟨e, _⟩ | ⟨ad', c2, e, hc⟩
  · cases e
  · cases e
    refine Or.inr ⟨ad.add n, c', rfl, fun j u hu => ?_⟩
    have e1 : (ad.add n).add j = ad.add (n + j) := by
      unfold Addr.add
      by_cases h1 : n = 0 <;> by_cases h2 : j = 0 <;> simp_all [Nat.add_assoc]
    rw [e1]
    refine hc (n + j) u ?_
    rw [← hu]
    simp [cellsOf]

theorem getD_take_succ (bs : List Nat) (k : Nat) (h : k < bs.length) : bs.take (k + 1) = bs.take k ++ [bs.getD k 0] := by
  rw [List.take_succ_eq_append_getElem h]
  simp [List.getD_eq_getElem?_getD, List.getElem?_eq_getElem h]

/-- Bytes that lie in memory from an address on. -/
def Lz (w : World) (a : Option Addr) (bs : List Nat) : Prop := (∀ b ∈ bs, b < 256) ∧ ∀ j, j < bs.length → ∃ ad, a = some ad ∧ w.cell? (ad.add j) = some (.int .u8 ((bs.getD j 0 : Nat) : Int))

theorem getD_mem (bs : List Nat) (k : Nat) (h : k < bs.length) : bs.getD k 0 ∈ bs := by
  rw [List.getD_eq_getElem?_getD, List.getElem?_eq_getElem h]; exact List.getElem_mem _

theorem Lz.of {w : World} {a : Option Addr} {n c : Nat} {bs : List Nat} (h : Lies w (.slice a n c) bs) (hb : ∀ b ∈ bs, b < 256) : Lz w a bs := by
  refine ⟨hb, fun j hj => ?_⟩
  rcases h with ⟨e, rfl⟩ | ⟨ad, c', e, hc⟩
  · simp at hj
  · obtain ⟨rfl, _⟩ : a = some ad ∧ n = bs.length := by
      injection e with e1 e2
      exact ⟨e1, e2⟩
    refine ⟨ad, rfl, hc j _ ?_⟩
    simp [cellsOf, List.getD_eq_getElem?_getD, List.getElem?_eq_getElem hj]

theorem Lz.fr {w w' : World} {a : Option Addr} {bs : List Nat} (h : Lz w a bs) (F : Fr (fun _ => False) w w') : Lz w' a bs := ⟨h.1, fun j hj => by
  obtain ⟨ad, e, hc⟩ := h.2 j hj
  refine ⟨ad, e, ?_⟩
  rw [cell_blk (F.block _ (cell_lt hc) (fun h => h))]
  exact hc⟩

theorem own_capZ {w : World} {lo n c : Nat} {a : Option Addr} {xs : List Value} (h : w.ownsRow lo 5 1 (.slice a n c) n xs) : n ≤ c := by
  rcases h.2 with ⟨hv, e0⟩ | ⟨g, cap, cur, hv, _, _, hr, _⟩
  · omega
  · obtain ⟨_, _, e3⟩ := Value.slice.inj hv; omega

/-- A row of bytes that is a block's own, from its first cell on. -/
def Bk (w : World) (g : Nat) (Z : List Nat) : Prop := ∃ cur : Array Value, w.heap[g]? = some (.cells cur 5 (0, 0)) ∧ Z.length ≤ cur.size ∧ cur.toList.take Z.length = cellsOf Z

theorem own_bk {w : World} {lo n c : Nat} {a : Option Addr} {Z : List Nat} (h : w.ownsRow lo 5 1 (.slice a n c) n (cellsOf Z)) (hn : 0 < n) (hZ : n = Z.length) : ∃ g, a = some ⟨g, 0, none⟩ ∧ lo ≤ g ∧ g < w.heap.size ∧ n ≤ c ∧ Bk w g Z := by
  rcases h.2 with ⟨_, e⟩ | ⟨g, cap, cur, hv, hg, hh, hr, hm, hs, ht⟩
  · omega
  · obtain ⟨e1, _, e3⟩ := Value.slice.inj hv
    subst hZ
    refine ⟨g, e1, hg, lt_of hh, by omega, cur, hh, by omega, ?_⟩
    rw [Nat.mul_one] at ht
    exact ht

theorem Bk.set {w : World} {g : Nat} {Z : List Nat} (h : Bk w g Z) (k x : Nat) : Bk (w.setCell ⟨g, k, none⟩ (.int .u8 (x : Int))) g (Z.set k x) := by
  obtain ⟨cur, h1, h2, h3⟩ := h
  refine ⟨cur.setIfInBounds k (.int .u8 (x : Int)), heap_setCell_own _ h1, by simpa using h2, ?_⟩
  rw [List.length_set, Array.toList_setIfInBounds, List.take_set, h3]
  simp [cellsOf, List.map_set]

theorem Bk.lies {w : World} {g : Nat} {Z : List Nat} (h : Bk w g Z) (c : Nat) : Lies w (.slice (some ⟨g, 0, none⟩) Z.length c) Z := by
  obtain ⟨cur, h1, h2, h3⟩ := h
  refine Or.inr ⟨⟨g, 0, none⟩, c, rfl, fun j u hu => ?_⟩
  rw [Addr.add_mid, Nat.zero_add]
  refine cell_of h1 ?_
  rw [← h3, List.getElem?_take] at hu
  split at hu
  · simpa using hu
  · cases hu

theorem Bk.cell {w : World} {g : Nat} {Z : List Nat} (h : Bk w g Z) (k x : Nat) (hk : Z[k]? = some x) : w.cell? ⟨g, k, none⟩ = some (.int .u8 (x : Int)) ∧ w.frozen? ⟨g, k, none⟩ = false := by
  obtain ⟨cur, h1, h2, h3⟩ := h
  refine ⟨cell_of h1 ?_, frozen_of h1⟩
  have hu : (cellsOf Z)[k]? = some (.int .u8 (x : Int)) := by simp [cellsOf, hk]
  rw [← h3, List.getElem?_take] at hu
  split at hu
  · simpa using hu
  · cases hu

theorem Bk.fr {w w' : World} {g : Nat} {Z : List Nat} (h : Bk w g Z) (F : Fr (fun _ => False) w w') : Bk w' g Z := by
  obtain ⟨cur, hh, h2, h3⟩ := h
  exact ⟨cur, (F.block g (lt_of hh) (fun h => h)).trans hh, h2, h3⟩

theorem set_bytes {Z : List Nat} (h : ∀ b ∈ Z, b < 256) (i x : Nat) (hx : x < 256) : ∀ b ∈ Z.set i x, b < 256 := fun b hb => by
  rcases List.mem_or_eq_of_mem_set hb with h1 | rfl
  · exact h b h1
  · exact hx

theorem frJ {a b c : World} {S : Nat → Prop} (h : Fr (fun _ => False) a b) (k : Fr S b c) (hs : ∀ i, S i → a.heap.size ≤ i) : Fr (fun _ => False) a c :=
  (h.trans k).mono fun j hj e => by
    rcases e with e | e
    · exact e
    · have := hs j e; omega

theorem Bk.take {w : World} {g : Nat} {Z : List Nat} (h : Bk w g Z) (i : Nat) (hi : i ≤ Z.length) : Bk w g (Z.take i) := by
  obtain ⟨cur, hh, h2, h3⟩ := h
  refine ⟨cur, hh, by rw [List.length_take]; omega, ?_⟩
  have e : (Z.take i).length = i := by rw [List.length_take]; omega
  have : cur.toList.take i = (cur.toList.take Z.length).take i := by rw [List.take_take, Nat.min_eq_left hi]
  rw [e, this, h3]
  simp [cellsOf, List.map_take]

theorem Fr.of_grown {w w' : World} {o : Option Nat} (h : w.grownBy w' o) : Fr (fun k => o = some k) w w' := ⟨h.os, h.tape, h.output, h.size, fun k hk hn => h.block k hk (fun e => hn e.symm)⟩

theorem cells_at {w w' : World} {S : Nat → Prop} {D : Nat} {cs : Array Value} {T : TypeId} (h : w.heap[D]? = some (.cells cs T (0, 0))) (f : Fr S w w') (hn : ¬ S D) : w'.heap[D]? = some (.cells cs T (0, 0)) := (f.block D (lt_of h) hn).trans h

/-- A row of bytes of one's own. -/
def OwnB (w : World) (base : Nat) (v : Value) (bs : List Nat) : Prop := w.ownsRow base 5 1 v bs.length (cellsOf bs)

theorem cellsOf_app (xs ys : List Nat) : cellsOf (xs ++ ys) = cellsOf xs ++ cellsOf ys := by simp [cellsOf]

/-- What an append to one's own bytes comes to. -/
theorem run_app (w : World) (ty : TypeId) (base : Nat) (v : Value) (bs : List Nat) (hown : OwnB w base v bs) (sv : Value) (ys : List Nat) (hl : Lies w sv ys) (h63 : bs.length + ys.length ≤ 2147483648) (hbase : base ≤ w.heap.size) :
    ∃ a c w', (Builtin.append_ #[22, 22] ty #[v, sv]).run Try.prog w = .ok (.slice a (bs.length + ys.length) c) w' ∧ OwnB w' base (.slice a (bs.length + ys.length) c) (bs ++ ys) ∧ Fr (fun i => v.ownBlock = some i) w w' ∧ ((Value.slice a (bs.length + ys.length) c).ownBlock = v.ownBlock ∨ (Value.slice a (bs.length + ys.length) c).ownBlock = some w.heap.size) := by
  obtain ⟨i0, hi, hz0, hz1, hz2⟩ := info_parts Try.info5
  rcases hl with ⟨rfl, rfl⟩ | ⟨ad, c, rfl, hc⟩
  · have hrun := run_append_owned_none (P := Try.prog) (w := w) base 22 ty 5 i0 1 Try.underlying22 hi v bs.length (cellsOf bs) hown
    obtain ⟨a, c, rfl⟩ := ownsRow_shape hown
    refine ⟨a, c, w, hrun, ?_, Fr.refl _ _, Or.inl rfl⟩
    simpa [OwnB] using hown
  · obtain ⟨v', w', h1, h2, h3, _, h5⟩ := run_append_own_at (P := Try.prog) w base 22 ty 5 i0 (.int .u8 0) 1 1 Try.underlying22 hi hz0 hz1 hz2 rfl (by decide) v bs.length (cellsOf bs) hown ad ys.length c (cellsOf ys) (by simp [cellsOf_length]) hc (cellsOf_one ys) (by unfold maxLen; omega) (by omega) hbase
    obtain ⟨a, c', rfl⟩ := ownsRow_shape h2
    refine ⟨a, c', w', h1, ?_, Fr.of_grown h3, h5⟩
    unfold OwnB
    rw [List.length_append, cellsOf_app]
    exact h2

theorem wp_app {w : World} {o : Oper} {a : Act} {K : Act → World → Prop} {Q : Exit → Act → World → Prop} (s x : Operand)
    (ho : o.op = .call { callee := .builtin .append, args := #[s, x], argTypes := #[22, 22] }) (base : Nat) (v : Value) (bs : List Nat) (hs : a.eval s = v) (hown : OwnB w base v bs)
    (sv : Value) (ys : List Nat) (hx : a.eval x = sv) (hl : Lies w sv ys) (h63 : bs.length + ys.length ≤ 2147483648) (hbase : base ≤ w.heap.size)
    (h : ∀ a' c w', OwnB w' base (.slice a' (bs.length + ys.length) c) (bs ++ ys) → Fr (fun i => v.ownBlock = some i) w w' → ((Value.slice a' (bs.length + ys.length) c).ownBlock = v.ownBlock ∨ (Value.slice a' (bs.length + ys.length) c).ownBlock = some w.heap.size) → K (a.put o.dst (.slice a' (bs.length + ys.length) c)) w') : o.wp Try.prog a w K Q := by
  obtain ⟨a', c, w', hr, h2, h3, h4⟩ := run_app w o.type base v bs hown sv ys hl h63 hbase
  unfold Oper.wp execOp
  simp only [ho, resolve, invoke, builtin, Sem.run_bind, Sem.run_pure, Result.andThen_ok, List.map_toArray, List.map_cons, List.map_nil, hs, hx, hr]
  exact h a' c w' h2 h3 h4

theorem wpList_app {w : World} {ops : Array Oper} {rest : List Oper} {o : Oper} {a : Act} {Q : Exit → Act → World → Prop} (hgd : o.guard = none) (s x : Operand)
    (ho : o.op = .call { callee := .builtin .append, args := #[s, x], argTypes := #[22, 22] }) (base : Nat) (v : Value) (bs : List Nat) (hs : a.eval s = v) (hown : OwnB w base v bs)
    (sv : Value) (ys : List Nat) (hx : a.eval x = sv) (hl : Lies w sv ys) (h63 : bs.length + ys.length ≤ 2147483648) (hbase : base ≤ w.heap.size)
    (h : ∀ a' c w', OwnB w' base (.slice a' (bs.length + ys.length) c) (bs ++ ys) → Fr (fun i => v.ownBlock = some i) w w' → ((Value.slice a' (bs.length + ys.length) c).ownBlock = v.ownBlock ∨ (Value.slice a' (bs.length + ys.length) c).ownBlock = some w.heap.size) → wpList Try.prog ops Q rest (a.put o.dst (.slice a' (bs.length + ys.length) c)) w') : wpList Try.prog ops Q (o :: rest) a w :=
  wpList_plain hgd fun _ hK => wp_app s x ho base v bs hs hown sv ys hx hl h63 hbase fun a' c w' h2 h3 h4 => hK _ _ (h a' c w' h2 h3 h4)

/-- A text of bytes. -/
def strOf (bs : List Nat) : ByteArray := ⟨(bs.map UInt8.ofNat).toArray⟩

theorem str_lies {w : World} {sv : Value} {bs : List Nat} (h : Lies w sv bs) (hlt : ∀ b ∈ bs, b < 256) : (convert 22 9 sv).run Try.prog w = .ok (.string (strOf bs)) w := by
  rcases h with ⟨rfl, rfl⟩ | ⟨ad, c, rfl, hc⟩
  · rw [run_convert_bytes_string w 22 9 5 none 0 0 Try.underlying22 Try.underlying5 Try.underlying9]
    rfl
  · have := run_convert_bytes_back (P := Try.prog) w 22 9 5 ad c (bs.map UInt8.ofNat) Try.underlying22 Try.underlying5 Try.underlying9 (fun j hj => by
      have hj' : j < bs.length := by simpa using hj
      have hb := hlt bs[j] (List.getElem_mem hj')
      rw [hc j (.int .u8 ((bs[j] : Nat) : Int)) (by simp [cellsOf, List.getElem?_eq_getElem hj'])]
      simp
      omega)
    rw [List.length_map] at this
    exact this


end Go.Proofs.Ytdbgolklgiadeaa
