/-
  The law InflateStored.
-/
import Derived.Test.YtleeaofofofgmaaDoorSb
import Derived.Maps.AppendAt
import Derived.Deep.RegionHeldLaw
namespace Go.Proofs.YtleeaofofofgmaaDoor
open Go.RowKit

/-- A row of bytes of one's own. -/
def OwnB (w : World) (base : Nat) (v : Value) (bs : List Nat) : Prop := w.ownsRow base 5 1 v bs.length (cellsOf bs)

theorem cellsOf_app (xs ys : List Nat) : cellsOf (xs ++ ys) = cellsOf xs ++ cellsOf ys := by simp [cellsOf]

/-- What an append to one's own bytes comes to. -/
theorem run_app (w : World) (ty : TypeId) (base : Nat) (v : Value) (bs : List Nat) (hown : OwnB w base v bs) (sv : Value) (ys : List Nat) (hl : Lies w sv ys) (h63 : bs.length + ys.length ≤ 2147483648) (hbase : base ≤ w.heap.size) :
    ∃ a c w', (Builtin.append_ #[22, 22] ty #[v, sv]).run Tryd.prog w = .ok (.slice a (bs.length + ys.length) c) w' ∧ OwnB w' base (.slice a (bs.length + ys.length) c) (bs ++ ys) ∧ Fr (fun i => v.ownBlock = some i) w w' ∧ ((Value.slice a (bs.length + ys.length) c).ownBlock = v.ownBlock ∨ (Value.slice a (bs.length + ys.length) c).ownBlock = some w.heap.size) := by
  obtain ⟨i0, hi, hz0, hz1, hz2⟩ := info_parts Tryd.info5
  rcases hl with ⟨rfl, rfl⟩ | ⟨ad, c, rfl, hc⟩
  · have hrun := run_append_owned_none (P := Tryd.prog) (w := w) base 22 ty 5 i0 1 Tryd.underlying22 hi v bs.length (cellsOf bs) hown
    obtain ⟨a, c, rfl⟩ := ownsRow_shape hown
    refine ⟨a, c, w, hrun, ?_, Fr.refl _ _, Or.inl rfl⟩
    simpa [OwnB] using hown
  · obtain ⟨v', w', h1, h2, h3, _, h5⟩ := run_append_own_at (P := Tryd.prog) w base 22 ty 5 i0 (.int .u8 0) 1 1 Tryd.underlying22 hi hz0 hz1 hz2 rfl (by decide) v bs.length (cellsOf bs) hown ad ys.length c (cellsOf ys) (by simp [cellsOf_length]) hc (cellsOf_one ys) (by unfold maxLen; omega) (by omega) hbase
    obtain ⟨a, c', rfl⟩ := ownsRow_shape h2
    refine ⟨a, c', w', h1, ?_, Fr.of_grown h3, h5⟩
    unfold OwnB
    rw [List.length_append, cellsOf_app]
    exact h2

theorem wp_app {w : World} {o : Oper} {a : Act} {K : Act → World → Prop} {Q : Exit → Act → World → Prop} (s x : Operand)
    (ho : o.op = .call { callee := .builtin .append, args := #[s, x], argTypes := #[22, 22] }) (base : Nat) (v : Value) (bs : List Nat) (hs : a.eval s = v) (hown : OwnB w base v bs)
    (sv : Value) (ys : List Nat) (hx : a.eval x = sv) (hl : Lies w sv ys) (h63 : bs.length + ys.length ≤ 2147483648) (hbase : base ≤ w.heap.size)
    (h : ∀ a' c w', OwnB w' base (.slice a' (bs.length + ys.length) c) (bs ++ ys) → Fr (fun i => v.ownBlock = some i) w w' → ((Value.slice a' (bs.length + ys.length) c).ownBlock = v.ownBlock ∨ (Value.slice a' (bs.length + ys.length) c).ownBlock = some w.heap.size) → K (a.put o.dst (.slice a' (bs.length + ys.length) c)) w') : o.wp Tryd.prog a w K Q := by
  obtain ⟨a', c, w', hr, h2, h3, h4⟩ := run_app w o.type base v bs hown sv ys hl h63 hbase
  unfold Oper.wp execOp
  simp only [ho, resolve, invoke, builtin, Sem.run_bind, Sem.run_pure, Result.andThen_ok, List.map_toArray, List.map_cons, List.map_nil, hs, hx, hr]
  exact h a' c w' h2 h3 h4

theorem wpList_app {w : World} {ops : Array Oper} {rest : List Oper} {o : Oper} {a : Act} {Q : Exit → Act → World → Prop} (hgd : o.guard = none) (s x : Operand)
    (ho : o.op = .call { callee := .builtin .append, args := #[s, x], argTypes := #[22, 22] }) (base : Nat) (v : Value) (bs : List Nat) (hs : a.eval s = v) (hown : OwnB w base v bs)
    (sv : Value) (ys : List Nat) (hx : a.eval x = sv) (hl : Lies w sv ys) (h63 : bs.length + ys.length ≤ 2147483648) (hbase : base ≤ w.heap.size)
    (h : ∀ a' c w', OwnB w' base (.slice a' (bs.length + ys.length) c) (bs ++ ys) → Fr (fun i => v.ownBlock = some i) w w' → ((Value.slice a' (bs.length + ys.length) c).ownBlock = v.ownBlock ∨ (Value.slice a' (bs.length + ys.length) c).ownBlock = some w.heap.size) → wpList Tryd.prog ops Q rest (a.put o.dst (.slice a' (bs.length + ys.length) c)) w') : wpList Tryd.prog ops Q (o :: rest) a w :=
  wpList_plain hgd fun _ hK => wp_app s x ho base v bs hs hown sv ys hx hl h63 hbase fun a' c w' h2 h3 h4 => hK _ _ (h a' c w' h2 h3 h4)

theorem step_app {w : World} {ops : Array Oper} {o : Oper} {a : Act} {K : Act → World → Prop} {Q : Exit → Act → World → Prop} {E : Prop} (hgd : o.guard = none) (s x : Operand)
    (ho : o.op = .call { callee := .builtin .append, args := #[s, x], argTypes := #[22, 22] }) (base : Nat) (v : Value) (bs : List Nat) (hs : a.eval s = v) (hown : OwnB w base v bs)
    (sv : Value) (ys : List Nat) (hx : a.eval x = sv) (hl : Lies w sv ys) (h63 : bs.length + ys.length ≤ 2147483648) (hbase : base ≤ w.heap.size)
    (h : ∀ a' c w', OwnB w' base (.slice a' (bs.length + ys.length) c) (bs ++ ys) → Fr (fun i => v.ownBlock = some i) w w' → ((Value.slice a' (bs.length + ys.length) c).ownBlock = v.ownBlock ∨ (Value.slice a' (bs.length + ys.length) c).ownBlock = some w.heap.size) → K (a.put o.dst (.slice a' (bs.length + ys.length) c)) w') :
    if Region.wanted o (yielded ops a.tmps) = true then Oper.wp Tryd.prog o a w K Q else E := by
  have hw : Region.wanted o (yielded ops a.tmps) = true := by simp [Region.wanted, hgd]
  rw [if_pos hw]
  exact wp_app s x ho base v bs hs hown sv ys hx hl h63 hbase h

/-- Five bytes that were written out. -/
theorem lies_five (w : World) (a b c d e : Int) (xs : List Nat) (h : [a, b, c, d, e] = xs.map (fun (n : Nat) => (n : Int))) : Lies (w.alloc (.cells #[.int .u8 a, .int .u8 b, .int .u8 c, .int .u8 d, .int .u8 e] 5)) (.slice (some ⟨w.heap.size, 0, none⟩) 5 5) xs := by
  have hl : xs.length = 5 := by have := congrArg List.length h; simpa using this.symm
  have hc : #[Value.int .u8 a, .int .u8 b, .int .u8 c, .int .u8 d, .int .u8 e] = (cellsOf xs).toArray := by
    have : cellsOf xs = (xs.map (fun (n : Nat) => (n : Int))).map (fun z => Value.int .u8 z) := by simp [cellsOf]
    rw [this, ← h]
    rfl
  rw [hc]
  have := lies_lit w xs 5
  rwa [hl] at this

theorem not_i64 (m : Nat) (h : m < 9223372036854775808) : bits .xor .i64 (if IntKind.i64.signed = true then -1 else 9223372036854775807) (m : Int) = -(m : Int) - 1 := by
  rw [if_pos (show IntKind.i64.signed = true from rfl)]
  have e0 : BitVec.ofInt 64 (-1) = BitVec.allOnes 64 := by decide
  have e1 : (BitVec.ofInt 64 (m : Int)).toNat = m := by rw [BitVec.toNat_ofInt]; omega
  have e2 : (BitVec.ofInt 64 (-1) ^^^ BitVec.ofInt 64 (m : Int)).toNat = 18446744073709551615 - m := by
    rw [e0, BitVec.allOnes_xor, BitVec.toNat_not, e1]
  show IntKind.i64.wrap (((BitVec.ofInt 64 (-1) ^^^ BitVec.ofInt 64 (m : Int)).toNat : Nat) : Int) = _
  rw [e2]
  simp [IntKind.wrap, IntKind.bits, IntKind.signed]
  omega

theorem five_eq (f m : Nat) (hm : m ≤ 1000) : [(f : Int), IntKind.u8.wrap (m : Int), IntKind.u8.wrap ((m : Int) / 256), IntKind.u8.wrap (bits .xor .i64 (if IntKind.i64.signed = true then -1 else 9223372036854775807) (m : Int)), IntKind.u8.wrap (bits .xor .i64 (if IntKind.i64.signed = true then -1 else 9223372036854775807) (m : Int) / 256)] = (shead f m).map (fun (n : Nat) => (n : Int)) := by
  rw [not_i64 m (by omega)]
  simp only [shead, List.map_cons, List.map_nil, IntKind.wrap_u8']
  have h1 : (m : Int) % 256 = ((m % 256 : Nat) : Int) := by omega
  have h2 : (m : Int) / 256 % 256 = ((m / 256 : Nat) : Int) := by omega
  have h3 : (-(m : Int) - 1) % 256 = ((255 - m % 256 : Nat) : Int) := by omega
  have h4 : (-(m : Int) - 1) / 256 % 256 = ((255 - m / 256 : Nat) : Int) := by omega
  rw [h1, h2, h3, h4]

/-- Behind five bytes that were written out. -/
theorem after_five {K : World → Prop} (w : World) (a b c d e : Int) (xs : List Nat) (h : [a, b, c, d, e] = xs.map (fun (n : Nat) => (n : Int))) (hK : ∀ w1, Lies w1 (.slice (some ⟨w.heap.size, 0, none⟩) 5 5) xs → Fr (fun _ => False) w w1 → K w1) :
    K ((w.alloc (.cells #[.int .u8 a, .int .u8 b, .int .u8 c, .int .u8 d, .int .u8 e] 5)).drew) :=
  hK _ (lies_fr (lies_five w a b c d e xs h) (Fr.of_drewN _ 1)) ((Fr.of_alloc w _).join (Fr.of_drewN _ 1))

theorem keepc {w w' : World} {S : Nat → Prop} {p : Addr} {v : Value} (hF : Fr S w w') (hc : w.cell? p = some v) (hn : ¬ S p.block) : w'.cell? p = some v := by
  rw [cell_blk (hF.block _ (cell_lt hc) hn)]; exact hc

/-- What was written behind i of the pieces. -/
def bstream (ls : List (List Nat)) (i : Nat) : List Nat := if i < ls.length then ((ls.take i).map fun x => shead 0 x.length ++ x).flatten else sstream ls

theorem sstream_snoc (l : List (List Nat)) (x : List Nat) : sstream (l ++ [x]) = (l.map fun x => shead 0 x.length ++ x).flatten ++ (shead 1 x.length ++ x) := by
  induction l with
  | nil => simp [sstream]
  | cons y l ih =>
    have : sstream (y :: (l ++ [x])) = shead 0 y.length ++ y ++ sstream (l ++ [x]) := by
      cases l <;> rfl
    rw [List.cons_append, this, ih]
    simp

theorem bstream_step (ls : List (List Nat)) (i : Nat) (h : i < ls.length) : bstream ls i ++ shead (if i + 1 = ls.length then 1 else 0) (ls.getD i []).length ++ ls.getD i [] = bstream ls (i + 1) := by
  have hg : ls.getD i [] = ls[i] := by simp [List.getElem?_eq_getElem h]
  have ht : ls.take (i + 1) = ls.take i ++ [ls[i]] := List.take_succ_eq_append_getElem h
  rw [hg]
  unfold bstream
  rw [if_pos h]
  by_cases he : i + 1 = ls.length
  · rw [if_pos he, if_neg (by omega)]
    have : ls = ls.take i ++ [ls[i]] := by rw [← ht, he, List.take_length]
    conv => rhs; rw [this, sstream_snoc]
    simp
  · rw [if_neg he, if_pos (by omega), ht, List.map_append, List.flatten_append]
    simp only [List.map_cons, List.map_nil, List.flatten_cons, List.flatten_nil, List.append_nil, List.append_assoc]

theorem bstream_end (ls : List (List Nat)) : bstream ls ls.length = sstream ls := by unfold bstream; rw [if_neg (by omega)]

theorem flat_step (ls : List (List Nat)) (i : Nat) (h : i < ls.length) : (ls.take i).flatten ++ ls.getD i [] = (ls.take (i + 1)).flatten := by
  have hg : ls.getD i [] = ls[i] := by simp [List.getElem?_eq_getElem h]
  rw [hg, List.take_succ_eq_append_getElem h, List.flatten_append]
  simp only [List.flatten_cons, List.flatten_nil, List.append_nil]
end Go.Proofs.YtleeaofofofgmaaDoor
