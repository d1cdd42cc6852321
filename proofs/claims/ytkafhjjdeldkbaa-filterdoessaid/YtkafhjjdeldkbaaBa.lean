/-
  filter: frames, bytes that lie in memory, bytes of one's own, strings out of bytes.
-/
import Derived.Test.YtkafhjjdeldkbaaRows
import Derived.BigQuiet
import Derived.ChangeOld
import Derived.Deep.QuietTactic
import Derived.Deep.RegionHeld3
import Derived.Laws.AppendOwnNone
import Derived.Laws.BytesString
import Derived.Laws.IdiomStrings
import Derived.Laws.OwnMore
import Derived.Lib.AppendStr
import Derived.OpenShut
import Derived.ProofKit
import Derived.ShutString
import Derived.WalkKit
import Derived.WalkLawsBesides
import Derived.WalkSpells
namespace Go.Proofs.Ytkafhjjdeldkbaa
open Go.RowKit Go.Lib
set_option linter.unusedVariables false

theorem hide {p : Prop} (h : p) : Hid p := h
theorem ret_int {k : IntKind} {a b : Int} (h : a = b) : Ending.returned (.int k a) = .returned (.int k b) := by rw [h]
theorem wrap_u32_nat (b : Nat) (hb : b < 4294967296) : IntKind.u32.wrap (b : Int) = (b : Int) := by
  rw [IntKind.wrap_u32']; omega
theorem getD_take_succ (bs : List Nat) (k : Nat) (h : k < bs.length) : bs.take (k + 1) = bs.take k ++ [bs.getD k 0] := by
  rw [List.take_succ_eq_append_getElem h]
  simp [List.getD_eq_getElem?_getD, List.getElem?_eq_getElem h]
/-- Bytes that lie in memory from an address on. -/
def Lies (w : World) (a : Option Addr) (bs : List Nat) : Prop := (∀ b ∈ bs, b < 256) ∧ ∀ j, j < bs.length → ∃ ad, a = some ad ∧ w.cell? (ad.add j) = some (.int .u8 ((bs.getD j 0 : Nat) : Int))
theorem getD_mem (bs : List Nat) (k : Nat) (h : k < bs.length) : bs.getD k 0 ∈ bs := by
  rw [List.getD_eq_getElem?_getD, List.getElem?_eq_getElem h]; exact List.getElem_mem _
/-- From w to w' only the blocks of S have turned (and new ones have come). -/
structure Fr (S : Nat → Prop) (w w' : World) : Prop where
  os : w'.os = w.os
  tape : w'.tape = w.tape
  output : w'.output = w.output
  size : w.heap.size ≤ w'.heap.size
  block : ∀ k, k < w.heap.size → ¬ S k → w'.heap[k]? = w.heap[k]?
theorem Fr.refl (S : Nat → Prop) (w : World) : Fr S w w := ⟨rfl, rfl, rfl, Nat.le_refl _, fun _ _ _ => rfl⟩
theorem Fr.trans {S S' : Nat → Prop} {a b c : World} (h : Fr S a b) (k : Fr S' b c) : Fr (fun i => S i ∨ S' i) a c :=
  ⟨k.os.trans h.os, k.tape.trans h.tape, k.output.trans h.output, Nat.le_trans h.size k.size, fun i hi hs =>
    (k.block i (Nat.lt_of_lt_of_le hi h.size) (fun x => hs (Or.inr x))).trans (h.block i hi (fun x => hs (Or.inl x)))⟩
/-- S may be widened on old blocks. -/
theorem Fr.mono {S S' : Nat → Prop} {a b : World} (h : Fr S a b) (hs : ∀ k, k < a.heap.size → S k → S' k) : Fr S' a b :=
  ⟨h.os, h.tape, h.output, h.size, fun i hi hn => h.block i hi (fun x => hn (hs i hi x))⟩
theorem Fr.below {S : Nat → Prop} {a b : World} (h : Fr S a b) {B : Nat} (hB : B ≤ a.heap.size) (hs : ∀ k, S k → B ≤ k) : Below B a b :=
  ⟨h.os, h.tape, h.output, h.size, fun k hk => h.block k (by omega) (fun x => by have := hs k x; omega)⟩
theorem Fr.of_below {B : Nat} {a b : World} (h : Below B a b) : Fr (fun k => B ≤ k) a b :=
  ⟨h.os, h.tape, h.output, h.size, fun k _ hn => h.block k (by omega)⟩
theorem Fr.of_drewN (w : World) (k : Nat) : Fr (fun _ => False) w (w.drewN k) := ⟨rfl, rfl, rfl, Nat.le_refl _, fun _ _ _ => rfl⟩
theorem Fr.of_setCell (w : World) (a : Addr) (v : Value) : Fr (fun k => k = a.block) w (w.setCell a v) :=
  ⟨rfl, rfl, rfl, by simp [World.setCell], fun k _ hn => Below.heap_setCell _ _ _ _ hn⟩
theorem Fr.of_alloc (w : World) (o : Obj) : Fr (fun _ => False) w (w.alloc o) :=
  ⟨rfl, rfl, rfl, by simp, fun k hk _ => Below.heap_alloc _ _ _ hk⟩
theorem Fr.join {S : Nat → Prop} {a b c : World} (h : Fr S a b) (k : Fr S b c) : Fr S a c := (h.trans k).mono fun _ _ h => h.elim id id
theorem lt_of {w : World} {b : Nat} {o : Obj} (h : w.heap[b]? = some o) : b < w.heap.size := by
  rcases Nat.lt_or_ge b w.heap.size with hlt | hge
  · exact hlt
  · rw [Array.getElem?_eq_none hge] at h; cases h
theorem cell_fr {S : Nat → Prop} {w w' : World} (f : Fr S w w') {a : Addr} {v : Value} (h : w.cell? a = some v) (hS : ¬ S a.block) : w'.cell? a = some v := by
  have hb := World.block_lt_of_cell? w a h
  simp only [World.cell?] at h ⊢
  rw [f.block a.block hb hS]; exact h
theorem add_none (b o i : Nat) : (⟨b, o, none⟩ : Addr).add i = ⟨b, o + i, none⟩ := by
  unfold Addr.add
  split
  · next h => subst h; rfl
  · rfl
theorem add_block (ad : Addr) (i : Nat) : (ad.add i).block = ad.block := by
  unfold Addr.add
  split <;> rfl
theorem Lies.keep {S : Nat → Prop} {w w' : World} {a : Option Addr} {bs : List Nat} (h : Lies w a bs) (f : Fr S w w') (hS : ∀ k, k < w.heap.size → ¬ S k) : Lies w' a bs := by
  refine ⟨h.1, fun j hj => ?_⟩
  obtain ⟨ad, e, hc⟩ := h.2 j hj
  exact ⟨ad, e, cell_fr f hc (hS _ (World.block_lt_of_cell? w _ hc))⟩
theorem Lies.nil (w : World) (a : Option Addr) : Lies w a [] := ⟨by simp, by simp⟩
/-- The bytes of a string. -/
def strBytes (s : ByteArray) : List Nat := s.data.toList.map UInt8.toNat
theorem strBytes_length (s : ByteArray) : (strBytes s).length = s.size := by simp [strBytes]
theorem strBytes_lt (s : ByteArray) : ∀ b ∈ strBytes s, b < 256 := by
  intro b hb
  simp only [strBytes, List.mem_map] at hb
  obtain ⟨x, _, rfl⟩ := hb
  exact x.toNat_lt
theorem heap_setCell_own {w : World} {b o : Nat} {cs : Array Value} {T : TypeId} {fz : Nat × Nat} (v : Value) (h : w.heap[b]? = some (.cells cs T fz)) : (w.setCell ⟨b, o, none⟩ v).heap[b]? = some (.cells (cs.setIfInBounds o v) T fz) := by
  show (w.heap.modify b _)[b]? = _
  simp [Array.getElem?_modify, h]
theorem cell_of {w : World} {b o : Nat} {cs : Array Value} {T : TypeId} {v : Value} (h : w.heap[b]? = some (.cells cs T (0, 0))) (hv : cs[o]? = some v) : w.cell? ⟨b, o, none⟩ = some v := by
  simp [World.cell?, h, hv]
theorem frozen_of {w : World} {b o : Nat} {cs : Array Value} {T : TypeId} (h : w.heap[b]? = some (.cells cs T (0, 0))) : w.frozen? ⟨b, o, none⟩ = false := by
  simp [World.frozen?, h]
theorem own : ownKnob Try.prog.godebug = none := by kernel_rfl
theorem laidOut : laidOutB Try.prog = true := by kernel_rfl
/-- A slice of integers that came in: nil, or a row of 'cap' cells of which the first 'len' are its elements. -/
def IsRow (k : IntKind) (w : World) (a : Option Addr) (len cap : Nat) (zs : List Int) : Prop :=
  (a = none ∧ len = 0 ∧ cap = 0 ∧ zs = []) ∨
  ∃ x, a = some x ∧ len ≤ cap ∧ cap ≤ maxLen ∧ zs.length = cap ∧ (∀ i, i < zs.length → w.cell? (x.add i) = some (.int k (zs.getD i 0))) ∧ ∀ n ∈ zs, (Lit.int k n).wf = true
/-- The bytes of such a row. -/
def bytesOf (len : Nat) (zs : List Int) : List Nat := (zs.take len).map Int.toNat
theorem wf_u8 {n : Int} (h : (Lit.int .u8 n).wf = true) : 0 ≤ n ∧ n < 256 := by
  have := bounds_u8 h
  omega
theorem IsRow.len {k : IntKind} {w : World} {a : Option Addr} {len cap : Nat} {zs : List Int} (h : IsRow k w a len cap zs) : (zs.take len).length = len := by
  rcases h with ⟨_, rfl, _, rfl⟩ | ⟨x, rfl, hl, _, hz, _⟩
  · rfl
  · simp; omega
theorem IsRow.bytes {w : World} {a : Option Addr} {len cap : Nat} {zs : List Int} (h : IsRow .u8 w a len cap zs) :
    (bytesOf len zs).length = len ∧ Lies w a (bytesOf len zs) := by
  have hlen : (bytesOf len zs).length = len := by simp only [bytesOf, List.length_map]; exact h.len
  refine ⟨hlen, ?_, ?_⟩
  · intro b hb
    simp only [bytesOf, List.mem_map] at hb
    obtain ⟨z, hz, rfl⟩ := hb
    rcases h with ⟨_, rfl, _, rfl⟩ | ⟨x, rfl, hl, _, hzl, hc, hw⟩
    · simp at hz
    · have := wf_u8 (hw z (List.mem_of_mem_take hz))
      omega
  · intro j hj
    rw [hlen] at hj
    rcases h with ⟨rfl, rfl, rfl, rfl⟩ | ⟨x, rfl, hl, hm, hzl, hc, hw⟩
    · omega
    · refine ⟨x, rfl, ?_⟩
      have hjz : j < zs.length := by omega
      rw [hc j hjz]
      have h1 := wf_u8 (hw _ (List.getElem_mem hjz))
      simp only [bytesOf, List.getD_eq_getElem?_getD, List.getElem?_map, List.getElem?_take, if_pos hj, List.getElem?_eq_getElem hjz, Option.map_some, Option.getD_some]
      rw [Int.toNat_of_nonneg h1.1]
theorem Try.info5 : (Try.prog.info? 5).map (fun i => (i.zero, i.size, i.bytes)) = some (some (.int .u8 0), 1, 1) := by kernel_rfl
/-- The cells of bytes. -/
def cellsOf (bs : List Nat) : List Value := bs.map fun b => .int .u8 ((b : Nat) : Int)
theorem cellsOf_length (bs : List Nat) : (cellsOf bs).length = bs.length := by simp [cellsOf]
theorem cellsOf_append (a b : List Nat) : cellsOf a ++ cellsOf b = cellsOf (a ++ b) := by simp [cellsOf]
theorem cellsOf_one (bs : List Nat) : ∀ u ∈ cellsOf bs, u.oneCell' = true := by
  intro u hu
  simp only [cellsOf, List.mem_map] at hu
  obtain ⟨b, _, rfl⟩ := hu
  rfl
theorem cellsOf_get {bs : List Nat} {j : Nat} {u : Value} (h : (cellsOf bs)[j]? = some u) : j < bs.length ∧ u = .int .u8 ((bs.getD j 0 : Nat) : Int) := by
  simp only [cellsOf, List.getElem?_map, Option.map_eq_some_iff] at h
  obtain ⟨b, hb, rfl⟩ := h
  refine ⟨(List.getElem?_eq_some_iff.1 hb).1, ?_⟩
  rw [List.getD_eq_getElem?_getD, hb]; rfl
theorem append_any {w : World} {ops : Array Oper} {rest : List Oper} {o : Oper} {a : Act} {Q : Exit → Act → World → Prop} (hgd : o.guard = none) (s x : Operand)
    (ho : o.op = .call { callee := .builtin .append, args := #[s, x], argTypes := #[22, 22] }) (base : Nat) (v : Value) (n : Nat) (xs : List Value) (hs : a.eval s = v) (hown : w.ownsRow base 5 1 v n xs)
    (sa : Option Addr) (c : Nat) (bs : List Nat) (hx : a.eval x = .slice sa bs.length c) (hl : Lies w sa bs) (hnil : sa = none → c = 0 ∧ bs = []) (h63 : n + bs.length ≤ 2147483648) (hbase : base ≤ w.heap.size)
    (h : ∀ v' w', w'.ownsRow base 5 1 v' (n + bs.length) (xs ++ cellsOf bs) → Below base w w' → wpList Try.prog ops Q rest (a.put o.dst v') w') : wpList Try.prog ops Q (o :: rest) a w := by
  obtain ⟨i0, hi, hz0, hz1, hz2⟩ := info_parts Try.info5
  cases sa with
  | none =>
    obtain ⟨rfl, rfl⟩ := hnil rfl
    refine wpList_append_own_none hgd s x 22 ho base 5 i0 1 Try.underlying22 hi v n xs hs hown hx ?_
    refine h v w ?_ (Below.refl _ _)
    simpa [cellsOf] using hown
  | some ad =>
    refine wpList_append_own w hgd s x 22 ho base 5 i0 (.int .u8 0) 1 1 Try.underlying22 hi hz0 hz1 hz2 rfl (by decide) v n xs hs hown ad bs.length c (cellsOf bs) hx (by simp [cellsOf_length]) ?_ (cellsOf_one bs) (by unfold maxLen; omega) (by omega) hbase ?_
    · intro j u hu
      obtain ⟨hj, rfl⟩ := cellsOf_get hu
      obtain ⟨ad', e, hc⟩ := hl.2 j hj
      cases e
      exact hc
    · intro v' w' h1 h2 _
      exact h v' w' h1 (Below.grown (Below.refl _ _) h2 hbase (fun k hk => (hown.lt k hk).1))
theorem ownsRow_shape {w : World} {lo : Nat} {e : TypeId} {size : Nat} {v : Value} {n : Nat} {xs : List Value} (h : w.ownsRow lo e size v n xs) : ∃ a c, v = .slice a n c ∧ n ≤ c := by
  rcases h.2 with ⟨h, hn⟩ | ⟨g, cap, cur, hv, hg, hh, hr⟩
  · exact ⟨none, 0, by rw [h, hn], by omega⟩
  · exact ⟨_, _, hv, hr.1⟩
theorem own_lies {w : World} {lo : Nat} {a : Option Addr} {c : Nat} {bs : List Nat} {n : Nat} (h : w.ownsRow lo 5 1 (.slice a n c) n (cellsOf bs)) (hn : n = bs.length) (hb : ∀ b ∈ bs, b < 256) : Lies w a bs := by
  refine ⟨hb, fun j hj => ?_⟩
  rcases h.2 with ⟨hv, e0⟩ | ⟨g, cap, cur, hv, hg, hh, hr⟩
  · omega
  · cases hv
    refine ⟨⟨g, 0, none⟩, rfl, ?_⟩
    refine h.cells (g := g) rfl j _ ?_
    simp [cellsOf, List.getElem?_eq_getElem hj]
theorem Lies.take {w : World} {a : Option Addr} {bs : List Nat} (h : Lies w a bs) (k : Nat) : Lies w a (bs.take k) := by
  refine ⟨fun b hb => h.1 b (List.mem_of_mem_take hb), fun j hj => ?_⟩
  simp only [List.length_take] at hj
  obtain ⟨ad, e, hc⟩ := h.2 j (by omega)
  refine ⟨ad, e, ?_⟩
  rw [hc]
  simp only [List.getD_eq_getElem?_getD, List.getElem?_take, if_pos (show j < k by omega)]
theorem add_add (ad : Addr) (i j : Nat) : (ad.add i).add j = ad.add (i + j) := by
  unfold Addr.add
  by_cases hi : i = 0
  · subst hi; simp
  · by_cases hj : j = 0
    · subst hj; simp
    · simp [hi, hj, Nat.add_assoc]
theorem Lies.drop {w : World} {a : Option Addr} {bs : List Nat} (h : Lies w a bs) (k c : Nat) (hk : k ≤ bs.length) (hc : bs.length ≤ c) : Lies w (if c = k then a else a.map (·.add k)) (bs.drop k) := by
  refine ⟨fun b hb => h.1 b (List.mem_of_mem_drop hb), fun j hj => ?_⟩
  simp only [List.length_drop] at hj
  obtain ⟨ad, e, hc'⟩ := h.2 (k + j) (by omega)
  refine ⟨ad.add k, ?_, ?_⟩
  · rw [if_neg (by omega), e]; rfl
  · rw [add_add, hc']
    simp only [List.getD_eq_getElem?_getD, List.getElem?_drop]
/-- A contract whose arguments are looked at behind it: a trial that does not fit falls at once. -/
theorem calls_args {f : FuncId} {args args' : Array Value} {w : World} {Q : Ending → World → Prop} (h : Calls Try.prog f args w Q) (e : args' = args) : Calls Try.prog f args' w Q := e ▸ h
theorem storeCells_M (P : Program) (g o : Nat) (t : TypeId) (fz : Nat × Nat) : ∀ (vs : List Value) (i : Nat) (cur : Array Value) (w : World), w.heap[g]? = some (.cells cur t fz) → (cur.size ≤ fz.1 ∨ fz.2 = 0) → o + i + vs.length ≤ cur.size → (∀ v ∈ vs, v.oneCell' = true) →
    (storeCells ⟨g, o, none⟩ vs i).run P w = .ok () (w.setRow g (cur.toList.take (o + i) ++ vs ++ cur.toList.drop (o + i + vs.length)).toArray)
  | [], i, cur, w, hg, _, _, _ => by
    simp only [storeCells, List.append_nil, List.length_nil, Nat.add_zero, List.take_append_drop, Array.toArray_toList]
    rw [setRow_self w g cur t fz hg]
    rfl
  | v :: rest, i, cur, w, hg, hfz, hl, h1 => by
    have hi : o + i < cur.size := by simp at hl; omega
    have hadd : (⟨g, o, none⟩ : Addr).add i = ⟨g, o + i, none⟩ := by unfold Addr.add; split <;> simp_all
    have hcell : w.cell? ⟨g, o + i, none⟩ = some cur[o + i] := by simp [World.cell?, hg, hi]
    have hfro : w.frozen? ⟨g, o + i, none⟩ = false := by
      obtain ⟨lo, hi'⟩ := fz
      simp only [World.frozen?, hg, Bool.and_eq_false_iff, decide_eq_false_iff_not]
      simp only at hfz
      omega
    have hst : (store ((⟨g, o, none⟩ : Addr).add i) v).run P w = .ok () (w.setRow g (cur.setIfInBounds (o + i) v)) := by
      rw [hadd, run_store P w _ v _ (h1 v (by simp)), hcell]
      simp [hfro, setCell_eq_setRow w g (o + i) cur t fz v hg]
    have ih := storeCells_M P g o t fz rest (i + 1) (cur.setIfInBounds (o + i) v) (w.setRow g (cur.setIfInBounds (o + i) v)) (setRow_heap w g cur _ t _ hg) (by simpa using hfz) (by simp at hl ⊢; omega) (fun x hx => h1 x (by simp [hx]))
    simp only [storeCells, Sem.run_bind, hst, Result.andThen_ok, ih, setRow_setRow]
    congr 3
    have e := list_seg_step cur.toList (o + i) v rest (by simp at hl ⊢; omega)
    simpa [Array.toList_setIfInBounds, Nat.add_assoc] using e
/-- Bytes of one's own, from block base on. -/
structure OwnB (w : World) (base : Nat) (v : Value) (bs : List Nat) : Prop where
  small : ∀ b ∈ bs, b < 256
  own : (v = .slice none 0 0 ∧ bs = []) ∨ ∃ g cap cur fz, v = .slice (some ⟨g, 0, none⟩) bs.length cap ∧ base ≤ g ∧ w.heap[g]? = some (.cells cur 5 fz) ∧ (cur.size ≤ fz.1 ∨ fz.2 = 0) ∧ bs.length ≤ cap ∧ cap ≤ maxLen ∧ cur.size = cap ∧ cur.toList.take bs.length = cellsOf bs
theorem OwnB.nil (w : World) (base : Nat) : OwnB w base (.slice none 0 0) [] := ⟨by simp, .inl ⟨rfl, rfl⟩⟩
theorem OwnB.form {w : World} {base : Nat} {v : Value} {bs : List Nat} (h : OwnB w base v bs) : ∃ a c, v = .slice a bs.length c ∧ bs.length ≤ c ∧ (a = none → c = 0 ∧ bs = []) ∧ ∀ k, v.ownBlock = some k → base ≤ k ∧ ∃ cur fz, w.heap[k]? = some (.cells cur 5 fz) := by
  rcases h.own with ⟨rfl, rfl⟩ | ⟨g, cap, cur, fz, rfl, hb, hg, _, hc, _⟩
  · exact ⟨none, 0, rfl, Nat.le_refl _, fun _ => ⟨rfl, rfl⟩, (fun k hk => by cases hk)⟩
  · exact ⟨_, cap, rfl, hc, (fun h => by cases h), (fun k hk => by cases hk; exact ⟨hb, cur, fz, hg⟩)⟩
theorem OwnB.lies {w : World} {base : Nat} {a : Option Addr} {n c : Nat} {bs : List Nat} (h : OwnB w base (.slice a n c) bs) : Lies w a bs := by
  refine ⟨h.small, fun j hj => ?_⟩
  rcases h.own with ⟨_, rfl⟩ | ⟨g, cap, cur, fz, e, hb, hg, _, _, _, hs, ht⟩
  · simp at hj
  · cases e
    refine ⟨_, rfl, ?_⟩
    rw [add_none, Nat.zero_add]
    have hx : (cellsOf bs)[j]? = some (.int .u8 ((bs.getD j 0 : Nat) : Int)) := by
      simp [cellsOf, List.getD_eq_getElem?_getD, List.getElem?_eq_getElem hj]
    rw [← ht, List.getElem?_take, if_pos hj, Array.getElem?_toList] at hx
    simp only [World.cell?, hg]
    exact hx
theorem OwnB.keep {w w' : World} {S : Nat → Prop} {base : Nat} {v : Value} {bs : List Nat} (h : OwnB w base v bs) (f : Fr S w w') (hn : ∀ k, v.ownBlock = some k → ¬ S k) : OwnB w' base v bs := by
  refine ⟨h.small, ?_⟩
  rcases h.own with h1 | ⟨g, cap, cur, fz, rfl, hb, hg, rest⟩
  · exact .inl h1
  · exact .inr ⟨g, cap, cur, fz, rfl, hb, (f.block g (lt_of hg) (hn g rfl)).trans hg, rest⟩
theorem OwnB.cap {w : World} {base n c : Nat} {a : Option Addr} {bs : List Nat} (h : OwnB w base (.slice a n c) bs) : c ≤ maxLen := by
  rcases h.own with ⟨hv, _⟩ | ⟨g, cap, cur, fz, hv, _, _, _, _, hm, _⟩
  · cases hv; exact Nat.zero_le _
  · cases hv; exact hm
theorem OwnB.base {w : World} {b b' : Nat} {v : Value} {bs : List Nat} (h : OwnB w b v bs) (hb : b' ≤ b) : OwnB w b' v bs := by
  refine ⟨h.small, ?_⟩
  rcases h.own with h1 | ⟨g, cap, cur, fz, rfl, h2, rest⟩
  · exact .inl h1
  · exact .inr ⟨g, cap, cur, fz, rfl, by omega, rest⟩
theorem Fr.of_setRow {w : World} {g : Nat} {cs : Array Value} : Fr (fun k => k = g) w (w.setRow g cs) := ⟨rfl, rfl, rfl, by simp, fun k hk hn => setRow_other w g k _ (fun e => hn e)⟩
theorem Fr.of_drewalloc (w : World) (o : Obj) : Fr (fun _ => False) w (w.drew.alloc o) := ⟨rfl, rfl, rfl, by simp, fun k hk _ => Below.heap_alloc w.drew o k hk⟩
/-- Appending bytes to bytes of one's own. -/
theorem run_appB (w : World) (ty : TypeId) (base : Nat) (v : Value) (bs : List Nat) (hown : OwnB w base v bs) (sa : Option Addr) (c : Nat) (xs : List Nat) (hl : Lies w sa xs) (hnil : sa = none → c = 0 ∧ xs = []) (h63 : bs.length + xs.length ≤ 140737488355328) (hbase : base ≤ w.heap.size) :
    ∃ v' w', (Builtin.append_ #[22, 22] ty #[v, .slice sa xs.length c]).run Try.prog w = .ok v' w' ∧ OwnB w' base v' (bs ++ xs) ∧ Fr (fun i => v.ownBlock = some i) w w' := by
  obtain ⟨i0, hi, hz0, hz1, hz2⟩ := info_parts Try.info5
  have hsm : ∀ b ∈ bs ++ xs, b < 256 := fun b hb => (List.mem_append.1 hb).elim (hown.small b) (hl.1 b)
  have hmx : bs.length + xs.length ≤ maxLen := by unfold maxLen; omega
  cases sa with
  | none =>
    obtain ⟨rfl, rfl⟩ := hnil rfl
    refine ⟨v, w, ?_, by simpa using hown, Fr.refl _ _ |>.mono (fun _ _ h => h)⟩
    rcases hown.own with ⟨rfl, rfl⟩ | ⟨g, cap, cur, fz, rfl, hb, hg, hfz, hc, _⟩
    · simp [Builtin.append_, run_underlying Try.underlying22, sizeOf, typeInfo, hi, Builtin.lenOf, run_firstCells_none]
    · simp [Builtin.append_, run_underlying Try.underlying22, sizeOf, typeInfo, hi, Builtin.lenOf, run_firstCells_none, hc, storeCells]
  | some ad =>
    have hnews : ∀ j u, (cellsOf xs)[j]? = some u → w.cell? (ad.add j) = some u := fun j u hu => by
      obtain ⟨hj, rfl⟩ := cellsOf_get hu
      obtain ⟨ad', e, hc⟩ := hl.2 j hj
      cases e
      exact hc
    have hlx : (cellsOf xs).length = xs.length * i0.size := by rw [hz1, cellsOf_length, Nat.mul_one]
    rcases hown.own with ⟨rfl, rfl⟩ | ⟨g, cap, cur, fz, rfl, hb, hg, hfz, hc, hcm, hcs, ht⟩
    · have hr := run_append_own (P := Try.prog) w base 22 ty 5 i0 (.int .u8 0) 1 1 Try.underlying22 hi hz0 hz1 hz2 rfl (by decide) (.slice none 0 0) 0 [] (World.ownsRow_nil w base 5 1) ad xs.length c (cellsOf xs) (by simp [cellsOf_length]) hnews (cellsOf_one xs) (by simpa using hmx) (by simp at h63 ⊢; omega) hbase
      obtain ⟨v', w', h1, h2, h3, _⟩ := hr
      refine ⟨v', w', h1, ⟨hsm, ?_⟩, ⟨h3.os, h3.tape, h3.output, h3.size, fun k hk hn => h3.block k hk (fun e => hn e.symm)⟩⟩
      rw [Nat.zero_add, List.nil_append] at h2
      rcases h2.2 with ⟨rfl, hn⟩ | ⟨g, cap, cur, rfl, hb, hg, hc, hcm, hcs, ht⟩
      · exact .inl ⟨rfl, List.eq_nil_of_length_eq_zero (by simpa using hn)⟩
      · exact .inr ⟨g, cap, cur, (0, 0), by simp, hb, hg, .inr rfl, by simpa using hc, hcm, by simpa using hcs, by simpa using ht⟩
    · by_cases hroom : bs.length + xs.length ≤ cap
      · have hf := run_firstCells_some (P := Try.prog) w i0.size xs.length ad xs.length c (cellsOf xs) hlx hnews
        have hst := storeCells_M Try.prog g bs.length 5 fz (cellsOf xs) 0 cur w hg hfz (by simp [cellsOf_length]; omega) (cellsOf_one xs)
        simp only [Nat.add_zero] at hst
        have hr : (Builtin.append_ #[22, 22] ty #[.slice (some ⟨g, 0, none⟩) bs.length cap, .slice (some ad) xs.length c]).run Try.prog w = .ok (.slice (some ⟨g, 0, none⟩) (bs.length + xs.length) cap) (w.setRow g (cur.toList.take bs.length ++ cellsOf xs ++ cur.toList.drop (bs.length + (cellsOf xs).length)).toArray) := by
          rw [hz1] at hf
          simp [Builtin.append_, run_underlying Try.underlying22, sizeOf, typeInfo, hi, Builtin.lenOf, hroom, hf, Addr.add_lit, hst, hz1]
        refine ⟨_, _, hr, ⟨hsm, .inr ⟨g, cap, _, fz, by simp, hb, setRow_heap w g cur _ 5 _ hg, ?_, by simpa using hroom, hcm, ?_, ?_⟩⟩, Fr.of_setRow.mono (fun k _ h => by rw [h]; rfl)⟩
        · refine hfz.imp (fun h => ?_) id
          simp only [List.size_toArray, List.length_append, List.length_take, List.length_drop, Array.length_toList, cellsOf_length]
          omega
        · simp only [List.size_toArray, List.length_append, List.length_take, List.length_drop, Array.length_toList, cellsOf_length]
          omega
        · rw [ht, cellsOf_append, ← cellsOf_length (bs ++ xs)]
          exact List.take_left
      · have holds : ∀ j u, (cellsOf bs)[j]? = some u → w.cell? ((⟨g, 0, none⟩ : Addr).add j) = some u := fun j u hu => by
          obtain ⟨hj, rfl⟩ := cellsOf_get hu
          obtain ⟨ad', e, hc⟩ := (OwnB.lies hown).2 j hj
          cases e
          exact hc
        have hr := run_append_grow (P := Try.prog) w 22 ty 5 i0 (.int .u8 0) Try.underlying22 hi hz0 ⟨g, 0, none⟩ bs.length cap (cellsOf bs) (by rw [hz1, cellsOf_length, Nat.mul_one]) holds ad xs.length c (cellsOf xs) hlx hnews (by omega) (by omega) (growslice_fits (by omega) (by rw [hz2, Nat.mul_one]; exact h63))
        have hge := grownCap_ge w (bs.length + xs.length) cap 5
        have hcm2 : grownCap w (bs.length + xs.length) cap 5 ≤ maxLen := grownCap_le_maxLen w (bs.length + xs.length) cap 5 hmx
        refine ⟨_, _, hr, ⟨hsm, .inr ⟨w.heap.size, _, _, (0, 0), by simp, hbase, heap_alloc_new w.drew _, .inr rfl, by simpa using hge, hcm2, ?_, ?_⟩⟩, (Fr.of_drewalloc w _).mono (fun _ _ h => h.elim)⟩
        · have hz1 : (Value.int IntKind.u8 0).cells.size = 1 := rfl
          simp only [Array.size_append, List.size_toArray, size_zeroCells, hz1, cellsOf_length]
          omega
        · simp only [Array.toList_append, List.append_assoc]
          rw [← List.append_assoc, cellsOf_append, ← cellsOf_length (bs ++ xs)]
          exact List.take_left
theorem wp_appB {w : World} {o : Oper} {a : Act} {K : Act → World → Prop} {Q : Exit → Act → World → Prop} (s x : Operand)
    (ho : o.op = .call { callee := .builtin .append, args := #[s, x], argTypes := #[22, 22] }) (base : Nat) (v : Value) (bs : List Nat) (hs : a.eval s = v) (hown : OwnB w base v bs)
    (sa : Option Addr) (c : Nat) (xs : List Nat) (hx : a.eval x = .slice sa xs.length c) (hl : Lies w sa xs) (hnil : sa = none → c = 0 ∧ xs = []) (h63 : bs.length + xs.length ≤ 140737488355328) (hbase : base ≤ w.heap.size)
    (h : ∀ v' w', OwnB w' base v' (bs ++ xs) → Fr (fun i => v.ownBlock = some i) w w' → K (a.put o.dst v') w') : o.wp Try.prog a w K Q := by
  obtain ⟨v', w', hr, h2, h3⟩ := run_appB w o.type base v bs hown sa c xs hl hnil h63 hbase
  unfold Oper.wp execOp
  simp only [ho, resolve, invoke, builtin, Sem.run_bind, Sem.run_pure, Result.andThen_ok, List.map_toArray, List.map_cons, List.map_nil, hs, hx, hr]
  exact h v' w' h2 h3
theorem wpList_appB {w : World} {ops : Array Oper} {rest : List Oper} {o : Oper} {a : Act} {Q : Exit → Act → World → Prop} (hgd : o.guard = none) (s x : Operand)
    (ho : o.op = .call { callee := .builtin .append, args := #[s, x], argTypes := #[22, 22] }) (base : Nat) (v : Value) (bs : List Nat) (hs : a.eval s = v) (hown : OwnB w base v bs)
    (sa : Option Addr) (c : Nat) (xs : List Nat) (hx : a.eval x = .slice sa xs.length c) (hl : Lies w sa xs) (hnil : sa = none → c = 0 ∧ xs = []) (h63 : bs.length + xs.length ≤ 140737488355328) (hbase : base ≤ w.heap.size)
    (h : ∀ v' w', OwnB w' base v' (bs ++ xs) → Fr (fun i => v.ownBlock = some i) w w' → wpList Try.prog ops Q rest (a.put o.dst v') w') : wpList Try.prog ops Q (o :: rest) a w :=
  wpList_plain hgd fun K hK => wp_appB s x ho base v bs hs hown sa c xs hx hl hnil h63 hbase fun v' w' h1 h2 => hK _ _ (h v' w' h1 h2)
theorem wp_appBn {w : World} {o : Oper} {a : Act} {K : Act → World → Prop} {Q : Exit → Act → World → Prop} (s x : Operand)
    (ho : o.op = .call { callee := .builtin .append, args := #[s, x], argTypes := #[22, 22] }) (base : Nat) (v : Value) (bs : List Nat) (hs : a.eval s = v) (hown : OwnB w base v bs)
    (sa : Option Addr) (n c : Nat) (xs : List Nat) (hx : a.eval x = .slice sa n c) (hn : n = xs.length) (hl : Lies w sa xs) (hnil : sa = none → c = 0 ∧ xs = []) (h63 : bs.length + xs.length ≤ 140737488355328) (hbase : base ≤ w.heap.size)
    (h : ∀ v' w', OwnB w' base v' (bs ++ xs) → Fr (fun i => v.ownBlock = some i) w w' → K (a.put o.dst v') w') : o.wp Try.prog a w K Q := by
  subst hn
  exact wp_appB s x ho base v bs hs hown sa c xs hx hl hnil h63 hbase h
theorem wpList_appBn {w : World} {ops : Array Oper} {rest : List Oper} {o : Oper} {a : Act} {Q : Exit → Act → World → Prop} (hgd : o.guard = none) (s x : Operand)
    (ho : o.op = .call { callee := .builtin .append, args := #[s, x], argTypes := #[22, 22] }) (base : Nat) (v : Value) (bs : List Nat) (hs : a.eval s = v) (hown : OwnB w base v bs)
    (sa : Option Addr) (n c : Nat) (xs : List Nat) (hx : a.eval x = .slice sa n c) (hn : n = xs.length) (hl : Lies w sa xs) (hnil : sa = none → c = 0 ∧ xs = []) (h63 : bs.length + xs.length ≤ 140737488355328) (hbase : base ≤ w.heap.size)
    (h : ∀ v' w', OwnB w' base v' (bs ++ xs) → Fr (fun i => v.ownBlock = some i) w w' → wpList Try.prog ops Q rest (a.put o.dst v') w') : wpList Try.prog ops Q (o :: rest) a w := by
  subst hn
  exact wpList_appB hgd s x ho base v bs hs hown sa c xs hx hl hnil h63 hbase h
/-- Bytes as a string. -/
def strOf (bs : List Nat) : ByteArray := ⟨(bs.map UInt8.ofNat).toArray⟩
theorem conv_none (c : Nat) (w : World) : (convert 22 9 (.slice none 0 c)).run Try.prog w = .ok (.string ⟨#[]⟩) w := by kernel_rfl
theorem conv_str {w : World} {a : Option Addr} {bs : List Nat} (c : Nat) (h : Lies w a bs) : (convert 22 9 (.slice a bs.length c)).run Try.prog w = .ok (.string (strOf bs)) w := by
  cases a with
  | none =>
    have : bs = [] := by
      cases bs with
      | nil => rfl
      | cons x xs => obtain ⟨ad, e, _⟩ := h.2 0 (by simp); cases e
    subst this
    exact conv_none c w
  | some ad =>
    have := run_convert_bytes_back (P := Try.prog) w 22 9 5 ad c (bs.map UInt8.ofNat) Try.underlying22 Try.underlying5 Try.underlying9 (fun j hj => by
      have hj' : j < bs.length := by simpa using hj
      have hb := h.1 bs[j] (List.getElem_mem hj')
      obtain ⟨ad', e, h2⟩ := h.2 j hj'
      cases e
      rw [List.getD_eq_getElem?_getD, List.getElem?_eq_getElem hj'] at h2
      rw [h2]
      simp
      omega)
    rw [List.length_map] at this
    exact this
theorem strBytes_of {bs : List Nat} (h : ∀ b ∈ bs, b < 256) : strBytes (strOf bs) = bs := by
  unfold strBytes strOf
  simp only [List.map_map]
  conv => rhs; rw [← List.map_id bs]
  apply List.map_congr_left
  intro b hb
  have := h b hb
  simp
  omega
theorem strOf_bytes (s : ByteArray) : strOf (strBytes s) = s := by
  unfold strOf strBytes
  rw [List.map_map]
  have : (UInt8.ofNat ∘ UInt8.toNat) = id := by funext x; simp
  rw [this, List.map_id]
theorem strOf_inj {a b : List Nat} (ha : ∀ x ∈ a, x < 256) (hb : ∀ x ∈ b, x < 256) (h : strOf a = strOf b) : a = b := by
  rw [← strBytes_of ha, ← strBytes_of hb, h]
theorem strOf_size (bs : List Nat) : (strOf bs).size = bs.length := by
  show (bs.map UInt8.ofNat).toArray.size = _
  simp
theorem one_alloc (w : World) (b : Nat) (h : b < 256) : Lies (w.alloc (.cells #[.int .u8 (b : Int)] 5)) (some ⟨w.heap.size, 0, none⟩) [b] := by
  refine ⟨fun x hx => ?_, fun j hj => ⟨_, rfl, ?_⟩⟩
  · rw [List.mem_singleton] at hx; omega
  · rw [add_none]
    simp only [World.cell?]
    rw [heap_alloc_new]
    match j, hj with
    | 0, _ => rfl
theorem lies_ne {w w' : World} {S : Nat → Prop} {G : Nat} {bs : List Nat} (h : Lies w (some ⟨G, 0, none⟩) bs) (f : Fr S w w') (hS : ¬ S G) : Lies w' (some ⟨G, 0, none⟩) bs := by
  refine ⟨h.1, fun j hj => ?_⟩
  obtain ⟨ad, e, hc⟩ := h.2 j hj
  refine ⟨ad, e, cell_fr f hc ?_⟩
  cases e
  rw [add_block]
  exact hS
theorem lies_set {w : World} {D I xv : Nat} {bs : List Nat} {cs : Array Value} {T : TypeId} {fz : Nat × Nat} (h : Lies w (some ⟨D, 0, none⟩) bs) (hg : w.heap[D]? = some (.cells cs T fz)) (hI : I < bs.length) (hx : xv < 256) :
    Lies (w.setCell ⟨D, I, none⟩ (.int .u8 (xv : Int))) (some ⟨D, 0, none⟩) (bs.set I xv) := by
  refine ⟨fun b hb => ?_, fun j hj => ?_⟩
  · rcases List.mem_or_eq_of_mem_set hb with h1 | h1
    · exact h.1 b h1
    · rw [h1]; exact hx
  · rw [List.length_set] at hj
    obtain ⟨ad, e, hc⟩ := h.2 j hj
    refine ⟨ad, e, ?_⟩
    cases e
    rw [add_none, Nat.zero_add] at hc ⊢
    have hI2 := (h.2 I hI)
    obtain ⟨ad2, e2, hc2⟩ := hI2
    cases e2
    rw [add_none, Nat.zero_add] at hc2
    simp only [World.cell?, hg] at hc hc2
    simp only [World.cell?, heap_setCell_own _ hg]
    by_cases hji : j = I
    · subst hji
      have hlt : j < cs.size := by
        rcases Nat.lt_or_ge j cs.size with hlt | hge
        · exact hlt
        · simp [hge] at hc2
      simp [hlt, hj]
    · have hji' : ¬ I = j := fun h => hji h.symm
      simp [hji'] at hc ⊢
      exact hc
end Go.Proofs.Ytkafhjjdeldkbaa
