/-
  chunk: bytes of one's own, whatever mark their row bears behind its cells.
-/
import Derived.Test.YtflapcaaaipoeaaCi
import Derived.Lib.AppendStr
import Derived.Laws.OwnMore
namespace Go.Proofs.Ytflapcaaaipoeaa
open Go.RowKit Go.Lib
set_option linter.unusedVariables false

theorem storeCells_M (P : Program) (g o : Nat) (t : TypeId) (fz : Nat × Nat) : ∀ (vs : List Value) (i : Nat) (cur : Array Value) (w : World), w.heap[g]? = some (.cells cur t fz) → (cur.size ≤ fz.1 ∨ fz.2 = 0) → o + i + vs.length ≤ cur.size → (∀ v ∈ vs, v.oneCell' = true) →
    (storeCells ⟨g, o, none⟩ vs i).run P w = .ok () (w.setRow g (cur.toList.take (o + i) ++ vs ++ cur.toList.drop (o + i + vs.length)).toArray)
  | [], i, cur, w, hg, _, _, _ => by
    simp only [storeCells, List.append_nil, List.length_nil, Nat.add_zero, List.take_append_drop, Array.toArray_toList]
    rw [setRow_self w g cur t fz hg]
    rfl
  | v :: rest, i, cur, w, hg, hfz, hl, h1 => by
    have hi : o + i < cur.size := by simp at hl; omega
    have hadd : (⟨g, o, none⟩ : Addr).add i = ⟨g, o + i, none⟩ := by unfold Addr.add; split <;> simp_all
    have hcell : w.cell? ⟨g, o + i, none⟩ = some cur[o + i] := by simp [World.cell?, hg, hi]
    have hfro : w.frozen? ⟨g, o + i, none⟩ = false := by
      obtain ⟨lo, hi'⟩ := fz
      simp only [World.frozen?, hg, Bool.and_eq_false_iff, decide_eq_false_iff_not]
      simp only at hfz
      omega
    have hst : (store ((⟨g, o, none⟩ : Addr).add i) v).run P w = .ok () (w.setRow g (cur.setIfInBounds (o + i) v)) := by
      rw [hadd, run_store P w _ v _ (h1 v (by simp)), hcell]
      simp [hfro, setCell_eq_setRow w g (o + i) cur t fz v hg]
    have ih := storeCells_M P g o t fz rest (i + 1) (cur.setIfInBounds (o + i) v) (w.setRow g (cur.setIfInBounds (o + i) v)) (setRow_heap w g cur _ t _ hg) (by simpa using hfz) (by simp at hl ⊢; omega) (fun x hx => h1 x (by simp [hx]))
    simp only [storeCells, Sem.run_bind, hst, Result.andThen_ok, ih, setRow_setRow]
    congr 3
    have e := list_seg_step cur.toList (o + i) v rest (by simp at hl ⊢; omega)
    simpa [Array.toList_setIfInBounds, Nat.add_assoc] using e

theorem cellsOf_str (s : ByteArray) : cellsOf (strBytes s) = strCells s := by
  simp [cellsOf, strBytes, strCells, List.map_map]

/-- Bytes of one's own, from block base on. -/
structure OwnB (w : World) (base : Nat) (v : Value) (bs : List Nat) : Prop where
  small : ∀ b ∈ bs, b < 256
  own : (v = .slice none 0 0 ∧ bs = []) ∨ ∃ g cap cur fz, v = .slice (some ⟨g, 0, none⟩) bs.length cap ∧ base ≤ g ∧ w.heap[g]? = some (.cells cur 5 fz) ∧ (cur.size ≤ fz.1 ∨ fz.2 = 0) ∧ bs.length ≤ cap ∧ cap ≤ maxLen ∧ cur.size = cap ∧ cur.toList.take bs.length = cellsOf bs

theorem OwnB.nil (w : World) (base : Nat) : OwnB w base (.slice none 0 0) [] := ⟨by simp, .inl ⟨rfl, rfl⟩⟩
theorem OwnB.form {w : World} {base : Nat} {v : Value} {bs : List Nat} (h : OwnB w base v bs) : ∃ a c, v = .slice a bs.length c ∧ bs.length ≤ c ∧ (a = none → c = 0 ∧ bs = []) ∧ ∀ k, v.ownBlock = some k → base ≤ k ∧ ∃ cur fz, w.heap[k]? = some (.cells cur 5 fz) := by
  rcases h.own with ⟨rfl, rfl⟩ | ⟨g, cap, cur, fz, rfl, hb, hg, _, hc, _⟩
  · exact ⟨none, 0, rfl, Nat.le_refl _, fun _ => ⟨rfl, rfl⟩, (fun k hk => by cases hk)⟩
  · exact ⟨_, cap, rfl, hc, (fun h => by cases h), (fun k hk => by cases hk; exact ⟨hb, cur, fz, hg⟩)⟩
theorem OwnB.lies {w : World} {base : Nat} {a : Option Addr} {n c : Nat} {bs : List Nat} (h : OwnB w base (.slice a n c) bs) : Lies w a bs := by
  refine ⟨h.small, fun j hj => ?_⟩
  rcases h.own with ⟨_, rfl⟩ | ⟨g, cap, cur, fz, e, hb, hg, _, _, _, hs, ht⟩
  · simp at hj
  · cases e
    refine ⟨_, rfl, ?_⟩
    rw [add_none, Nat.zero_add]
    have hx : (cellsOf bs)[j]? = some (.int .u8 ((bs.getD j 0 : Nat) : Int)) := by
      simp [cellsOf, List.getD_eq_getElem?_getD, List.getElem?_eq_getElem hj]
    rw [← ht, List.getElem?_take, if_pos hj, Array.getElem?_toList] at hx
    simp only [World.cell?, hg]
    exact hx
theorem OwnB.keep {w w' : World} {S : Nat → Prop} {base : Nat} {v : Value} {bs : List Nat} (h : OwnB w base v bs) (f : Fr S w w') (hn : ∀ k, v.ownBlock = some k → ¬ S k) : OwnB w' base v bs := by
  refine ⟨h.small, ?_⟩
  rcases h.own with h1 | ⟨g, cap, cur, fz, rfl, hb, hg, rest⟩
  · exact .inl h1
  · exact .inr ⟨g, cap, cur, fz, rfl, hb, (f.block g (lt_of hg) (hn g rfl)).trans hg, rest⟩
theorem OwnB.cap {w : World} {base n c : Nat} {a : Option Addr} {bs : List Nat} (h : OwnB w base (.slice a n c) bs) : c ≤ maxLen := by
  rcases h.own with ⟨hv, _⟩ | ⟨g, cap, cur, fz, hv, _, _, _, _, hm, _⟩
  · cases hv; exact Nat.zero_le _
  · cases hv; exact hm
theorem OwnB.base {w : World} {b b' : Nat} {v : Value} {bs : List Nat} (h : OwnB w b v bs) (hb : b' ≤ b) : OwnB w b' v bs := by
  refine ⟨h.small, ?_⟩
  rcases h.own with h1 | ⟨g, cap, cur, fz, rfl, h2, rest⟩
  · exact .inl h1
  · exact .inr ⟨g, cap, cur, fz, rfl, by omega, rest⟩

theorem Fr.of_setRow {w : World} {g : Nat} {cs : Array Value} : Fr (fun k => k = g) w (w.setRow g cs) := ⟨rfl, rfl, rfl, by simp, fun k hk hn => setRow_other w g k _ (fun e => hn e)⟩
theorem Fr.of_drewalloc (w : World) (o : Obj) : Fr (fun _ => False) w (w.drew.alloc o) := ⟨rfl, rfl, rfl, by simp, fun k hk _ => Below.heap_alloc w.drew o k hk⟩

/-- Appending bytes to bytes of one's own. -/
theorem run_appB (w : World) (ty : TypeId) (base : Nat) (v : Value) (bs : List Nat) (hown : OwnB w base v bs) (sa : Option Addr) (c : Nat) (xs : List Nat) (hl : Lies w sa xs) (hnil : sa = none → c = 0 ∧ xs = []) (h63 : bs.length + xs.length ≤ 140737488355328) (hbase : base ≤ w.heap.size) :
    ∃ v' w', (Builtin.append_ #[22, 22] ty #[v, .slice sa xs.length c]).run Try.prog w = .ok v' w' ∧ OwnB w' base v' (bs ++ xs) ∧ Fr (fun i => v.ownBlock = some i) w w' := by
  obtain ⟨i0, hi, hz0, hz1, hz2⟩ := info_parts Try.info5
  have hsm : ∀ b ∈ bs ++ xs, b < 256 := fun b hb => (List.mem_append.1 hb).elim (hown.small b) (hl.1 b)
  have hmx : bs.length + xs.length ≤ maxLen := by unfold maxLen; omega
  cases sa with
  | none =>
    obtain ⟨rfl, rfl⟩ := hnil rfl
    refine ⟨v, w, ?_, by simpa using hown, Fr.refl _ _ |>.mono (fun _ _ h => h)⟩
    rcases hown.own with ⟨rfl, rfl⟩ | ⟨g, cap, cur, fz, rfl, hb, hg, hfz, hc, _⟩
    · simp [Builtin.append_, run_underlying Try.underlying22, sizeOf, typeInfo, hi, Builtin.lenOf, run_firstCells_none]
    · simp [Builtin.append_, run_underlying Try.underlying22, sizeOf, typeInfo, hi, Builtin.lenOf, run_firstCells_none, hc, storeCells]
  | some ad =>
    have hnews : ∀ j u, (cellsOf xs)[j]? = some u → w.cell? (ad.add j) = some u := fun j u hu => by
      obtain ⟨hj, rfl⟩ := cellsOf_get hu
      obtain ⟨ad', e, hc⟩ := hl.2 j hj
      cases e
      exact hc
    have hlx : (cellsOf xs).length = xs.length * i0.size := by rw [hz1, cellsOf_length, Nat.mul_one]
    rcases hown.own with ⟨rfl, rfl⟩ | ⟨g, cap, cur, fz, rfl, hb, hg, hfz, hc, hcm, hcs, ht⟩
    · have hr := run_append_own (P := Try.prog) w base 22 ty 5 i0 (.int .u8 0) 1 1 Try.underlying22 hi hz0 hz1 hz2 rfl (by decide) (.slice none 0 0) 0 [] (World.ownsRow_nil w base 5 1) ad xs.length c (cellsOf xs) (by simp [cellsOf_length]) hnews (cellsOf_one xs) (by simpa using hmx) (by simp at h63 ⊢; omega) hbase
      obtain ⟨v', w', h1, h2, h3, _⟩ := hr
      refine ⟨v', w', h1, ⟨hsm, ?_⟩, ⟨h3.os, h3.tape, h3.output, h3.size, fun k hk hn => h3.block k hk (fun e => hn e.symm)⟩⟩
      rw [Nat.zero_add, List.nil_append] at h2
      rcases h2.2 with ⟨rfl, hn⟩ | ⟨g, cap, cur, rfl, hb, hg, hc, hcm, hcs, ht⟩
      · exact .inl ⟨rfl, List.eq_nil_of_length_eq_zero (by simpa using hn)⟩
      · exact .inr ⟨g, cap, cur, (0, 0), by simp, hb, hg, .inr rfl, by simpa using hc, hcm, by simpa using hcs, by simpa using ht⟩
    · by_cases hroom : bs.length + xs.length ≤ cap
      · have hf := run_firstCells_some (P := Try.prog) w i0.size xs.length ad xs.length c (cellsOf xs) hlx hnews
        have hst := storeCells_M Try.prog g bs.length 5 fz (cellsOf xs) 0 cur w hg hfz (by simp [cellsOf_length]; omega) (cellsOf_one xs)
        simp only [Nat.add_zero] at hst
        have hr : (Builtin.append_ #[22, 22] ty #[.slice (some ⟨g, 0, none⟩) bs.length cap, .slice (some ad) xs.length c]).run Try.prog w = .ok (.slice (some ⟨g, 0, none⟩) (bs.length + xs.length) cap) (w.setRow g (cur.toList.take bs.length ++ cellsOf xs ++ cur.toList.drop (bs.length + (cellsOf xs).length)).toArray) := by
          rw [hz1] at hf
          simp [Builtin.append_, run_underlying Try.underlying22, sizeOf, typeInfo, hi, Builtin.lenOf, hroom, hf, Addr.add_lit, hst, hz1]
        refine ⟨_, _, hr, ⟨hsm, .inr ⟨g, cap, _, fz, by simp, hb, setRow_heap w g cur _ 5 _ hg, ?_, by simpa using hroom, hcm, ?_, ?_⟩⟩, Fr.of_setRow.mono (fun k _ h => by rw [h]; rfl)⟩
        · refine hfz.imp (fun h => ?_) id
          simp only [List.size_toArray, List.length_append, List.length_take, List.length_drop, Array.length_toList, cellsOf_length]
          omega
        · simp only [List.size_toArray, List.length_append, List.length_take, List.length_drop, Array.length_toList, cellsOf_length]
          omega
        · rw [ht, cellsOf_append, ← cellsOf_length (bs ++ xs)]
          exact List.take_left
      · have holds : ∀ j u, (cellsOf bs)[j]? = some u → w.cell? ((⟨g, 0, none⟩ : Addr).add j) = some u := fun j u hu => by
          obtain ⟨hj, rfl⟩ := cellsOf_get hu
          obtain ⟨ad', e, hc⟩ := (OwnB.lies hown).2 j hj
          cases e
          exact hc
        have hr := run_append_grow (P := Try.prog) w 22 ty 5 i0 (.int .u8 0) Try.underlying22 hi hz0 ⟨g, 0, none⟩ bs.length cap (cellsOf bs) (by rw [hz1, cellsOf_length, Nat.mul_one]) holds ad xs.length c (cellsOf xs) hlx hnews (by omega) (by omega) (growslice_fits (by omega) (by rw [hz2, Nat.mul_one]; exact h63))
        have hge := grownCap_ge w (bs.length + xs.length) cap 5
        have hcm2 : grownCap w (bs.length + xs.length) cap 5 ≤ maxLen := grownCap_le_maxLen w (bs.length + xs.length) cap 5 hmx
        refine ⟨_, _, hr, ⟨hsm, .inr ⟨w.heap.size, _, _, (0, 0), by simp, hbase, heap_alloc_new w.drew _, .inr rfl, by simpa using hge, hcm2, ?_, ?_⟩⟩, (Fr.of_drewalloc w _).mono (fun _ _ h => h.elim)⟩
        · have hz1 : (Value.int IntKind.u8 0).cells.size = 1 := rfl
          simp only [Array.size_append, List.size_toArray, size_zeroCells, hz1, cellsOf_length]
          omega
        · simp only [Array.toList_append, List.append_assoc]
          rw [← List.append_assoc, cellsOf_append, ← cellsOf_length (bs ++ xs)]
          exact List.take_left
end Go.Proofs.Ytflapcaaaipoeaa
