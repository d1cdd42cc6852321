/-
  chunk: rows of chunks of one's own.
-/
import Derived.Test.YtflapcaaaipoeaaCm
import Derived.Maps.AppendAt
namespace Go.Proofs.Ytflapcaaaipoeaa
open Go.RowKit Go.Lib
set_option linter.unusedVariables false

theorem Fr.of_grown {w w' : World} {o : Option Nat} (h : w.grownBy w' o) : Fr (fun k => o = some k) w w' := ⟨h.os, h.tape, h.output, h.size, fun k hk hn => h.block k hk (fun e => hn e.symm)⟩

theorem Try.info51 : (Try.prog.info? 51).map (fun i => (i.zero, i.size, i.bytes)) = some (some (.agg #[.string ⟨#[]⟩, .slice none 0 0]), 2, 40) := by kernel_rfl
theorem Try.info44 : (Try.prog.info? 44).map (fun i => (i.zero, i.size, i.bytes)) = some (some (.agg #[.string ⟨#[]⟩, .slice none 0 0]), 2, 40) := by kernel_rfl

/-- A chunk's data beside a row v that may be written. -/
structure Dat (w : World) (v : Value) (c : Ck) (d : Option Addr) (cap : Nat) : Prop where
  lies : Lies w d c.2
  nil : d = none → cap = 0 ∧ c.2 = []
  size : c.1.size ≤ 281474976710656
  len : c.2.length ≤ 281474976710656
  sp : c.2.length ≤ cap
  apart : 0 < c.2.length → ∀ ad, d = some ad → v.ownBlock ≠ some ad.block

/-- Chunks of one's own. -/
def OwnC (ty : TypeId) (w : World) (base : Nat) (v : Value) (l : List Ck) : Prop :=
  ∃ xs, w.ownsRow base ty 2 v l.length xs ∧ (∀ x ∈ xs, x.oneCell' = true) ∧ ∀ i, i < l.length → ∃ d cap, xs[2 * i]? = some (.string (l.getD i default).1) ∧ xs[2 * i + 1]? = some (.slice d (l.getD i default).2.length cap) ∧ Dat w v (l.getD i default) d cap

theorem OwnC.nil (ty : TypeId) (w : World) (base : Nat) : OwnC ty w base (.slice none 0 0) [] := ⟨[], World.ownsRow_nil w base ty 2, by simp, fun i hi => absurd hi (Nat.not_lt_zero i)⟩

theorem Dat.keep {w w' : World} {S : Nat → Prop} {v : Value} {c : Ck} {d : Option Addr} {cap : Nat} (h : Dat w v c d cap) (f : Fr S w w') (hS : ∀ k, k < w.heap.size → S k → v.ownBlock = some k) : Dat w' v c d cap := by
  refine ⟨⟨h.lies.1, fun j hj => ?_⟩, h.nil, h.size, h.len, h.sp, h.apart⟩
  obtain ⟨ad, e, hc⟩ := h.lies.2 j hj
  have hlt := World.block_lt_of_cell? w _ hc
  refine ⟨ad, e, cell_fr f hc fun hs => ?_⟩
  have := hS _ hlt hs
  rw [add_block] at this
  exact h.apart (by omega) ad e this

theorem ownsRow_keep {w w' : World} {S : Nat → Prop} {base : Nat} {ty : TypeId} {sz n : Nat} {v : Value} {xs : List Value} (h : w.ownsRow base ty sz v n xs) (f : Fr S w w') (hn : ∀ k, v.ownBlock = some k → ¬ S k) : w'.ownsRow base ty sz v n xs := by
  refine ⟨h.1, ?_⟩
  rcases h.2 with h1 | ⟨g, cap, cur, rfl, hb, hg, rest⟩
  · exact .inl h1
  · exact .inr ⟨g, cap, cur, rfl, hb, (f.block g (lt_of hg) (hn g rfl)).trans hg, rest⟩

theorem OwnC.keep {ty : TypeId} {w w' : World} {S : Nat → Prop} {base : Nat} {v : Value} {l : List Ck} (h : OwnC ty w base v l) (f : Fr S w w') (hS : ∀ k, k < w.heap.size → ¬ S k) : OwnC ty w' base v l := by
  obtain ⟨xs, h1, ho, h2⟩ := h
  refine ⟨xs, ownsRow_keep h1 f fun k hk => hS k (h1.lt k hk).2, ho, fun i hi => ?_⟩
  obtain ⟨d, cap, e1, e2, hd⟩ := h2 i hi
  exact ⟨d, cap, e1, e2, hd.keep f fun k hk hs => absurd hs (hS k hk)⟩

theorem OwnC.base' {ty : TypeId} {w : World} {b : Nat} {v : Value} {l : List Ck} (h : OwnC ty w b v l) (b' : Nat) (hb : b' ≤ b) : OwnC ty w b' v l := by
  obtain ⟨xs, h1, ho, h2⟩ := h
  refine ⟨xs, ⟨h1.1, ?_⟩, ho, h2⟩
  rcases h1.2 with h | ⟨g, cap, cur, rfl, hg, rest⟩
  · exact .inl h
  · exact .inr ⟨g, cap, cur, rfl, by omega, rest⟩
theorem OwnC.form {ty : TypeId} {w : World} {base : Nat} {v : Value} {l : List Ck} (h : OwnC ty w base v l) : (∃ a c, v = .slice a l.length c ∧ l.length ≤ c ∧ c ≤ maxLen ∧ (l ≠ [] → ∃ g, a = some ⟨g, 0, none⟩)) ∧ ∀ k, v.ownBlock = some k → base ≤ k ∧ k < w.heap.size := by
  obtain ⟨xs, h1, _, _⟩ := h
  refine ⟨?_, h1.lt⟩
  rcases h1.2 with ⟨rfl, hn⟩ | ⟨g, cap, cur, rfl, hb, hg, hc, hm, _⟩
  · exact ⟨none, 0, by rw [hn], by omega, Nat.zero_le _, fun hne => absurd (List.eq_nil_of_length_eq_zero hn) hne⟩
  · exact ⟨_, cap, rfl, hc, hm, fun _ => ⟨g, rfl⟩⟩

theorem OwnC.lies {ty : TypeId} {w : World} {base n c : Nat} {a : Option Addr} {l : List Ck} (h : OwnC ty w base (.slice a n c) l) : LiesC w a l := by
  obtain ⟨xs, h1, _, h2⟩ := h
  intro i hi
  obtain ⟨d, cap, e1, e2, hd⟩ := h2 i hi
  rcases h1.2 with ⟨hv, hn⟩ | ⟨g, cap', cur, hv, hb, hg, hc, hm, _⟩
  · omega
  · cases hv
    have c1 := h1.cells (g := g) rfl _ _ e1
    have c2 := h1.cells (g := g) rfl _ _ e2
    rw [add_none, Nat.zero_add] at c1 c2
    refine ⟨g, 0, d, cap, rfl, ⟨?_, ?_, hd.lies, hd.nil, hd.size, hd.len, hd.sp⟩⟩
    · rw [Nat.zero_add, Nat.mul_comm]; exact c1
    · rw [Nat.zero_add, Nat.mul_comm]; exact c2

theorem getD_snoc_lt {l : List Ck} {c : Ck} {i : Nat} (h : i < l.length) : (l ++ [c]).getD i default = l.getD i default := by
  rw [List.getD_eq_getElem?_getD, List.getD_eq_getElem?_getD, List.getElem?_append_left h]
theorem getD_snoc_eq {l : List Ck} {c : Ck} : (l ++ [c]).getD l.length default = c := by
  rw [List.getD_eq_getElem?_getD, List.getElem?_append_right (Nat.le_refl _)]; simp

/-- One chunk more. -/
theorem run_appC (ty t : TypeId) (ht : Try.prog.underlying t = some (.slice ty)) (hinfo : (Try.prog.info? ty).map (fun i => (i.zero, i.size, i.bytes)) = some (some (.agg #[.string ⟨#[]⟩, .slice none 0 0]), 2, 40)) (w : World) (rt : TypeId) (base : Nat) (v : Value) (l : List Ck) (hown : OwnC ty w base v l) (ad : Addr) (c : Nat) (q : Ck) (d : Option Addr) (cap : Nat) (hc0 : w.cell? (ad.add 0) = some (.string q.1)) (hc1 : w.cell? (ad.add 1) = some (.slice d q.2.length cap)) (hd : Dat w v q d cap) (h63 : l.length ≤ 1000000) (hbase : base ≤ w.heap.size) :
    ∃ v' w', (Builtin.append_ #[t, t] rt #[v, .slice (some ad) 1 c]).run Try.prog w = .ok v' w' ∧ OwnC ty w' base v' (l ++ [q]) ∧ Fr (fun i => v.ownBlock = some i) w w' := by
  obtain ⟨i0, hi, hz0, hz1, hz2⟩ := info_parts hinfo
  obtain ⟨xs, h1, ho, h2⟩ := hown
  have hone : ∀ u ∈ [Value.string q.1, Value.slice d q.2.length cap], u.oneCell' = true := by
    intro u hu
    simp only [List.mem_cons, List.not_mem_nil, or_false] at hu
    rcases hu with rfl | rfl <;> rfl
  obtain ⟨v', w', r1, r2, r3, _, r5⟩ := run_append_own_at (P := Try.prog) w base t rt ty i0 (.agg #[.string ⟨#[]⟩, .slice none 0 0]) 2 40 ht hi hz0 hz1 hz2 rfl (by decide) v l.length xs h1 ad 1 c [.string q.1, .slice d q.2.length cap] (by simp) (fun j u hj => by
    match j with
    | 0 => cases hj; exact hc0
    | 1 => cases hj; exact hc1
    | j + 2 => simp at hj) hone (by unfold maxLen; omega) (by omega) hbase
  have hf := Fr.of_grown r3
  have hxl : xs.length = 2 * l.length := by rw [h1.1, Nat.mul_comm]
  refine ⟨v', w', r1, ⟨xs ++ [.string q.1, .slice d q.2.length cap], by rw [List.length_append]; simpa using r2, fun x hx => (List.mem_append.1 hx).elim (ho x) (hone x), fun i hi => ?_⟩, hf⟩
  -- blocks of data are not the new row's
  have hap : ∀ {q' : Ck} {d' : Option Addr} {cap' : Nat}, Dat w v q' d' cap' → Dat w' v' q' d' cap' := by
    intro q' d' cap' hd'
    have hk := hd'.keep hf fun k _ hs => hs
    refine ⟨hk.lies, hk.nil, hk.size, hk.len, hk.sp, fun h0 ad' e hb => ?_⟩
    obtain ⟨ad'', e2, hcell⟩ := hd'.lies.2 0 h0
    rw [e] at e2
    cases e2
    have hlt := World.block_lt_of_cell? w _ hcell
    rw [add_block] at hlt
    rcases r5 with r5 | r5
    · rw [r5] at hb; exact hd'.apart h0 ad' e hb
    · rw [r5] at hb
      have := Option.some.inj hb
      omega
  rw [List.length_append] at hi
  simp only [List.length_cons, List.length_nil, Nat.zero_add] at hi
  by_cases hil : i < l.length
  · obtain ⟨d', cap', e1, e2, hd'⟩ := h2 i hil
    refine ⟨d', cap', ?_, ?_, ?_⟩
    · rw [getD_snoc_lt hil, List.getElem?_append_left (by omega)]; exact e1
    · rw [getD_snoc_lt hil, List.getElem?_append_left (by omega)]; exact e2
    · rw [getD_snoc_lt hil]; exact hap hd'
  · obtain rfl : i = l.length := by omega
    refine ⟨d, cap, ?_, ?_, ?_⟩
    · rw [getD_snoc_eq, List.getElem?_append_right (by omega), hxl, show 2 * l.length - 2 * l.length = 0 by omega]; rfl
    · rw [getD_snoc_eq, List.getElem?_append_right (by omega), hxl, show 2 * l.length + 1 - 2 * l.length = 1 by omega]; rfl
    · rw [getD_snoc_eq]; exact hap hd

theorem wp_appC (ty t : TypeId) (ht : Try.prog.underlying t = some (.slice ty)) (hinfo : (Try.prog.info? ty).map (fun i => (i.zero, i.size, i.bytes)) = some (some (.agg #[.string ⟨#[]⟩, .slice none 0 0]), 2, 40)) {w : World} {o : Oper} {a : Act} {K : Act → World → Prop} {Q : Exit → Act → World → Prop} (s x : Operand)
    (ho : o.op = .call { callee := .builtin .append, args := #[s, x], argTypes := #[t, t] }) (base : Nat) (v : Value) (l : List Ck) (hs : a.eval s = v) (hown : OwnC ty w base v l)
    (ad : Addr) (c : Nat) (hx : a.eval x = .slice (some ad) 1 c) (q : Ck) (d : Option Addr) (cap : Nat) (hc0 : w.cell? (ad.add 0) = some (.string q.1)) (hc1 : w.cell? (ad.add 1) = some (.slice d q.2.length cap)) (hd : Dat w v q d cap) (h63 : l.length ≤ 1000000) (hbase : base ≤ w.heap.size)
    (h : ∀ v' w', OwnC ty w' base v' (l ++ [q]) → Fr (fun i => v.ownBlock = some i) w w' → K (a.put o.dst v') w') : o.wp Try.prog a w K Q := by
  obtain ⟨v', w', hr, h2, h3⟩ := run_appC ty t ht hinfo w o.type base v l hown ad c q d cap hc0 hc1 hd h63 hbase
  unfold Oper.wp execOp
  simp only [ho, resolve, invoke, builtin, Sem.run_bind, Sem.run_pure, Result.andThen_ok, List.map_toArray, List.map_cons, List.map_nil, hs, hx, hr]
  exact h v' w' h2 h3
theorem wpList_appC (ty t : TypeId) (ht : Try.prog.underlying t = some (.slice ty)) (hinfo : (Try.prog.info? ty).map (fun i => (i.zero, i.size, i.bytes)) = some (some (.agg #[.string ⟨#[]⟩, .slice none 0 0]), 2, 40)) {w : World} {ops : Array Oper} {rest : List Oper} {o : Oper} {a : Act} {Q : Exit → Act → World → Prop} (hgd : o.guard = none) (s x : Operand)
    (ho : o.op = .call { callee := .builtin .append, args := #[s, x], argTypes := #[t, t] }) (base : Nat) (v : Value) (l : List Ck) (hs : a.eval s = v) (hown : OwnC ty w base v l)
    (ad : Addr) (c : Nat) (hx : a.eval x = .slice (some ad) 1 c) (q : Ck) (d : Option Addr) (cap : Nat) (hc0 : w.cell? (ad.add 0) = some (.string q.1)) (hc1 : w.cell? (ad.add 1) = some (.slice d q.2.length cap)) (hd : Dat w v q d cap) (h63 : l.length ≤ 1000000) (hbase : base ≤ w.heap.size)
    (h : ∀ v' w', OwnC ty w' base v' (l ++ [q]) → Fr (fun i => v.ownBlock = some i) w w' → wpList Try.prog ops Q rest (a.put o.dst v') w') : wpList Try.prog ops Q (o :: rest) a w :=
  wpList_plain hgd fun K hK => wp_appC ty t ht hinfo s x ho base v l hs hown ad c hx q d cap hc0 hc1 hd h63 hbase fun v' w' h1 h2 => hK _ _ (h v' w' h1 h2)
end Go.Proofs.Ytflapcaaaipoeaa
