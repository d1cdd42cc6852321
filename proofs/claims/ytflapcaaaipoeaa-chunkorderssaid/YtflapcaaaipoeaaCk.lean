/-
  chunk: appending for the walk; strings and new rows as bytes of one's own; clones.
-/
import Derived.Test.YtflapcaaaipoeaaCj
import Derived.WalkLawsBesides
namespace Go.Proofs.Ytflapcaaaipoeaa
open Go.RowKit Go.Lib
set_option linter.unusedVariables false

theorem run_appS (w : World) (ty : TypeId) (base : Nat) (v : Value) (bs : List Nat) (hown : OwnB w base v bs) (s : ByteArray) (h63 : bs.length + s.size ≤ 140737488355328) (hbase : base ≤ w.heap.size) :
    ∃ v' w', (Builtin.append_ #[22, 9] ty #[v, .string s]).run Try.prog w = .ok v' w' ∧ OwnB w' base v' (bs ++ strBytes s) ∧ Fr (fun i => v.ownBlock = some i) w w' := by
  obtain ⟨i0, hi, hz0, hz1, hz2⟩ := info_parts Try.info5
  have hsm : ∀ b ∈ bs ++ strBytes s, b < 256 := fun b hb => (List.mem_append.1 hb).elim (hown.small b) (strBytes_lt s b)
  have hmx : bs.length + s.size ≤ maxLen := by unfold maxLen; omega
  have hls := strBytes_length s
  rcases hown.own with ⟨rfl, rfl⟩ | ⟨g, cap, cur, fz, rfl, hb, hg, hfz, hc, hcm, hcs, ht⟩
  · obtain ⟨v', w', h1, h2, h3, _⟩ := run_append_own_string (P := Try.prog) w base 22 9 ty 5 i0 Try.underlying22 Try.underlying9 hi hz0 hz1 hz2 (.slice none 0 0) 0 [] (World.ownsRow_nil w base 5 1) s (by simpa using hmx) (by simpa using h63) hbase
    refine ⟨v', w', h1, ⟨hsm, ?_⟩, ⟨h3.os, h3.tape, h3.output, h3.size, fun k hk hn => h3.block k hk (fun e => hn e.symm)⟩⟩
    rw [Nat.zero_add, List.nil_append] at h2
    rcases h2.2 with ⟨rfl, hn⟩ | ⟨g, cap, cur, rfl, hb, hg, hc, hcm, hcs, ht⟩
    · exact .inl ⟨rfl, List.eq_nil_of_length_eq_zero (by simp [hls, hn])⟩
    · exact .inr ⟨g, cap, cur, (0, 0), by simp [hls], hb, hg, .inr rfl, by simpa [hls] using hc, hcm, by simpa using hcs, by simpa [hls, cellsOf_str] using ht⟩
  · by_cases hroom : bs.length + s.size ≤ cap
    · have hf := run_firstCells_string (P := Try.prog) w 1 s
      have hst := storeCells_M Try.prog g bs.length 5 fz (strCells s) 0 cur w hg hfz (by simp [strCells_length]; omega) (strCells_oneCell s)
      simp only [Nat.add_zero] at hst
      have hr : (Builtin.append_ #[22, 9] ty #[.slice (some ⟨g, 0, none⟩) bs.length cap, .string s]).run Try.prog w = .ok (.slice (some ⟨g, 0, none⟩) (bs.length + s.size) cap) (w.setRow g (cur.toList.take bs.length ++ strCells s ++ cur.toList.drop (bs.length + (strCells s).length)).toArray) := by
        simp [Builtin.append_, run_underlying Try.underlying22, run_underlying Try.underlying9, sizeOf, typeInfo, hi, Builtin.lenOf, hroom, hf, Addr.add_lit, hst, hz1]
      refine ⟨_, _, hr, ⟨hsm, .inr ⟨g, cap, _, fz, by simp [hls], hb, setRow_heap w g cur _ 5 _ hg, ?_, by simpa [hls] using hroom, hcm, ?_, ?_⟩⟩, Fr.of_setRow.mono (fun k _ h => by rw [h]; rfl)⟩
      · refine hfz.imp (fun h => ?_) id
        simp only [List.size_toArray, List.length_append, List.length_take, List.length_drop, Array.length_toList, strCells_length]
        omega
      · simp only [List.size_toArray, List.length_append, List.length_take, List.length_drop, Array.length_toList, strCells_length]
        omega
      · rw [ht, ← cellsOf_str, cellsOf_append, ← cellsOf_length (bs ++ strBytes s)]
        exact List.take_left
    · have holds : ∀ j u, (cellsOf bs)[j]? = some u → w.cell? ((⟨g, 0, none⟩ : Addr).add j) = some u := fun j u hu => by
        obtain ⟨hj, rfl⟩ := cellsOf_get hu
        obtain ⟨ad', e, hc⟩ := (OwnB.lies hown).2 j hj
        cases e
        exact hc
      have hr := run_append_grow_string (P := Try.prog) w 22 9 ty 5 i0 (.int .u8 0) Try.underlying22 Try.underlying9 hi hz0 ⟨g, 0, none⟩ bs.length cap (cellsOf bs) (by rw [hz1, cellsOf_length, Nat.mul_one]) holds s (by omega) (by omega) (growslice_fits (by omega) (by rw [hz2, Nat.mul_one]; exact h63))
      have hge := grownCap_ge w (bs.length + s.size) cap 5
      have hcm2 : grownCap w (bs.length + s.size) cap 5 ≤ maxLen := grownCap_le_maxLen w (bs.length + s.size) cap 5 hmx
      refine ⟨_, _, hr, ⟨hsm, .inr ⟨w.heap.size, _, _, (0, 0), by simp [hls], hbase, heap_alloc_new w.drew _, .inr rfl, by simpa [hls] using hge, hcm2, ?_, ?_⟩⟩, (Fr.of_drewalloc w _).mono (fun _ _ h => h.elim)⟩
      · have hz1 : (Value.int IntKind.u8 0).cells.size = 1 := rfl
        simp only [Array.size_append, List.size_toArray, size_zeroCells, hz1, cellsOf_length, strCells_length]
        omega
      · simp only [Array.toList_append, List.append_assoc]
        rw [← List.append_assoc, ← cellsOf_str, cellsOf_append, ← cellsOf_length (bs ++ strBytes s)]
        exact List.take_left

theorem wp_appB {w : World} {o : Oper} {a : Act} {K : Act → World → Prop} {Q : Exit → Act → World → Prop} (s x : Operand)
    (ho : o.op = .call { callee := .builtin .append, args := #[s, x], argTypes := #[22, 22] }) (base : Nat) (v : Value) (bs : List Nat) (hs : a.eval s = v) (hown : OwnB w base v bs)
    (sa : Option Addr) (c : Nat) (xs : List Nat) (hx : a.eval x = .slice sa xs.length c) (hl : Lies w sa xs) (hnil : sa = none → c = 0 ∧ xs = []) (h63 : bs.length + xs.length ≤ 140737488355328) (hbase : base ≤ w.heap.size)
    (h : ∀ v' w', OwnB w' base v' (bs ++ xs) → Fr (fun i => v.ownBlock = some i) w w' → K (a.put o.dst v') w') : o.wp Try.prog a w K Q := by
  obtain ⟨v', w', hr, h2, h3⟩ := run_appB w o.type base v bs hown sa c xs hl hnil h63 hbase
  unfold Oper.wp execOp
  simp only [ho, resolve, invoke, builtin, Sem.run_bind, Sem.run_pure, Result.andThen_ok, List.map_toArray, List.map_cons, List.map_nil, hs, hx, hr]
  exact h v' w' h2 h3
theorem wpList_appB {w : World} {ops : Array Oper} {rest : List Oper} {o : Oper} {a : Act} {Q : Exit → Act → World → Prop} (hgd : o.guard = none) (s x : Operand)
    (ho : o.op = .call { callee := .builtin .append, args := #[s, x], argTypes := #[22, 22] }) (base : Nat) (v : Value) (bs : List Nat) (hs : a.eval s = v) (hown : OwnB w base v bs)
    (sa : Option Addr) (c : Nat) (xs : List Nat) (hx : a.eval x = .slice sa xs.length c) (hl : Lies w sa xs) (hnil : sa = none → c = 0 ∧ xs = []) (h63 : bs.length + xs.length ≤ 140737488355328) (hbase : base ≤ w.heap.size)
    (h : ∀ v' w', OwnB w' base v' (bs ++ xs) → Fr (fun i => v.ownBlock = some i) w w' → wpList Try.prog ops Q rest (a.put o.dst v') w') : wpList Try.prog ops Q (o :: rest) a w :=
  wpList_plain hgd fun K hK => wp_appB s x ho base v bs hs hown sa c xs hx hl hnil h63 hbase fun v' w' h1 h2 => hK _ _ (h v' w' h1 h2)
theorem wp_appBn {w : World} {o : Oper} {a : Act} {K : Act → World → Prop} {Q : Exit → Act → World → Prop} (s x : Operand)
    (ho : o.op = .call { callee := .builtin .append, args := #[s, x], argTypes := #[22, 22] }) (base : Nat) (v : Value) (bs : List Nat) (hs : a.eval s = v) (hown : OwnB w base v bs)
    (sa : Option Addr) (n c : Nat) (xs : List Nat) (hx : a.eval x = .slice sa n c) (hn : n = xs.length) (hl : Lies w sa xs) (hnil : sa = none → c = 0 ∧ xs = []) (h63 : bs.length + xs.length ≤ 140737488355328) (hbase : base ≤ w.heap.size)
    (h : ∀ v' w', OwnB w' base v' (bs ++ xs) → Fr (fun i => v.ownBlock = some i) w w' → K (a.put o.dst v') w') : o.wp Try.prog a w K Q := by
  subst hn
  exact wp_appB s x ho base v bs hs hown sa c xs hx hl hnil h63 hbase h
theorem wpList_appBn {w : World} {ops : Array Oper} {rest : List Oper} {o : Oper} {a : Act} {Q : Exit → Act → World → Prop} (hgd : o.guard = none) (s x : Operand)
    (ho : o.op = .call { callee := .builtin .append, args := #[s, x], argTypes := #[22, 22] }) (base : Nat) (v : Value) (bs : List Nat) (hs : a.eval s = v) (hown : OwnB w base v bs)
    (sa : Option Addr) (n c : Nat) (xs : List Nat) (hx : a.eval x = .slice sa n c) (hn : n = xs.length) (hl : Lies w sa xs) (hnil : sa = none → c = 0 ∧ xs = []) (h63 : bs.length + xs.length ≤ 140737488355328) (hbase : base ≤ w.heap.size)
    (h : ∀ v' w', OwnB w' base v' (bs ++ xs) → Fr (fun i => v.ownBlock = some i) w w' → wpList Try.prog ops Q rest (a.put o.dst v') w') : wpList Try.prog ops Q (o :: rest) a w := by
  subst hn
  exact wpList_appB hgd s x ho base v bs hs hown sa c xs hx hl hnil h63 hbase h
theorem wp_appS {w : World} {o : Oper} {a : Act} {K : Act → World → Prop} {Q : Exit → Act → World → Prop} (s x : Operand)
    (ho : o.op = .call { callee := .builtin .append, args := #[s, x], argTypes := #[22, 9] }) (base : Nat) (v : Value) (bs : List Nat) (hs : a.eval s = v) (hown : OwnB w base v bs)
    (st : ByteArray) (hx : a.eval x = .string st) (h63 : bs.length + st.size ≤ 140737488355328) (hbase : base ≤ w.heap.size)
    (h : ∀ v' w', OwnB w' base v' (bs ++ strBytes st) → Fr (fun i => v.ownBlock = some i) w w' → K (a.put o.dst v') w') : o.wp Try.prog a w K Q := by
  obtain ⟨v', w', hr, h2, h3⟩ := run_appS w o.type base v bs hown st h63 hbase
  unfold Oper.wp execOp
  simp only [ho, resolve, invoke, builtin, Sem.run_bind, Sem.run_pure, Result.andThen_ok, List.map_toArray, List.map_cons, List.map_nil, hs, hx, hr]
  exact h v' w' h2 h3
theorem wpList_appS {w : World} {ops : Array Oper} {rest : List Oper} {o : Oper} {a : Act} {Q : Exit → Act → World → Prop} (hgd : o.guard = none) (s x : Operand)
    (ho : o.op = .call { callee := .builtin .append, args := #[s, x], argTypes := #[22, 9] }) (base : Nat) (v : Value) (bs : List Nat) (hs : a.eval s = v) (hown : OwnB w base v bs)
    (st : ByteArray) (hx : a.eval x = .string st) (h63 : bs.length + st.size ≤ 140737488355328) (hbase : base ≤ w.heap.size)
    (h : ∀ v' w', OwnB w' base v' (bs ++ strBytes st) → Fr (fun i => v.ownBlock = some i) w w' → wpList Try.prog ops Q rest (a.put o.dst v') w') : wpList Try.prog ops Q (o :: rest) a w :=
  wpList_plain hgd fun K hK => wp_appS s x ho base v bs hs hown st hx h63 hbase fun v' w' h1 h2 => hK _ _ (h v' w' h1 h2)

/-- A string as bytes of one's own. -/
theorem convB (w : World) (s : ByteArray) (hm : s.size ≤ 140737488355328) : ∃ c w', (convert 9 22 (.string s)).run Try.prog w = .ok (.slice (some ⟨w.heap.size, 0, none⟩) (strBytes s).length c) w' ∧ Fr (fun _ => False) w w' ∧ OwnB w' w.heap.size (.slice (some ⟨w.heap.size, 0, none⟩) (strBytes s).length c) (strBytes s) := by
  have hm2 : s.size ≤ maxLen := by unfold maxLen; omega
  refine ⟨grownCap w s.size 0 5, _, by rw [strBytes_length]; exact run_bytes_of_string w 9 22 5 s Try.underlying9 Try.underlying22 Try.underlying5, (Fr.of_drewN w 1).join (Fr.of_alloc _ _), ⟨strBytes_lt s, .inr ⟨w.heap.size, grownCap w s.size 0 5, bytesRow s (grownCap w s.size 0 5), _, rfl, Nat.le_refl _, heap_alloc_new w.drew _, .inl (Nat.le_refl _), ?_, grownCap_le_maxLen w s.size 0 5 hm2, ?_, ?_⟩⟩⟩
  · rw [strBytes_length]; exact grownCap_ge w s.size 0 5
  · have := grownCap_ge w s.size 0 5
    simp [bytesRow]
    have : s.data.size = s.size := rfl
    omega
  · rw [strBytes_length, cellsOf_str]
    unfold bytesRow
    rw [Array.toList_append]
    have : s.size = (strCells s).length := (strCells_length s).symm
    rw [this]
    have e : (s.data.map fun b => Value.int IntKind.u8 b.toNat).toList = strCells s := by simp [strCells]
    rw [e]
    exact List.take_left

theorem OwnB.fresh (w : World) (n : Nat) (hn : n ≤ maxLen) (cs : Array Value) (hcs : cs.size = n) : OwnB (w.alloc (.cells cs 5)) w.heap.size (.slice (some ⟨w.heap.size, 0, none⟩) 0 n) [] :=
  ⟨by simp, .inr ⟨w.heap.size, n, cs, (0, 0), rfl, Nat.le_refl _, heap_alloc_new w _, .inr rfl, Nat.zero_le _, hn, hcs, by simp [cellsOf]⟩⟩

theorem eql_nil (a : Option Addr) (l c : Nat) (w : World) : (binOp .eql 22 (.slice a l c) (.slice none 0 0)).run Try.prog w = .ok (.bool a.isNone) w := by
  cases a <;> kernel_rfl

set_option maxHeartbeats 400000 in
theorem clone_c (a : Option Addr) (c : Nat) (bs : List Nat) (w : World) (hl : Lies w a bs) (hnil : a = none → c = 0 ∧ bs = []) (hlen : bs.length ≤ 140737488355328) :
    Calls Try.prog 38 #[.slice a bs.length c] w fun e w' => ∃ v, e = .returned v ∧ OwnB w' w.heap.size v bs ∧ Fr (fun _ => False) w w' := by
  cases a with
  | none =>
    obtain ⟨rfl, rfl⟩ := hnil rfl
    have hen := eql_nil
    go_enter Try.func38, Try.ntmps38
    go_wp2
    go_ret
    exact ⟨_, rfl, OwnB.nil _ _, Fr.refl _ _⟩
  | some ad =>
    have Hl := hide hl
    clear hl hnil
    have ho := OwnB.fresh w 0 (Nat.zero_le _) #[] rfl
    have HO := hide ho
    clear ho
    have hen := eql_nil
    go_enter Try.func38, Try.ntmps38
    go_wp2_with (at_builtin; go_must (refine wpList_appB rfl _ _ rfl w.heap.size _ [] rfl HO.out (some ad) c bs rfl (Hl.out.keep (Fr.of_alloc _ _) (fun _ _ h => h)) (fun h => by cases h) (by simpa using hlen) (by simp) ?_))
    intro v' w' h1 h2
    go_wp2
    go_ret
    exact ⟨_, rfl, h1, ((Fr.of_alloc w _).trans h2).mono fun k hk h => by
      rcases h with h | h
      · exact h
      · simp [Value.ownBlock] at h; omega⟩
end Go.Proofs.Ytflapcaaaipoeaa
