/-
  chunk: appending many chunks.
-/
import Derived.Test.YtflapcaaaipoeaaDb
namespace Go.Proofs.Ytflapcaaaipoeaa
open Go.RowKit Go.Lib
set_option linter.unusedVariables false

theorem liesC_cells {w : World} {ad : Addr} {xs : List Ck} (hl : LiesC w (some ad) xs) : ∀ k, k ≤ xs.length → ∃ cs : List Value, cs.length = k * 2 ∧ (∀ x ∈ cs, x.oneCell' = true) ∧ (∀ j u, cs[j]? = some u → w.cell? (ad.add j) = some u) ∧
    ∀ i, i < k → ∃ d cap, cs[2 * i]? = some (.string (xs.getD i default).1) ∧ cs[2 * i + 1]? = some (.slice d (xs.getD i default).2.length cap) ∧ Lies w d (xs.getD i default).2 ∧ (d = none → cap = 0 ∧ (xs.getD i default).2 = []) ∧ (xs.getD i default).1.size ≤ 281474976710656 ∧ (xs.getD i default).2.length ≤ 281474976710656 ∧ (xs.getD i default).2.length ≤ cap
  | 0, _ => ⟨[], rfl, by simp, by simp, fun i hi => absurd hi (Nat.not_lt_zero i)⟩
  | k + 1, hk => by
    obtain ⟨cs, h1, h2, h3, h4⟩ := liesC_cells hl k (by omega)
    obtain ⟨b, o, d, cap, e, hc⟩ := hl k (by omega)
    cases e
    have e1 := hc.kind
    have e2 := hc.data
    refine ⟨cs ++ [.string (xs.getD k default).1, .slice d (xs.getD k default).2.length cap], by rw [List.length_append, h1]; simp only [List.length_cons, List.length_nil]; omega, fun x hx => ?_, fun j u hj => ?_, fun i hi => ?_⟩
    · rcases List.mem_append.1 hx with h | h
      · exact h2 x h
      · simp only [List.mem_cons, List.not_mem_nil, or_false] at h
        rcases h with rfl | rfl <;> rfl
    · rcases Nat.lt_or_ge j (k * 2) with hjl | hjl
      · rw [List.getElem?_append_left (by omega)] at hj
        exact h3 j u hj
      · rw [List.getElem?_append_right (by omega), h1] at hj
        obtain ⟨q, rfl⟩ : ∃ q, j = k * 2 + q := ⟨j - k * 2, by omega⟩
        rw [show k * 2 + q - k * 2 = q by omega] at hj
        rw [add_none]
        match q, hj with
        | 0, hj => cases hj; exact e1
        | 1, hj => cases hj; exact e2
        | q + 2, hj => simp at hj
    · by_cases hik : i < k
      · obtain ⟨d', cap', q1, q2, rest⟩ := h4 i hik
        exact ⟨d', cap', by rw [List.getElem?_append_left (by omega)]; exact q1, by rw [List.getElem?_append_left (by omega)]; exact q2, rest⟩
      · obtain rfl : i = k := by omega
        refine ⟨d, cap, ?_, ?_, hc.lies, hc.nil, hc.size, hc.len, hc.sp⟩
        · rw [List.getElem?_append_right (by omega), h1, show 2 * i - i * 2 = 0 by omega]; rfl
        · rw [List.getElem?_append_right (by omega), h1, show 2 * i + 1 - i * 2 = 1 by omega]; rfl

theorem getD_app_right {l xs : List Ck} {i : Nat} (h : l.length ≤ i) : (l ++ xs).getD i default = xs.getD (i - l.length) default := by
  rw [List.getD_eq_getElem?_getD, List.getElem?_append_right h, List.getD_eq_getElem?_getD]
theorem getD_app_left {l xs : List Ck} {i : Nat} (h : i < l.length) : (l ++ xs).getD i default = l.getD i default := by
  rw [List.getD_eq_getElem?_getD, List.getD_eq_getElem?_getD, List.getElem?_append_left h]

/-- Many chunks more: those that lie in elder memory. -/
theorem run_appCs (w : World) (rt : TypeId) (base : Nat) (v : Value) (l : List Ck) (hown : OwnC 44 w base v l) (ad : Addr) (c : Nat) (xs : List Ck) (w0 : World) (hl : LiesC w0 (some ad) xs) (hfr : Fr (fun _ => False) w0 w) (hb0 : w0.heap.size ≤ base) (h63 : l.length + xs.length ≤ 1000000) (hbase : base ≤ w.heap.size) :
    ∃ v' w', (Builtin.append_ #[28, 28] rt #[v, .slice (some ad) xs.length c]).run Try.prog w = .ok v' w' ∧ OwnC 44 w' base v' (l ++ xs) ∧ Fr (fun i => v.ownBlock = some i) w w' := by
  obtain ⟨i0, hi, hz0, hz1, hz2⟩ := info_parts Try.info44
  have hform := hown.form.2
  obtain ⟨ys, h1, ho, h2⟩ := hown
  obtain ⟨cs, c1, c2, c3, c4⟩ := liesC_cells (hl.keep hfr (fun _ _ h => h)) xs.length (Nat.le_refl _)
  obtain ⟨_, _, _, _, c4'⟩ := liesC_cells hl xs.length (Nat.le_refl _)
  obtain ⟨v', w', r1, r2, r3, _, r5⟩ := run_append_own_at (P := Try.prog) w base 28 rt 44 i0 (.agg #[.string ⟨#[]⟩, .slice none 0 0]) 2 40 Try.underlying28 hi hz0 hz1 hz2 rfl (by decide) v l.length ys h1 ad xs.length c cs c1 c3 c2 (by unfold maxLen; omega) (by omega) hbase
  have hf := Fr.of_grown r3
  have hyl : ys.length = 2 * l.length := by rw [h1.1, Nat.mul_comm]
  refine ⟨v', w', r1, ⟨ys ++ cs, by rw [List.length_append]; exact r2, fun x hx => (List.mem_append.1 hx).elim (ho x) (c2 x), fun i hi => ?_⟩, hf⟩
  have hap : ∀ {q' : Ck} {d' : Option Addr} {cap' : Nat}, Dat w v q' d' cap' → Dat w' v' q' d' cap' := by
    intro q' d' cap' hd'
    have hk := hd'.keep hf fun k _ hs => hs
    refine ⟨hk.lies, hk.nil, hk.size, hk.len, hk.sp, fun h0 ad' e hb => ?_⟩
    obtain ⟨ad'', e2, hcell⟩ := hd'.lies.2 0 h0
    rw [e] at e2
    cases e2
    have hlt := World.block_lt_of_cell? w _ hcell
    rw [add_block] at hlt
    rcases r5 with r5 | r5
    · rw [r5] at hb; exact hd'.apart h0 ad' e hb
    · rw [r5] at hb
      have := Option.some.inj hb
      omega
  rw [List.length_append] at hi
  by_cases hil : i < l.length
  · obtain ⟨d', cap', e1, e2, hd'⟩ := h2 i hil
    refine ⟨d', cap', ?_, ?_, ?_⟩
    · rw [getD_app_left hil, List.getElem?_append_left (by omega)]; exact e1
    · rw [getD_app_left hil, List.getElem?_append_left (by omega)]; exact e2
    · rw [getD_app_left hil]; exact hap hd'
  · obtain ⟨j, rfl⟩ : ∃ j, i = l.length + j := ⟨i - l.length, by omega⟩
    obtain ⟨d, cap, e1, e2, g1, g2, g3, g4, g5⟩ := c4 j (by omega)
    have hel : (l ++ xs).getD (l.length + j) default = xs.getD j default := by rw [getD_app_right (by omega), show l.length + j - l.length = j by omega]
    rw [hel]
    refine ⟨d, cap, ?_, ?_, hap ⟨g1, g2, g3, g4, g5, fun h0 ad' e hb => ?_⟩⟩
    · rw [List.getElem?_append_right (by omega), hyl, show 2 * (l.length + j) - 2 * l.length = 2 * j by omega]; exact e1
    · rw [List.getElem?_append_right (by omega), hyl, show 2 * (l.length + j) + 1 - 2 * l.length = 2 * j + 1 by omega]; exact e2
    · obtain ⟨b, o, d0, cap0, ea, hck⟩ := hl j (by omega)
      have hdd : d0 = d := by
        have z1 := hck.data
        have z2 := c3 _ _ e2
        cases ea
        rw [add_none] at z2
        have z3 := cell_fr hfr z1 (fun h => h)
        rw [show o + (2 * j + 1) = o + j * 2 + 1 by omega, z3] at z2
        cases z2
        rfl
      subst hdd
      obtain ⟨ad2, e3, hcell⟩ := hck.lies.2 0 h0
      rw [e] at e3
      cases e3
      have hlt := World.block_lt_of_cell? w0 _ hcell
      rw [add_block] at hlt
      have := (hform _ hb).1
      omega

theorem wp_appCs {w : World} {o : Oper} {a : Act} {K : Act → World → Prop} {Q : Exit → Act → World → Prop} (s x : Operand)
    (ho : o.op = .call { callee := .builtin .append, args := #[s, x], argTypes := #[28, 28] }) (base : Nat) (v : Value) (l : List Ck) (hs : a.eval s = v) (hown : OwnC 44 w base v l)
    (ad : Addr) (n c : Nat) (hx : a.eval x = .slice (some ad) n c) (xs : List Ck) (hn : n = xs.length) (w0 : World) (hl : LiesC w0 (some ad) xs) (hfr : Fr (fun _ => False) w0 w) (hb0 : w0.heap.size ≤ base) (h63 : l.length + xs.length ≤ 1000000) (hbase : base ≤ w.heap.size)
    (h : ∀ v' w', OwnC 44 w' base v' (l ++ xs) → Fr (fun i => v.ownBlock = some i) w w' → K (a.put o.dst v') w') : o.wp Try.prog a w K Q := by
  subst hn
  obtain ⟨v', w', hr, h2, h3⟩ := run_appCs w o.type base v l hown ad c xs w0 hl hfr hb0 h63 hbase
  unfold Oper.wp execOp
  simp only [ho, resolve, invoke, builtin, Sem.run_bind, Sem.run_pure, Result.andThen_ok, List.map_toArray, List.map_cons, List.map_nil, hs, hx, hr]
  exact h v' w' h2 h3
theorem wpList_appCs {w : World} {ops : Array Oper} {rest : List Oper} {o : Oper} {a : Act} {Q : Exit → Act → World → Prop} (hgd : o.guard = none) (s x : Operand)
    (ho : o.op = .call { callee := .builtin .append, args := #[s, x], argTypes := #[28, 28] }) (base : Nat) (v : Value) (l : List Ck) (hs : a.eval s = v) (hown : OwnC 44 w base v l)
    (ad : Addr) (n c : Nat) (hx : a.eval x = .slice (some ad) n c) (xs : List Ck) (hn : n = xs.length) (w0 : World) (hl : LiesC w0 (some ad) xs) (hfr : Fr (fun _ => False) w0 w) (hb0 : w0.heap.size ≤ base) (h63 : l.length + xs.length ≤ 1000000) (hbase : base ≤ w.heap.size)
    (h : ∀ v' w', OwnC 44 w' base v' (l ++ xs) → Fr (fun i => v.ownBlock = some i) w w' → wpList Try.prog ops Q rest (a.put o.dst v') w') : wpList Try.prog ops Q (o :: rest) a w :=
  wpList_plain hgd fun K hK => wp_appCs s x ho base v l hs hown ad n c hx xs hn w0 hl hfr hb0 h63 hbase fun v' w' h1 h2 => hK _ _ (h v' w' h1 h2)

theorem OwnC.fresh (w : World) (base : Nat) (hb : base ≤ w.heap.size) : OwnC 44 (w.alloc (.cells #[] 44)) base (.slice (some ⟨w.heap.size, 0, none⟩) 0 0) [] :=
  ⟨[], ⟨rfl, .inr ⟨w.heap.size, 0, #[], rfl, hb, heap_alloc_new w _, Nat.le_refl _, Nat.zero_le _, rfl, rfl⟩⟩, by simp, fun i hi => absurd hi (Nat.not_lt_zero i)⟩

theorem LiesC.take {w : World} {a : Option Addr} {l : List Ck} (h : LiesC w a l) (k : Nat) : LiesC w a (l.take k) := by
  intro i hi
  rw [List.length_take] at hi
  have e : (l.take k).getD i default = l.getD i default := by
    simp only [List.getD_eq_getElem?_getD, List.getElem?_take, if_pos (show i < k by omega)]
  rw [e]
  exact h i (by omega)
theorem LiesC.drop {w : World} {b o : Nat} {l : List Ck} (h : LiesC w (some ⟨b, o, none⟩) l) (k : Nat) : LiesC w (some ⟨b, o + k * 2, none⟩) (l.drop k) := by
  intro i hi
  rw [List.length_drop] at hi
  have e : (l.drop k).getD i default = l.getD (k + i) default := by
    simp only [List.getD_eq_getElem?_getD, List.getElem?_drop]
  rw [e]
  obtain ⟨b', o', d, cap, ea, hc⟩ := h (k + i) (by omega)
  cases ea
  exact ⟨b, o + k * 2, d, cap, rfl, by rw [show o + k * 2 + i * 2 = o + (k + i) * 2 by omega]; exact hc⟩
theorem LiesC.nil (w : World) (a : Option Addr) : LiesC w a [] := fun i hi => absurd hi (Nat.not_lt_zero i)
theorem getS {A : Array Value} {p : Nat} {u : Value} (h : p < A.size) : (A.setIfInBounds p u)[p]? = some u := by simp [h]
theorem getN {A : Array Value} {p q : Nat} {u : Value} (h : p ≠ q) : (A.setIfInBounds p u)[q]? = A[q]? := Array.getElem?_setIfInBounds_ne h
theorem set4 {A : Array Value} {i j : Nat} (u1 u2 u3 u4 : Value) (hi : i * 2 + 1 < A.size) (hj : j * 2 + 1 < A.size) :
    ((((A.setIfInBounds (i * 2) u1).setIfInBounds (i * 2 + 1) u2).setIfInBounds (j * 2) u3).setIfInBounds (j * 2 + 1) u4)[j * 2]? = some u3 ∧
    ((((A.setIfInBounds (i * 2) u1).setIfInBounds (i * 2 + 1) u2).setIfInBounds (j * 2) u3).setIfInBounds (j * 2 + 1) u4)[j * 2 + 1]? = some u4 ∧
    (i ≠ j → ((((A.setIfInBounds (i * 2) u1).setIfInBounds (i * 2 + 1) u2).setIfInBounds (j * 2) u3).setIfInBounds (j * 2 + 1) u4)[i * 2]? = some u1 ∧
      ((((A.setIfInBounds (i * 2) u1).setIfInBounds (i * 2 + 1) u2).setIfInBounds (j * 2) u3).setIfInBounds (j * 2 + 1) u4)[i * 2 + 1]? = some u2) ∧
    ∀ k, k ≠ i → k ≠ j → ((((A.setIfInBounds (i * 2) u1).setIfInBounds (i * 2 + 1) u2).setIfInBounds (j * 2) u3).setIfInBounds (j * 2 + 1) u4)[k * 2]? = A[k * 2]? ∧
      ((((A.setIfInBounds (i * 2) u1).setIfInBounds (i * 2 + 1) u2).setIfInBounds (j * 2) u3).setIfInBounds (j * 2 + 1) u4)[k * 2 + 1]? = A[k * 2 + 1]? := by
  refine ⟨?_, ?_, fun hne => ⟨?_, ?_⟩, fun k h1 h2 => ⟨?_, ?_⟩⟩
  · rw [getN (by omega), getS (by simp only [Array.size_setIfInBounds]; omega)]
  · rw [getS (by simp only [Array.size_setIfInBounds]; omega)]
  · rw [getN (by omega), getN (by omega), getN (by omega), getS (by omega)]
  · rw [getN (by omega), getN (by omega), getS (by simp only [Array.size_setIfInBounds]; omega)]
  · rw [getN (by omega), getN (by omega), getN (by omega), getN (by omega)]
  · rw [getN (by omega), getN (by omega), getN (by omega), getN (by omega)]

/-- Two chunks of a row of one's own change places. -/
theorem liesC_swap {w : World} {base g L vc i j : Nat} {l : List Ck} (h : OwnC 44 w base (.slice (some ⟨g, 0, none⟩) L vc) l) (hi : i < l.length) (hj : j < l.length) {q1 q2 : Ck} (e1 : l.getD i default = q1) (e2 : l.getD j default = q2) {d1 d2 : Option Addr} {k1 k2 : Nat}
    (D1 : Dat w (.slice (some ⟨g, 0, none⟩) L vc) q1 d1 k1) (D2 : Dat w (.slice (some ⟨g, 0, none⟩) L vc) q2 d2 k2) :
    LiesC ((((w.setCell ⟨g, i * 2, none⟩ (.string q2.1)).setCell ⟨g, i * 2 + 1, none⟩ (.slice d2 q2.2.length k2)).setCell ⟨g, j * 2, none⟩ (.string q1.1)).setCell ⟨g, j * 2 + 1, none⟩ (.slice d1 q1.2.length k1)) (some ⟨g, 0, none⟩) ((l.set i q2).set j q1) := by
  obtain ⟨xs, how, hone, hcs⟩ := h
  obtain ⟨cur, hg, hsz⟩ : ∃ cur, w.heap[g]? = some (.cells cur 44 (0, 0)) ∧ l.length * 2 ≤ cur.size := by
    rcases how.2 with ⟨h, _⟩ | ⟨g', cap, cur, h, _, hg, hc, _, hs, _⟩
    · cases h
    · cases h; exact ⟨cur, hg, by rw [hs]; omega⟩
  have hF := (((Fr.of_setCell w ⟨g, i * 2, none⟩ (.string q2.1)).join (Fr.of_setCell _ ⟨g, i * 2 + 1, none⟩ (.slice d2 q2.2.length k2))).join (Fr.of_setCell _ ⟨g, j * 2, none⟩ (.string q1.1))).join (Fr.of_setCell _ ⟨g, j * 2 + 1, none⟩ (.slice d1 q1.2.length k1))
  have hW := heap_setCell_own (o := j * 2 + 1) (.slice d1 q1.2.length k1) (heap_setCell_own (o := j * 2) (.string q1.1) (heap_setCell_own (o := i * 2 + 1) (.slice d2 q2.2.length k2) (heap_setCell_own (o := i * 2) (.string q2.1) hg)))
  generalize ((((w.setCell ⟨g, i * 2, none⟩ (.string q2.1)).setCell ⟨g, i * 2 + 1, none⟩ (.slice d2 q2.2.length k2)).setCell ⟨g, j * 2, none⟩ (.string q1.1)).setCell ⟨g, j * 2 + 1, none⟩ (.slice d1 q1.2.length k1)) = W at *
  have hD : ∀ {q : Ck} {d : Option Addr} {cap : Nat}, Dat w (.slice (some ⟨g, 0, none⟩) L vc) q d cap → Dat W (.slice (some ⟨g, 0, none⟩) L vc) q d cap := fun h => h.keep hF (fun k _ e => by rw [e]; rfl)
  obtain ⟨s1, s2, s3, s4⟩ := set4 (A := cur) (i := i) (j := j) (.string q2.1) (.slice d2 q2.2.length k2) (.string q1.1) (.slice d1 q1.2.length k1) (by omega) (by omega)
  have hcell : ∀ p, W.cell? ⟨g, p, none⟩ = ((((cur.setIfInBounds (i * 2) (.string q2.1)).setIfInBounds (i * 2 + 1) (.slice d2 q2.2.length k2)).setIfInBounds (j * 2) (.string q1.1)).setIfInBounds (j * 2 + 1) (.slice d1 q1.2.length k1))[p]? := fun p => by
    simp only [World.cell?, hW]; rfl
  have hcell0 : ∀ p, w.cell? ⟨g, p, none⟩ = cur[p]? := fun p => by
    simp only [World.cell?, hg]; rfl
  intro k hk
  rw [List.length_set, List.length_set] at hk
  by_cases hkj : k = j
  · have e : ((l.set i q2).set j q1).getD k default = q1 := by
      rw [hkj, List.getD_eq_getElem?_getD, List.getElem?_set_self (by rw [List.length_set]; exact hj)]; rfl
    rw [e, hkj]
    have D := hD D1
    exact ⟨g, 0, d1, k1, rfl, by rw [Nat.zero_add, hcell]; exact s1, by rw [Nat.zero_add, hcell]; exact s2, D.lies, D.nil, D.size, D.len, D.sp⟩
  · have hjk : j ≠ k := fun h => hkj h.symm
    by_cases hki : k = i
    · have e : ((l.set i q2).set j q1).getD k default = q2 := by
        rw [List.getD_eq_getElem?_getD, List.getElem?_set_ne hjk, hki, List.getElem?_set_self hi]; rfl
      rw [e, hki]
      have D := hD D2
      have s := s3 (by rw [← hki]; exact hkj)
      exact ⟨g, 0, d2, k2, rfl, by rw [Nat.zero_add, hcell]; exact s.1, by rw [Nat.zero_add, hcell]; exact s.2, D.lies, D.nil, D.size, D.len, D.sp⟩
    · have e : ((l.set i q2).set j q1).getD k default = l.getD k default := by
        rw [List.getD_eq_getElem?_getD, List.getElem?_set_ne hjk, List.getElem?_set_ne (fun h => hki h.symm), ← List.getD_eq_getElem?_getD]
      rw [e]
      obtain ⟨d, cap, z1, z2, D0⟩ := hcs k hk
      have D := hD D0
      have y1 := how.cells (g := g) rfl _ _ z1
      have y2 := how.cells (g := g) rfl _ _ z2
      rw [add_none, Nat.zero_add, Nat.mul_comm, hcell0] at y1 y2
      have s := s4 k hki hkj
      exact ⟨g, 0, d, cap, rfl, by rw [Nat.zero_add, hcell, s.1]; exact y1, by rw [Nat.zero_add, hcell, s.2]; exact y2, D.lies, D.nil, D.size, D.len, D.sp⟩
end Go.Proofs.Ytflapcaaaipoeaa
