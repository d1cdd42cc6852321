/-
  palette: Make.
-/
import Derived.Test.YthdilabmajaehaaYi
import Derived.Sort.CutIn
namespace Go.Proofs.Ythdilabmajaehaa
open Go.RowKit

attribute [local go_sem] Oper.semAt_some

theorem Try.info5 : (Try.prog.info? 5).map (fun i => (i.zero, i.size, i.bytes)) = some (some (.int .u8 0), 1, 1) := by kernel_rfl

/-- Bytes as cells. -/
def cellsB (bs : List Nat) : List Value := bs.map fun b => .int .u8 ((b : Nat) : Int)

theorem makeB (n : Nat) (hn : n ≤ 5000000) : ∀ W : World, (Instr.makeSlice 45 (.int .i64 0) (.int .i64 (n : Int))).run Try.prog W = .ok (.slice (some ⟨W.heap.size, 0, none⟩) 0 n) (W.alloc (.cells (cellsB (List.replicate n 0)).toArray 5)) := by
  obtain ⟨i0, hi, hz0, hz1, hz2⟩ := info_parts Try.info5
  intro W
  have := run_make (P := Try.prog) W 45 5 i0 (.int .u8 0) Try.underlying45 hi hz0 .i64 .i64 0 n (by omega) (by omega) (by rw [hz2]; omega) (by omega)
  rw [hz1] at this
  have e : madeCells (Value.int .u8 0).cells (n * 1) = (cellsB (List.replicate n 0)).toArray := by
    apply Array.ext'
    rw [Nat.mul_one]
    show (madeCells #[.int .u8 0] n).toList = _
    rw [toList_madeCells_one]
    simp [cellsB]
  rw [← e]
  simpa using this

/-- Bytes of one's own. -/
def OwnY (w : World) (base : Nat) (v : Value) (bs : List Nat) : Prop := w.ownsRow base 5 1 v bs.length (cellsB bs)

theorem OwnY.block {w : World} {base : Nat} {v : Value} {ks : List Nat} (h : OwnY w base v ks) {k : Nat} (hk : v.ownBlock = some k) : base ≤ k ∧ ∃ cur, w.heap[k]? = some (.cells cur 5 (0, 0)) := by
  rcases h.2 with ⟨e, _⟩ | ⟨g, cap, cur, e, hb, hg, _⟩
  · rw [e] at hk; cases hk
  · rw [e] at hk; cases hk; exact ⟨hb, cur, hg⟩
theorem OwnY.keep {w w' : World} {S : Nat → Prop} {base : Nat} {v : Value} {ks : List Nat} (h : OwnY w base v ks) (f : Fr S w w') (hn : ∀ k, v.ownBlock = some k → ¬ S k) : OwnY w' base v ks :=
  ownsRow_fr h fun k hk => f.block k (by obtain ⟨_, cur, hg⟩ := h.block hk; exact lt_of hg) (hn k hk)

theorem run_appY (w : World) (ty : TypeId) (base : Nat) (v : Value) (ks : List Nat) (hown : OwnY w base v ks) (ad : Addr) (c : Nat) (x : Nat) (hc : w.cell? ad = some (.int .u8 (x : Int))) (had : ad.add 0 = ad) (h63 : ks.length ≤ 100000) (hbase : base ≤ w.heap.size) :
    ∃ a c' w', (Builtin.append_ #[45, 45] ty #[v, .slice (some ad) 1 c]).run Try.prog w = .ok (.slice a (ks.length + 1) c') w' ∧ OwnY w' base (.slice a (ks.length + 1) c') (ks ++ [x]) ∧ Fr (fun i => v.ownBlock = some i) w w' := by
  obtain ⟨i0, hi, hz0, hz1, hz2⟩ := info_parts Try.info5
  obtain ⟨v', w', h1, h2, h3, _, h5⟩ := run_append_own_at (P := Try.prog) w base 45 ty 5 i0 (.int .u8 0) 1 1 Try.underlying45 hi hz0 hz1 hz2 rfl (by decide) v ks.length (cellsB ks) hown ad 1 c (cellsB [x]) rfl (fun j u hj => by
    match j with
    | 0 => rw [had]; cases hj; exact hc
    | j + 1 => simp [cellsB] at hj) (by intro u hu; simp only [cellsB, List.map_cons, List.map_nil, List.mem_singleton] at hu; rw [hu]; rfl) (by unfold maxLen; omega) (by omega) hbase
  obtain ⟨a, c', rfl⟩ := ownsRow_shape h2
  refine ⟨a, c', w', h1, ?_, Fr.of_grown h3⟩
  unfold OwnY
  rw [List.length_append]
  simpa [cellsB] using h2

theorem wpListIn_appY {F : Fence} {n : Nat} (w : World) {ops : Array Oper} {rest : List Oper} {o : Oper} {a : Act} {Q : Exit → Act → World → Prop} (hg : o.guard = none) (s x : Operand)
    (hop : o.op = Op.call { callee := Callee.builtin Builtin.append, args := #[s, x], argTypes := #[45, 45] }) (base : Nat) (v : Value) (ks : List Nat) (hs : a.eval s = v) (hown : OwnY w base v ks)
    (ad : Addr) (c : Nat) (y : Nat) (hx : a.eval x = .slice (some ad) 1 c) (hc : w.cell? ad = some (.int .u8 (y : Int))) (had : ad.add 0 = ad) (h63 : ks.length ≤ 100000) (hbase : base ≤ w.heap.size)
    (hK : ∀ a' c' w', OwnY w' base (.slice a' (ks.length + 1) c') (ks ++ [y]) → Fr (fun i => v.ownBlock = some i) w w' → wpListIn F n Try.prog ops Q rest (a.put o.dst (.slice a' (ks.length + 1) c')) w') :
    wpListIn F n Try.prog ops Q (o :: rest) a w := by
  refine wpListIn_plain hg fun K hK' => ?_
  obtain ⟨a', c', w', hrun, h2, h3⟩ := run_appY w o.type base v ks hown ad c y hc had h63 hbase
  unfold Oper.wpIn
  refine ⟨?_, ?_⟩
  · simp [Oper.about, hop, resolve, Target.leads, Sem.run_pure]
  · rw [Oper.semAt_plain F _ _ (by rw [hop]; intro c hc'; cases hc')]
    simp [execOp, hop, resolve, invoke, builtin, hs, hx, hrun, Result.andThen]
    exact hK' _ _ (hK a' c' w' h2 h3)

theorem wpListIn_appP {F : Fence} {n : Nat} (w : World) {ops : Array Oper} {rest : List Oper} {o : Oper} {a : Act} {Q : Exit → Act → World → Prop} (hg : o.guard = none) (s x : Operand)
    (hop : o.op = Op.call { callee := Callee.builtin Builtin.append, args := #[s, x], argTypes := #[42, 42] }) (base : Nat) (v : Value) (ls : List (List Nat)) (hs : a.eval s = v) (hown : OwnP w base v ls)
    (ad : Addr) (c : Nat) (y : List Nat) (hy4 : y.length = 4) (hx : a.eval x = .slice (some ad) 1 c) (hc : ∀ j u, (cellsU y)[j]? = some u → w.cell? (ad.add j) = some u) (h63 : ls.length ≤ 100000) (hbase : base ≤ w.heap.size)
    (hK : ∀ a' c' w', OwnP w' base (.slice a' (ls.length + 1) c') (ls ++ [y]) → Fr (fun i => v.ownBlock = some i) w w' → wpListIn F n Try.prog ops Q rest (a.put o.dst (.slice a' (ls.length + 1) c')) w') :
    wpListIn F n Try.prog ops Q (o :: rest) a w := by
  refine wpListIn_plain hg fun K hK' => ?_
  obtain ⟨a', c', w', hrun, h2, h3⟩ := run_appP w o.type base v ls hown ad c y hy4 hc h63 hbase
  unfold Oper.wpIn
  refine ⟨?_, ?_⟩
  · simp [Oper.about, hop, resolve, Target.leads, Sem.run_pure]
  · rw [Oper.semAt_plain F _ _ (by rw [hop]; intro c hc'; cases hc')]
    simp [execOp, hop, resolve, invoke, builtin, hs, hx, hrun, Result.andThen]
    exact hK' _ _ (hK a' c' w' h2 h3)

theorem Mp.block {w : World} {b n : Nat} {F : List Nat → Option Nat} (h : Mp w b n F) : ∀ cs T, w.heap[b]? ≠ some (.cells cs T (0, 0)) := fun cs T e => by
  obtain ⟨D, ⟨es, clock, hb, r⟩, h2⟩ := h.it
  rw [hb] at e
  cases e

theorem own_apartY {w : World} {b b' : Nat} {v u : Value} {ls : List (List Nat)} {ks : List Nat} (h : OwnP w b v ls) (h2 : OwnY w b' u ks) {k : Nat} (hk : v.ownBlock = some k) : ¬ u.ownBlock = some k := fun e => by
  obtain ⟨_, c1, h1⟩ := h.block hk
  obtain ⟨_, c2, h2⟩ := h2.block e
  rw [h1] at h2
  cases h2

/-- A place is appended, its box filled. -/
theorem idx_end {lo IB : Nat} {Wa W2 W3 : World} {v8 v9 : Value} {ks ks' : List Nat} (h8 : Wa.heap[IB]? = some (.cells #[v8] 45 (0, 0))) (o8 : OwnY Wa lo v8 ks) (f2 : Fr (fun _ => False) Wa W2) (f3 : Fr (fun i => v8.ownBlock = some i) W2 W3) (hO : OwnY W3 lo v9 ks') :
    W3.heap[IB]? = some (.cells #[v8] 45 (0, 0)) ∧ (W3.setCell ⟨IB, 0, none⟩ v9).heap[IB]? = some (.cells #[v9] 45 (0, 0)) ∧ OwnY (W3.setCell ⟨IB, 0, none⟩ v9) lo v9 ks' ∧ Fr (fun j => j = IB ∨ v8.ownBlock = some j) Wa (W3.setCell ⟨IB, 0, none⟩ v9) := by
  have h2 := cells_at h8 f2 (fun e => e)
  have h3 := cells_at h2 f3 (fun e => by
    obtain ⟨_, c, hc⟩ := (o8.keep f2 (fun _ _ h => h)).block e
    rw [h2] at hc
    cases hc)
  refine ⟨h3, heap_setCell_one _ h3, hO.keep (Fr.of_setCell W3 ⟨IB, 0, none⟩ v9) (fun k hk e => ?_), ((f2.mono fun _ _ h => h.elim).join (f3.mono fun _ _ h => Or.inr h)).join ((Fr.of_setCell W3 ⟨IB, 0, none⟩ v9).mono fun _ _ h => Or.inl h)⟩
  obtain ⟨_, c, hc⟩ := hO.block hk
  have e2 : k = IB := e
  rw [e2, h3] at hc
  cases hc

/-- A colour is appended, its box filled. -/
theorem col_end {lo C : Nat} {Wa W2 W3 : World} {v7 v9 : Value} {ls ls' : List (List Nat)} (h7 : Wa.heap[C]? = some (.cells #[v7] 42 (0, 0))) (o7 : OwnP Wa lo v7 ls) (f2 : Fr (fun _ => False) Wa W2) (f3 : Fr (fun i => v7.ownBlock = some i) W2 W3) (hO : OwnP W3 lo v9 ls') :
    W3.heap[C]? = some (.cells #[v7] 42 (0, 0)) ∧ (W3.setCell ⟨C, 0, none⟩ v9).heap[C]? = some (.cells #[v9] 42 (0, 0)) ∧ OwnP (W3.setCell ⟨C, 0, none⟩ v9) lo v9 ls' ∧ Fr (fun j => j = C ∨ v7.ownBlock = some j) Wa (W3.setCell ⟨C, 0, none⟩ v9) := by
  have h2 := cells_at h7 f2 (fun e => e)
  have h3 := cells_at h2 f3 (fun e => by
    obtain ⟨_, c, hc⟩ := (o7.keep f2 (fun _ _ h => h)).block e
    rw [h2] at hc
    cases hc)
  refine ⟨h3, heap_setCell_one _ h3, hO.keep (Fr.of_setCell W3 ⟨C, 0, none⟩ v9) (fun k hk e => ?_), ((f2.mono fun _ _ h => h.elim).join (f3.mono fun _ _ h => Or.inr h)).join ((Fr.of_setCell W3 ⟨C, 0, none⟩ v9).mono fun _ _ h => Or.inl h)⟩
  obtain ⟨_, c, hc⟩ := hO.block hk
  have e2 : k = C := e
  rw [e2, h3] at hc
  cases hc

theorem wrap_u8 (k : Nat) (h : k < 256) : IntKind.u8.wrap (k : Int) = (k : Int) := by
  simp [IntKind.wrap, IntKind.bits, IntKind.signed]
  omega

/-- Between two rounds: what the boxes, the map, the rows hold when the pixels U have come. -/
structure Inv (lo C M MB IB SB NB : Nat) (w0 : World) (U : List (List Nat)) (W : World) : Prop where
  col : ∃ v, W.heap[C]? = some (.cells #[v] 42 (0, 0)) ∧ OwnP W lo v (uniqL U)
  idx : ∃ v, W.heap[IB]? = some (.cells #[v] 45 (0, 0)) ∧ OwnY W lo v (placeL U)
  map : ∃ F, Mp W M (uniqL U).length F ∧ ∀ x, Good x → F x = if x ∈ uniqL U then some ((uniqL U).idxOf x) else none
  mb : W.heap[MB]? = some (.cells #[.map (some M)] 81 (0, 0))
  sb : ∃ cs, W.heap[SB]? = some (.cells cs 22 (0, 0))
  nb : ∃ cs, W.heap[NB]? = some (.cells cs 3 (0, 0))
  fr : Fr (fun _ => False) w0 W

theorem Inv.keep {lo C M MB IB SB NB : Nat} {w0 W W' : World} {U : List (List Nat)} {row : Option Nat} (h : Inv lo C M MB IB SB NB w0 U W) (hg : W.grownBy W' row) (hM : ∀ r, row = some r → r ≠ M ∧ w0.heap.size ≤ r ∧ ∃ o : Obj, W.heap[r]? = some o ∧ o.isCells = false) : Inv lo C M MB IB SB NB w0 U W' := by
  have f := Fr.of_grown hg
  have key : ∀ {k cs T}, W.heap[k]? = some (.cells cs T (0, 0)) → ¬ row = some k := fun hk e => by
    obtain ⟨_, _, o, ho, hc⟩ := hM _ e
    rw [hk] at ho
    cases ho
    cases hc
  refine ⟨?_, ?_, ?_, cells_at h.mb f (key h.mb), ?_, ?_, frJ h.fr f fun k hk => (hM k hk).2.1⟩
  · obtain ⟨v, h1, h2⟩ := h.col
    exact ⟨v, cells_at h1 f (key h1), h2.keep f fun k hk => by obtain ⟨_, cur, hc⟩ := h2.block hk; exact key hc⟩
  · obtain ⟨v, h1, h2⟩ := h.idx
    exact ⟨v, cells_at h1 f (key h1), h2.keep f fun k hk => by obtain ⟨_, cur, hc⟩ := h2.block hk; exact key hc⟩
  · obtain ⟨F, h1, h2⟩ := h.map
    exact ⟨F, h1.fr f (fun e => (hM _ e).1 rfl), h2⟩
  · obtain ⟨cs, h1⟩ := h.sb
    exact ⟨cs, cells_at h1 f (key h1)⟩
  · obtain ⟨cs, h1⟩ := h.nb
    exact ⟨cs, cells_at h1 f (key h1)⟩

theorem upd_new {F : List Nat → Option Nat} {u : List (List Nat)} {p : List Nat} (hF : ∀ x, Good x → F x = if x ∈ u then some (u.idxOf x) else none) (hp : ¬ p ∈ u) : ∀ x, Good x → upd F p u.length x = if x ∈ u ++ [p] then some ((u ++ [p]).idxOf x) else none := by
  intro x hx
  unfold upd
  by_cases h : x = p
  · subst h
    rw [if_pos rfl, if_pos (by simp), List.idxOf_append, if_neg hp]
    simp
  · rw [if_neg h, hF x hx]
    by_cases hm : x ∈ u
    · rw [if_pos hm, if_pos (by simp [hm]), List.idxOf_append, if_pos hm]
    · rw [if_neg hm, if_neg (by simp [hm, h])]

/-- A round's end. -/
theorem Inv.round {lo C M MB IB SB NB B : Nat} {w0 W W' : World} {U U' : List (List Nat)} {v7 v8 v7' v8' : Value} (h : Inv lo C M MB IB SB NB w0 U W) (hlo : w0.heap.size ≤ lo) (hC : w0.heap.size ≤ C ∧ C < B) (hI : w0.heap.size ≤ IB ∧ IB < B) (hM : w0.heap.size ≤ M ∧ M < B)
    (h7 : W.heap[C]? = some (.cells #[v7] 42 (0, 0))) (o7 : OwnP W lo v7 (uniqL U)) (h8 : W.heap[IB]? = some (.cells #[v8] 45 (0, 0))) (o8 : OwnY W lo v8 (placeL U)) (hmp : ∀ cs T, W.heap[M]? ≠ some (.cells cs T (0, 0)))
    (f : Fr (fun j => j = C ∨ j = IB ∨ j = M ∨ v7.ownBlock = some j ∨ v8.ownBlock = some j) W W')
    (n7 : W'.heap[C]? = some (.cells #[v7'] 42 (0, 0))) (p7 : OwnP W' lo v7' (uniqL U')) (n8 : W'.heap[IB]? = some (.cells #[v8'] 45 (0, 0))) (p8 : OwnY W' lo v8' (placeL U'))
    (hmap : ∃ F, Mp W' M (uniqL U').length F ∧ ∀ x, Good x → F x = if x ∈ uniqL U' then some ((uniqL U').idxOf x) else none) :
    KeepsFrom B W W' ∧ KeepC SB NB W W' ∧ Inv lo C M MB IB SB NB w0 U' W' := by
  have key : ∀ {k : Nat} {cs : Array Value} {T : TypeId}, W.heap[k]? = some (.cells cs T (0, 0)) → T ≠ 42 → T ≠ 45 → T ≠ 36 → T ≠ 5 → ¬ (k = C ∨ k = IB ∨ k = M ∨ v7.ownBlock = some k ∨ v8.ownBlock = some k) := by
    intro k cs T hk t1 t2 t3 t4 e
    rcases e with rfl | rfl | rfl | e | e
    · rw [h7] at hk; cases hk; exact t1 rfl
    · rw [h8] at hk; cases hk; exact t2 rfl
    · exact hmp _ _ hk
    · obtain ⟨_, c, hc⟩ := o7.block e
      rw [hc] at hk; cases hk; exact t3 rfl
    · obtain ⟨_, c, hc⟩ := o8.block e
      rw [hc] at hk; cases hk; exact t4 rfl
  obtain ⟨cs1, hs1⟩ := h.sb
  obtain ⟨cs2, hs2⟩ := h.nb
  have k1 := key hs1 (by decide) (by decide) (by decide) (by decide)
  have k2 := key hs2 (by decide) (by decide) (by decide) (by decide)
  refine ⟨⟨f.size, fun k o hB hk ho => ?_⟩, ⟨f.block _ (lt_of hs1) k1, f.block _ (lt_of hs2) k2⟩, ⟨⟨_, n7, p7⟩, ⟨_, n8, p8⟩, hmap, cells_at h.mb f (key h.mb (by decide) (by decide) (by decide) (by decide)), ⟨_, cells_at hs1 f k1⟩, ⟨_, cells_at hs2 f k2⟩, frJ h.fr f fun k hk => ?_⟩⟩
  · rw [f.block k (lt_of hk) ?_]
    · exact hk
    · rintro (rfl | rfl | rfl | e | e)
      · omega
      · omega
      · omega
      · obtain ⟨_, c, hc⟩ := o7.block e
        rw [hc] at hk; cases hk; cases ho
      · obtain ⟨_, c, hc⟩ := o8.block e
        rw [hc] at hk; cases hk; cases ho
  · rcases hk with rfl | rfl | rfl | e | e
    · exact hC.1
    · exact hI.1
    · exact hM.1
    · exact Nat.le_trans hlo (o7.block e).1
    · exact Nat.le_trans hlo (o8.block e).1

theorem results_ctt {fn : Func} {tmps : Array Value} {P : Program} {w : World} {t a b : Nat} {ty : TypeId} {ad : Addr} {v x y : Value} (hf : fn.results = #[.cell t ty, .tmp a, .tmp b]) (ht : tmps[t]? = some (.pointer (some ad))) (hl : (loadVar ty ad).run P w = .ok v w) (ha : tmps[a]? = some x) (hb : tmps[b]? = some y) :
    (results fn tmps).run P w = .ok (.tuple #[v, x, y]) w := by
  simp [results, hf, asAddr, ht, hl, ha, hb]

theorem Try.und44 : ∃ d, Try.prog.underlying 44 = some d ∧ d.isRow = true ∧ (Try.prog.info? 44).map (·.size) = some 2 := by
  obtain ⟨d, h1, h2⟩ := row_of (P := Try.prog) (ty := 44) (by kernel_rfl)
  exact ⟨d, h1, h2, by kernel_rfl⟩

theorem OwnY.low {w : World} {lo lo' : Nat} {v : Value} {ks : List Nat} (h : OwnY w lo v ks) (hl : lo' ≤ lo) : OwnY w lo' v ks := by
  refine ⟨h.1, ?_⟩
  rcases h.2 with ⟨e, h1⟩ | ⟨g, cap, cur, e, hb, hr⟩
  · exact Or.inl ⟨e, h1⟩
  · exact Or.inr ⟨g, cap, cur, e, Nat.le_trans hl hb, hr⟩

/-- No panic comes out. -/
def calm (Q : Exit → Act → World → Prop) : Exit → Act → World → Prop := fun e a w => match e with
  | .panic _ => False
  | e => Q e a w
theorem calm_imp {Q : Exit → Act → World → Prop} : ∀ e a w, calm Q e a w → Q e a w := fun e a w h => by
  cases e <;> first | exact h | exact absurd h (fun h => h)

/-- What Make answers where there is a palette. -/
def Made (px : List Nat) (m : Nat) (w : World) (e : Ending) (w' : World) : Prop :=
  Fr (fun _ => False) w w' ∧ ∃ v1 v2, e = .returned (.tuple #[.agg #[v1, .int .i64 (clearV (uniq px m))], v2, .bool true]) ∧ OwnP w' w.heap.size v1 (uniq px m) ∧ OwnY w' w.heap.size v2 (places px m)

set_option maxHeartbeats 1000000 in
set_option maxRecDepth 100000 in
theorem make_yes (W H : Int) (g o n c m : Nat) (px : List Nat) (w : World) (hl : Lies w (some ⟨g, o, none⟩) px) (hp : px.length = n) (hc : n ≤ c) (hmay : mayB W H n = true) (hm : (m : Int) = W * H) (hfit : fitsG px m = true) (hgl0 : g < w.heap.size) :
    Calls Try.prog 26 #[rasV W H (some ⟨g, o, none⟩) n c] w fun e w' => Made px m w e w' := by
  obtain ⟨m', hm', hnm, hmb, hm1⟩ := may_nums hmay
  obtain rfl : m = m' := Int.ofNat.inj (hm.trans hm'.symm)
  obtain ⟨w1, hw1⟩ : ∃ w1, w1 = (w.alloc (.cells #[.int .i64 W, .int .i64 H, .slice (some ⟨g, o, none⟩) n c] 24)).alloc (.cells #[.slice none 0 0, .int .i64 0] 44) := ⟨_, rfl⟩
  have hb1 : w1.heap[w.heap.size]? = some (.cells #[.int .i64 W, .int .i64 H, .slice (some ⟨g, o, none⟩) n c] 24 (0, 0)) := by rw [hw1]; exact (Below.heap_alloc _ _ _ (by simp)).trans (heap_alloc_at rfl)
  have hbP1 : w1.heap[w.heap.size + 1]? = some (.cells #[.slice none 0 0, .int .i64 0] 44 (0, 0)) := by rw [hw1]; exact heap_alloc_at (by simp)
  have HbP := hide hbP1
  clear hbP1
  have hF1 : Fr (fun _ => False) w w1 := by rw [hw1]; exact (Fr.of_alloc _ _).join (Fr.of_alloc _ _)
  have HFX := hide (fits_yes W H 2 (some ⟨g, o, none⟩) n c m px w1 (hl.keep0 hF1) hp hc hmay hm)
  rw [show fitsV 2 px m = true by unfold fitsV; rw [if_neg (by decide), if_pos rfl]; exact hfit] at HFX
  have HL := hide (hl.keep0 hF1)
  have Hb1 := hide hb1
  have HF1 := hide hF1
  have Hw1 := hide hw1
  have k0 := cell_of (o := 0) hb1 rfl
  have k1 := cell_of (o := 1) hb1 rfl
  have k2 := cell_of (o := 2) hb1 rfl
  have hm2 : W * H = (m : Int) := hm.symm
  have q1 : wrap64 (m : Int) = (m : Int) := wrap64_id _ (by omega) (by omega)
  have hmk := makeB m (by omega)
  have hmm := @run_makeMap Try.prog
  have Hnm := hide hnm
  have Hp := hide hp
  have Hc := hide hc
  have Hsm := hide hl.1
  have Hgl := hide hgl0
  clear hl hp hc hmay hm hm' hb1 hF1 hw1 hnm hgl0
  refine (callsIn_wide (n := 3)).1 ?_
  refine callsIn_of_wp_marks Try.func26 rfl trivial ?_ rfl
  simp only [Try.ntmps26, List.size_toArray, List.length_cons, List.length_nil, Nat.reduceAdd, Nat.reduceSub, Array.replicate_succ, Array.replicate_zero, List.push_toArray, List.append_toArray, List.nil_append, List.cons_append]
  refine wpIn_wide.2 ?_
  go_wp2_with fail
  rw [← Hw1.out]
  refine HFX.out.mono ?_
  rintro e w2 ⟨hF2, rfl⟩
  have hb2 := cells_at Hb1.out hF2 (fun e => e)
  have HF2 := hide hF2
  have HL2 := hide (HL.out.keep0 hF2)
  have Hb2 := hide hb2
  clear k0 k1 k2
  have k0 := cell_of (o := 0) hb2 rfl
  have k1 := cell_of (o := 1) hb2 rfl
  have k2 := cell_of (o := 2) hb2 rfl
  clear hF2 hb2 k0 k1 k2
  go_upto_region 5 with fail
  obtain ⟨C, hC⟩ : ∃ C, C = w2.heap.size := ⟨_, rfl⟩
  obtain ⟨M, hM⟩ : ∃ M, M = C + 1 := ⟨_, rfl⟩
  obtain ⟨MB, hMB⟩ : ∃ M, M = C + 2 := ⟨_, rfl⟩
  rw [← hC, ← hM, show M + 1 = MB by omega]
  obtain ⟨w3, hw3⟩ : ∃ w3, w3 = ((w2.alloc (.cells #[.slice none 0 0] 42)).alloc (.map #[] 0)).alloc (.cells #[.map (some M)] 81) := ⟨_, rfl⟩
  rw [← hw3]
  have hMp0 : Mp ((w2.alloc (.cells #[.slice none 0 0] 42)).alloc (.map #[] 0)) M 0 (fun _ => none) := by
    have h := Mp.made (w2.alloc (.cells #[.slice none 0 0] 42))
    rw [size_alloc, ← hC, ← hM] at h
    exact h
  have hMp3 : Mp w3 M 0 (fun _ => none) := by rw [hw3]; exact hMp0.fr (Fr.of_alloc _ _) (fun e => e)
  have hF3 : Fr (fun _ => False) w2 w3 := by rw [hw3]; exact ((Fr.of_alloc _ _).join (Fr.of_alloc _ _)).join (Fr.of_alloc _ _)
  have hbC3 : w3.heap[C]? = some (.cells #[.slice none 0 0] 42 (0, 0)) := by rw [hw3]; exact (Below.heap_alloc _ _ _ (by simp; omega)).trans ((Below.heap_alloc _ _ _ (by simp; omega)).trans (heap_alloc_at hC))
  have hbM3 : w3.heap[MB]? = some (.cells #[.map (some M)] 81 (0, 0)) := by rw [hw3]; exact heap_alloc_at (by simp; omega)
  have hs3 : w3.heap.size = C + 3 := by rw [hw3]; simp; omega
  have hbR3 := cells_at Hb2.out hF3 (fun e => e)
  have HF3 := hide (HF2.out.join hF3)
  have HL3 := hide (HL2.out.keep0 hF3)
  have k0 := cell_of (o := 0) hbR3 rfl
  have k1 := cell_of (o := 1) hbR3 rfl
  have HCw := hide hC
  clear hw3 hMp0 hF3 hC
  go_upto_region 6 with fail
  obtain ⟨IA, hIA⟩ : ∃ M, M = C + 3 := ⟨_, rfl⟩
  obtain ⟨IB, hIB⟩ : ∃ M, M = C + 4 := ⟨_, rfl⟩
  rw [show C + 3 + 1 = IB by omega, ← hIA]
  obtain ⟨w4, hw4⟩ : ∃ w4, w4 = (w3.alloc (.cells (cellsB (List.replicate m 0)).toArray 5)).alloc (.cells #[.slice (some ⟨IA, 0, none⟩) 0 m] 45) := ⟨_, rfl⟩
  rw [← hw4]
  have hF4 : Fr (fun _ => False) w3 w4 := by rw [hw4]; exact (Fr.of_alloc _ _).join (Fr.of_alloc _ _)
  have hbI4 : w4.heap[IB]? = some (.cells #[.slice (some ⟨IA, 0, none⟩) 0 m] 45 (0, 0)) := by rw [hw4]; exact heap_alloc_at (by simp; omega)
  have hbA4 : w4.heap[IA]? = some (.cells (cellsB (List.replicate m 0)).toArray 5 (0, 0)) := by rw [hw4]; exact (Below.heap_alloc _ _ _ (by simp; omega)).trans (heap_alloc_at (by omega))
  have hs4 : w4.heap.size = C + 5 := by rw [hw4]; simp; omega
  have hbR4 := cells_at hbR3 hF4 (fun e => e)
  have hMp4 := hMp3.fr hF4 (fun e => e)
  have hbC4 := cells_at hbC3 hF4 (fun e => e)
  have hbM4 := cells_at hbM3 hF4 (fun e => e)
  have HF4 := hide (HF3.out.join hF4)
  clear k0 k1 hw4 hbR3 hMp3 hbC3 hbM3 hF4 hs3
  have k2 := cell_of (o := 2) hbR4 rfl
  go_wp2_with fail
  refine (chunk_c (some ⟨g, o, none⟩) n c w4).mono ?_
  rintro e w5 ⟨rfl, hw5⟩
  obtain ⟨SB, hSB⟩ : ∃ M, M = w4.heap.size := ⟨_, rfl⟩
  obtain ⟨NB, hNB⟩ : ∃ M, M = w4.heap.size + 1 := ⟨_, rfl⟩
  rw [← hNB, ← hSB]
  have hF5 : Fr (fun _ => False) w4 w5 := by rw [hw5]; exact (Fr.of_alloc _ _).join (Fr.of_alloc _ _)
  have hbS5 : w5.heap[SB]? = some (.cells #[.slice (some ⟨g, o, none⟩) n c] 22 (0, 0)) := by rw [hw5]; exact (Below.heap_alloc _ _ _ (by simp; omega)).trans (heap_alloc_at hSB)
  have hbN5 : w5.heap[NB]? = some (.cells #[.int .i64 4] 3 (0, 0)) := by rw [hw5]; exact heap_alloc_at (by simp; omega)
  have hs5 : w5.heap.size = C + 7 := by rw [hw5]; simp; omega
  have hbR5 := cells_at hbR4 hF5 (fun e => e)
  have hMp5 := hMp4.fr hF5 (fun e => e)
  have hbC5 := cells_at hbC4 hF5 (fun e => e)
  have hbM5 := cells_at hbM4 hF5 (fun e => e)
  have hbI5 := cells_at hbI4 hF5 (fun e => e)
  have hbA5 := cells_at hbA4 hF5 (fun e => e)
  have HF5 := hide (HF4.out.join hF5)
  have hlo : w1.heap.size ≤ C := by rw [HCw.out]; exact HF2.out.size
  have HI5 : Hid (Inv w1.heap.size C M MB IB SB NB w1 [] w5) := ⟨⟨_, hbC5, ⟨rfl, Or.inl ⟨rfl, rfl⟩⟩, fun x hx => by cases hx⟩, ⟨_, hbI5, rfl, Or.inr ⟨IA, m, _, rfl, by omega, hbA5, Nat.zero_le _, by unfold maxLen; omega, by simp [cellsB], rfl⟩⟩, ⟨_, hMp5, fun x _ => rfl⟩, hbM5, ⟨_, hbS5⟩, ⟨_, hbN5⟩, HF5.out⟩
  have HM2 := hide hM
  have HMB2 := hide hMB
  have HIA2 := hide hIA
  have HIB2 := hide hIB
  have HSB2 := hide hSB
  have HNB2 := hide hNB
  have Hs4 := hide hs4
  have Hs5 := hide hs5
  have HbS := hide hbS5
  have HbN := hide hbN5
  have HbR5 := hide hbR5
  have Hlo := hide hlo
  clear k2 hw5 hbR4 hMp4 hbC4 hbM4 hbI4 hbA4 hF5 hMp5 hbC5 hbM5 hbI5 hbA5 hM hMB hIA hIB hSB hNB hs4 hs5 hbS5 hbN5 hbR5 hlo hmk hmm hm2 q1
  go_wp2_with fail
  obtain ⟨R, hR⟩ : ∃ R, R = w.heap.size := ⟨_, rfl⟩
  obtain ⟨R1, hR1⟩ : ∃ R1, R1 = R + 1 := ⟨_, rfl⟩
  rw [← hR, ← hR1]
  have HR := hide hR
  have HR1 := hide hR1
  clear hR hR1
  have HOwn : OwnFrom w5.heap.size (fun (pre : List (Fin m)) W' => Inv w1.heap.size C M MB IB SB NB w1 (pre.map fun x => pix px x.1) W') := fun pre A B row hs hg hr => hs.keep hg fun r e => by
    have h1 := (hr r e).1
    have h2 := Hs5.out
    have h3 := HM2.out
    have h4 := Hlo.out
    exact ⟨by omega, by omega, (hr r e).2⟩
  have HKb : ∀ (W' : World) (l' : Nat) (o1 o2 : Obj), w5.heap.size ≤ l' → W'.heap[l']? = some o1 → o1.isCells = false → o1.isWalk = false → KeepC SB NB W' (W'.putObj l' o2) := fun W' l' o1 o2 hl' h1 _ _ => by
    have h2 := lt_of h1
    have h3 := lt_of HbS.out
    have h4 := lt_of HbN.out
    exact ⟨(grownBy_putObj' W' l' o2).block SB (by omega) (fun e => by injection e with e; omega), (grownBy_putObj' W' l' o2).block NB (by omega) (fun e => by injection e with e; omega)⟩
  have HlC : Hid (w1.heap.size ≤ C ∧ C < w5.heap.size) := ⟨Hlo.out, by have := Hs5.out; omega⟩
  have HlI : Hid (w1.heap.size ≤ IB ∧ IB < w5.heap.size) := ⟨by have := Hlo.out; have := HIB2.out; omega, by have := Hs5.out; have := HIB2.out; omega⟩
  have HlM : Hid (w1.heap.size ≤ M ∧ M < w5.heap.size) := ⟨by have := Hlo.out; have := HM2.out; omega, by have := Hs5.out; have := HM2.out; omega⟩
  have HLw := HL
  refine (wpIn_wide (n := 3)).1 ?_
  refine wpIn_rangeFunc_ownG rfl (by decide) (gf := 57) (lb := #[.pointer (some ⟨SB, 0, none⟩), .pointer (some ⟨NB, 0, none⟩)]) rfl trivial (enters_of Try.func57 (by kernel_rfl) rfl)
    (chunk_stops 2 (by decide) SB NB g o n c m Hnm.out Hc.out hmb w5 (lt_of HbS.out) (lt_of HbN.out) (cell_of (o := 0) HbS.out rfl) (cell_of (o := 0) HbN.out rfl))
    (fun h k => h.trans k) HKb (Below.refl _ _) (fun _ => rfl)
    (fun (pre : List (Fin m)) W' => Inv w1.heap.size C M MB IB SB NB w1 (pre.map fun x => pix px x.1) W') (fun _ _ _ => False)
    HOwn (fun _ _ _ _ _ hs _ _ => hs) HI5.out
    (fun x => { tmps := #[rasV W H (some ⟨g, o, none⟩) n c, .pointer (some ⟨R, 0, none⟩), .pointer (some ⟨R1, 0, none⟩), .slice none 0 0, .bool false, .pointer (some ⟨C, 0, none⟩), .pointer (some ⟨MB, 0, none⟩), .pointer (some ⟨IB, 0, none⟩), .slice (some ⟨g, o + 4 * x.1, none⟩) 4 4, undef, undef, undef, .agg #[.int .i64 W, .int .i64 H, .slice (some ⟨g, o, none⟩) n c], .bool true, .bool false, undef, .map (some M), .pointer (some ⟨R, 0, none⟩), .int .i64 W, .pointer (some ⟨R, 1, none⟩), .int .i64 H, .int .i64 (m : Int), .slice (some ⟨IA, 0, none⟩) 0 m, .pointer (some ⟨R, 2, none⟩), .slice (some ⟨g, o, none⟩) n c, .func (.func 57) #[] #[.pointer (some ⟨SB, 0, none⟩), .pointer (some ⟨NB, 0, none⟩)], .slice (some ⟨g, o + 4 * x.1, none⟩) 4 4, undef, undef, undef, undef, undef, undef, undef, undef, undef, undef, undef, undef, undef, undef, undef, undef, undef, undef, undef, undef, undef, undef, undef, undef, undef, undef, undef, undef, undef, undef, undef], defers := [] }) ?assign ?body ?done ?stop
  case assign =>
    intro l x W K hK
    gi_wp2
    exact hK
  case body =>
    intro l pre x W' hI hlen
    obtain ⟨U, hU⟩ : ∃ U, U = pre.map fun x => pix px x.1 := ⟨_, rfl⟩
    rw [← hU] at hI
    have hgoal : ∀ W2, Inv w1.heap.size C M MB IB SB NB w1 (U ++ [pix px x.1]) W2 → Inv w1.heap.size C M MB IB SB NB w1 ((pre ++ [x]).map fun x => pix px x.1) W2 := fun W2 h => by rw [List.map_append, ← hU]; exact h
    have HG := hide hgoal
    have HTb0 : Hid ((placeL U).length ≤ 100000) := by show _ ≤ _; rw [show (placeL U).length = U.length by simp [placeL], hU, List.length_map]; omega
    have HUl : Hid ((uniqL (U ++ [pix px x.1])).length ≤ 256) := by
      have h1 : (uniq px m).length ≤ 256 := by
        have h := hfit
        unfold fitsG at h
        simp only [Bool.and_eq_true, decide_eq_true_eq] at h
        exact h.2.2
      refine Nat.le_trans (uniqL_len (px := px) (m := m) (fun y hy => ?_)) h1
      rcases List.mem_append.1 hy with hy | hy
      · rw [hU] at hy
        obtain ⟨z, _, rfl⟩ := List.mem_map.1 hy
        exact ⟨z.1, z.2, rfl⟩
      · rw [List.mem_singleton] at hy
        exact ⟨x.1, x.2, hy.symm⟩
    obtain ⟨J, hJ⟩ : ∃ J, J = 4 * x.1 := ⟨_, rfl⟩
    have hJn : J + 4 ≤ n := by have h1 := x.2; have h2 := Hnm.out; omega
    obtain ⟨p0, hp0⟩ : ∃ s, s = px.getD J 0 := ⟨_, rfl⟩
    obtain ⟨p1, hp1⟩ : ∃ s, s = px.getD (J + 1) 0 := ⟨_, rfl⟩
    obtain ⟨p2, hp2⟩ : ∃ s, s = px.getD (J + 2) 0 := ⟨_, rfl⟩
    obtain ⟨p3, hp3⟩ : ∃ s, s = px.getD (J + 3) 0 := ⟨_, rfl⟩
    have HPX : Hid (pix px x.1 = [p0, p1, p2, p3]) := by show _ = _; rw [hp0, hp1, hp2, hp3, hJ]; rfl
    have HGd : Hid (Good [p0, p1, p2, p3]) := ⟨rfl, by
      rw [hp0, hp1, hp2, hp3]
      intro x hx
      simp only [List.mem_cons, List.not_mem_nil, or_false] at hx
      rcases hx with rfl | rfl | rfl | rfl <;> exact getD_lt Hsm.out _⟩
    have hlw := HLw.out.keep0 hI.fr
    have c0 : W'.cell? ⟨g, o + J, none⟩ = some (.int .u16 (p0 : Int)) := by rw [hp0]; exact hlw.cell (by have := Hp.out; omega)
    have c1 : W'.cell? ⟨g, o + J + 1, none⟩ = some (.int .u16 (p1 : Int)) := by rw [hp1]; exact hlw.cell (j := J + 1) (by have := Hp.out; omega)
    have c2 : W'.cell? ⟨g, o + J + 2, none⟩ = some (.int .u16 (p2 : Int)) := by rw [hp2]; exact hlw.cell (j := J + 2) (by have := Hp.out; omega)
    have c3 : W'.cell? ⟨g, o + J + 3, none⟩ = some (.int .u16 (p3 : Int)) := by rw [hp3]; exact hlw.cell (j := J + 3) (by have := Hp.out; omega)
    have hA : ∀ W : World, (Instr.arrayAt 36 (.slice (some ⟨g, o + J, none⟩) 4 4)).run Try.prog W = .ok (.pointer (some ⟨g, o + J, none⟩)) W := fun W => run_arrayAt (P := Try.prog) (w := W) 36 29 4 (some ⟨g, o + J, none⟩) 4 4 (by kernel_rfl) (by decide)
    rw [← hJ]
    have HI := hide hI
    obtain ⟨vC, hC1, hC2⟩ := hI.col
    obtain ⟨vI, hI1, hI2⟩ := hI.idx
    obtain ⟨F, hF1, hF2⟩ := hI.map
    obtain ⟨a7, c7, rfl⟩ := ownsRow_shape hC2.own
    obtain ⟨a8, c8, rfl⟩ := ownsRow_shape hI2
    obtain ⟨L, hL⟩ : ∃ L, L = (uniqL U).length := ⟨_, rfl⟩
    obtain ⟨T, hT⟩ : ∃ T, T = (placeL U).length := ⟨_, rfl⟩
    rw [← hL] at hC1 hC2 hF1
    rw [← hT] at hI1 hI2
    obtain ⟨W1, hW1⟩ : ∃ W1, W1 = W'.alloc (.cells (pxV p0 p1 p2 p3) 36) := ⟨_, rfl⟩
    have f1 : Fr (fun _ => False) W' W1 := by rw [hW1]; exact Fr.of_alloc _ _
    obtain ⟨v, hlook, hv⟩ := (hF1.fr f1 (fun e => e)).look HGd.out
    have hlook2 : (Instr.lookup 81 (.map (some M)) (.agg (pxV p0 p1 p2 p3)) true).run Try.prog W1 = .ok (.tuple #[.int .u8 v, .bool (F [p0, p1, p2, p3]).isSome]) W1 := hlook
    have kM := cell_of (o := 0) (cells_at hI.mb f1 (fun e => e)) rfl
    have kC := cell_of (o := 0) (cells_at hC1 f1 (fun e => e)) rfl
    have kI := cell_of (o := 0) (cells_at hI1 f1 (fun e => e)) rfl
    rw [hW1] at kM kC kI
    have hs1 : W1.heap.size = W'.heap.size + 1 := by rw [hW1]; simp
    have HI := hide hI
    have HL2 := hide hL
    have HT2 := hide hT
    have HFm := hide hF2
    have HC2 := hide hC2
    have HI2 := hide hI2
    have HMp := hide hF1
    have Hf1 := hide f1
    have HC1 := hide hC1
    have HI1 := hide hI1
    have HW1 := hide hW1
    have Hs1 := hide hs1
    clear hp0 hp1 hp2 hp3 hlw hJ hgoal hU hI hlook hL hT hC1 hI1 hF1 hF2 hC2 hI2 f1 hs1
    by_cases hmem : [p0, p1, p2, p3] ∈ uniqL U
    · have hF : F [p0, p1, p2, p3] = some ((uniqL U).idxOf [p0, p1, p2, p3]) := by rw [HFm.out _ HGd.out, if_pos hmem]
      obtain ⟨k, hk⟩ : ∃ k, k = (uniqL U).idxOf [p0, p1, p2, p3] := ⟨_, rfl⟩
      rw [← hk] at hF
      have hvk := hv _ hF
      rw [hF, hvk, Option.isSome_some, hW1] at hlook2
      obtain ⟨W2, hW2⟩ : ∃ W2, W2 = W1.alloc (.cells #[.int .u8 (k : Int)] 5) := ⟨_, rfl⟩
      have f2 : Fr (fun _ => False) W1 W2 := by rw [hW2]; exact Fr.of_alloc _ _
      have HI22 := hide ((HI2.out.keep Hf1.out (fun _ _ h => h)).keep f2 (fun _ _ h => h))
      have Hf2 := hide f2
      have Hk := hide hk
      have HW2 := hide hW2
      clear hv hvk hF hk hW2 hW1 f2
      gi_wp2_with (gi_at_builtin
                   refine wpListIn_appY _ rfl (.tmp 48) (.tmp 50) rfl w1.heap.size _ (placeL U) rfl ?hown ⟨W'.heap.size + 1, 0, none⟩ 1 k rfl ?hcell rfl HTb0.out ?hbs ?_
                   case hown => exact (by have h := HI22.out; rw [HW2.out, HW1.out] at h; exact h)
                   case hcell => exact cell_of (o := 0) (heap_alloc_at (by simp)) rfl
                   case hbs => exact (by have h1 := HI.out.fr.size; simp; omega)
                   intro a9 c9 W3 hO3 f3
                   have f3' : Fr (fun i => (Value.slice a8 T c8).ownBlock = some i) W2 W3 := by rw [HW2.out, HW1.out]; exact f3
                   have hk3 : W3.heap[IB]? = some (.cells #[.slice a8 T c8] 45 (0, 0)) := cells_at (cells_at HI1.out (Hf1.out.join Hf2.out) (fun e => e)) f3' (fun e => by obtain ⟨_, cur, hc⟩ := HI22.out.block e; rw [cells_at HI1.out (Hf1.out.join Hf2.out) (fun e => e)] at hc; cases hc)
                   have kI3 := cell_of (o := 0) hk3 rfl
                   have fI3 := frozen_of (o := 0) hk3
                   have HO3 := hide hO3
                   have Hf3 := hide f3'
                   have Hk3 := hide hk3
                   clear hO3 f3 f3' hk3)
      obtain ⟨_, n8, p8, f8⟩ := idx_end HI1.out HI2.out (Hf1.out.join Hf2.out) Hf3.out HO3.out
      have hap := HC2.out
      have hcI := HI1.out
      have hcC := HC1.out
      have hu : uniqL (U ++ [[p0, p1, p2, p3]]) = uniqL U := by rw [uniqL_snoc, if_pos hmem]
      have hxC : ¬ (C = IB ∨ (Value.slice a8 T c8).ownBlock = some C) := by
        rintro (h | h)
        · rw [h, hcI] at hcC; cases hcC
        · obtain ⟨_, c, hc⟩ := HI2.out.block h
          rw [hcC] at hc; cases hc
      have hx7 : ∀ j, (Value.slice a7 L c7).ownBlock = some j → ¬ (j = IB ∨ (Value.slice a8 T c8).ownBlock = some j) := by
        rintro j hj (h | h)
        · obtain ⟨_, c, hc⟩ := HC2.out.block hj
          rw [h, hcI] at hc; cases hc
        · exact own_apartY HC2.out HI2.out hj h
      have hxM : ¬ (M = IB ∨ (Value.slice a8 T c8).ownBlock = some M) := by
        rintro (h | h)
        · rw [← h] at hcI; exact HMp.out.block _ _ hcI
        · obtain ⟨_, c, hc⟩ := HI2.out.block h
          exact HMp.out.block _ _ hc
      have hp7 := HC2.out.keep f8 hx7
      rw [← hu] at hp7
      have hm8 := HMp.out.fr f8 hxM
      rw [HL2.out, ← hu] at hm8
      have hF8 := HFm.out
      rw [← hu] at hF8
      have hp8 := p8
      rw [Hk.out] at hp8
      have hpl : placeL (U ++ [[p0, p1, p2, p3]]) = placeL U ++ [(uniqL U).idxOf [p0, p1, p2, p3]] := by rw [placeL_snoc, hu]
      rw [← hpl] at hp8
      have hr := Inv.round HI.out (Nat.le_refl _) HlC.out HlI.out HlM.out HC1.out HC2.out HI1.out HI2.out HMp.out.block (f8.mono fun j _ h => h.elim (fun h => Or.inr (Or.inl h)) (fun h => Or.inr (Or.inr (Or.inr (Or.inr h))))) (cells_at HC1.out f8 hxC) hp7 n8 hp8 ⟨F, hm8, hF8⟩
      exact ⟨hr.1, hr.2.1, HG.out _ (by rw [HPX.out]; exact hr.2.2)⟩
    · have hF : F [p0, p1, p2, p3] = none := by rw [HFm.out _ HGd.out, if_neg hmem]
      rw [hF, Option.isSome_none, hW1] at hlook2
      have hu : uniqL (U ++ [[p0, p1, p2, p3]]) = uniqL U ++ [[p0, p1, p2, p3]] := by rw [uniqL_snoc, if_neg hmem]
      have hL256 : L < 256 := by
        have h := HUl.out
        rw [HPX.out, hu, List.length_append, ← HL2.out] at h
        simp at h
        omega
      have hlu8 := wrap_u8 L hL256
      obtain ⟨W2, hmu, hMp2, f2⟩ := (HMp.out.fr Hf1.out (fun e => e)).store HGd.out (c := L) hL256 (by omega)
      have hmu2 : (Instr.mapUpdate 81 (.map (some M)) (.agg (pxV p0 p1 p2 p3)) (.int .u8 (L : Int))).run Try.prog W1 = .ok () W2 := hmu
      rw [hW1] at hmu2
      have hMl := HMp.out.lt
      have hP1 : W1.heap[W'.heap.size]? = some (.cells (pxV p0 p1 p2 p3) 36 (0, 0)) := by rw [hW1]; exact heap_alloc_at rfl
      have hP2 := cells_at hP1 f2 (fun e => by have e2 : W'.heap.size = M := e; omega)
      have hCM : ¬ C = M := fun e => HMp.out.block _ _ (by rw [← e]; exact HC1.out)
      have hIM : ¬ IB = M := fun e => HMp.out.block _ _ (by rw [← e]; exact HI1.out)
      have hBM : ¬ MB = M := fun e => HMp.out.block _ _ (by rw [← e]; exact HI.out.mb)
      have hC2' := cells_at (cells_at HC1.out Hf1.out (fun e => e)) f2 hCM
      have hI2' := cells_at (cells_at HI1.out Hf1.out (fun e => e)) f2 hIM
      have hO7 := (HC2.out.keep Hf1.out (fun _ _ h => h)).keep f2 (fun j hj e => by
        obtain ⟨_, c, hc⟩ := HC2.out.block hj
        have e2 : j = M := e
        rw [e2] at hc
        exact HMp.out.block _ _ hc)
      have hO8 := (HI2.out.keep Hf1.out (fun _ _ h => h)).keep f2 (fun j hj e => by
        obtain ⟨_, c, hc⟩ := HI2.out.block hj
        have e2 : j = M := e
        rw [e2] at hc
        exact HMp.out.block _ _ hc)
      have d0 := cell_of (o := 0) hP2 rfl
      have d1 := cell_of (o := 1) hP2 rfl
      have d2 := cell_of (o := 2) hP2 rfl
      have d3 := cell_of (o := 3) hP2 rfl
      have dC := cell_of (o := 0) hC2' rfl
      have HC2' := hide hC2'
      have HI2' := hide hI2'
      have HO7 := hide hO7
      have HO8 := hide hO8
      have Hf2 := hide f2
      have HMp2 := hide hMp2
      have Hu := hide hu
      have HL256 := hide hL256
      have Hs2 : Hid (w1.heap.size ≤ W2.heap.size) := by have h1 := HI.out.fr.size; have h2 := Hf1.out.size; have h3 := f2.size; show _ ≤ _; omega
      clear hv hF hW1 hu hL256 hmu hMl hP1 hP2 hCM hIM hBM hC2' hI2' hO7 hO8 f2 hMp2 kI
      gi_upto_region 14 with (gi_at_builtin
                              refine wpListIn_appP _ rfl (.tmp 44) (.tmp 46) rfl w1.heap.size _ (uniqL U) rfl (OwnP.keep HO7.out (Fr.of_alloc _ _) fun _ _ h => h) ⟨W2.heap.size, 0, none⟩ 1 [p0, p1, p2, p3] rfl rfl ?hcell ?hlen ?hbs ?_
                              case hcell => exact fun j u hj => by rw [add_none, Nat.zero_add]; exact cell_of (heap_alloc_at rfl) (by rw [← Array.getElem?_toList]; exact hj)
                              case hlen => exact (by have h1 := HL256.out; rw [← HL2.out]; omega)
                              case hbs => exact (by have h1 := Hs2.out; simp; omega)
                              intro a9 c9 W5 hO5 f5
                              obtain ⟨hk5, _⟩ := col_end HC2'.out HO7.out (Fr.of_alloc _ _) f5 hO5
                              have kC5 := cell_of (o := 0) hk5 rfl
                              have fC5 := frozen_of (o := 0) hk5
                              have HO5 := hide hO5
                              have Hf5 := hide f5
                              clear hO5 f5 hk5)
      obtain ⟨_, n7, p7, f7⟩ := col_end HC2'.out HO7.out (Fr.of_alloc _ _) Hf5.out HO5.out
      obtain ⟨W6, hW6⟩ : ∃ W6, W6 = W5.setCell ⟨C, 0, none⟩ (.slice a9 ((uniqL U).length + 1) c9) := ⟨_, rfl⟩
      rw [← hW6] at n7 p7 f7 ⊢
      have hI6 := cells_at HI2'.out f7 (by
        rintro (h | h)
        · have h1 := HI2'.out
          rw [h, HC2'.out] at h1; cases h1
        · obtain ⟨_, c, hc⟩ := HO7.out.block h
          rw [HI2'.out] at hc; cases hc)
      have hO86 := HO8.out.keep f7 (by
        rintro j hj (h | h)
        · obtain ⟨_, c, hc⟩ := HO8.out.block hj
          rw [h, HC2'.out] at hc; cases hc
        · exact own_apartY HO7.out HO8.out h hj)
      have hm6 := HMp2.out.fr f7 (by
        rintro (h | h)
        · exact HMp2.out.block _ _ (by rw [h]; exact HC2'.out)
        · obtain ⟨_, c, hc⟩ := HO7.out.block h
          exact HMp2.out.block _ _ hc)
      have dI := cell_of (o := 0) hI6 rfl
      have HI6 := hide hI6
      have HO86 := hide hO86
      have Hm6 := hide hm6
      have Hn7 := hide n7
      have Hp7 := hide p7
      have Hf7 := hide f7
      have Hs6 : Hid (w1.heap.size ≤ W6.heap.size) := Nat.le_trans Hs2.out f7.size
      clear hI6 hO86 hm6 n7 p7 f7 hW6 d0 d1 d2 d3 dC kC5 fC5 hmu2 hlook2
      gi_wp2_with (gi_at_builtin
                   refine wpListIn_appY _ rfl (.tmp 48) (.tmp 50) rfl w1.heap.size _ (placeL U) rfl (OwnY.keep HO86.out (Fr.of_alloc _ _) fun _ _ h => h) ⟨W6.heap.size, 0, none⟩ 1 L rfl (cell_of (o := 0) (heap_alloc_at rfl) rfl) rfl HTb0.out ?hbs ?_
                   case hbs => exact (by have h1 := Hs6.out; simp; omega)
                   intro a3 c3 W7 hO3 f3
                   obtain ⟨hk3, _⟩ := idx_end HI6.out HO86.out (Fr.of_alloc _ _) f3 hO3
                   have kI3 := cell_of (o := 0) hk3 rfl
                   have fI3 := frozen_of (o := 0) hk3
                   have HO3 := hide hO3
                   have Hf3 := hide f3
                   clear hO3 f3 hk3)
      obtain ⟨_, n8, p8, f8⟩ := idx_end HI6.out HO86.out (Fr.of_alloc _ _) Hf3.out HO3.out
      have n7 := cells_at Hn7.out f8 (by
        rintro (h | h)
        · have h1 := HI6.out
          rw [← h, Hn7.out] at h1; cases h1
        · obtain ⟨_, c, hc⟩ := HO86.out.block h
          rw [Hn7.out] at hc; cases hc)
      have p7 := Hp7.out.keep f8 (by
        rintro j hj (h | h)
        · obtain ⟨_, c, hc⟩ := Hp7.out.block hj
          rw [h, HI6.out] at hc; cases hc
        · exact own_apartY Hp7.out HO86.out hj h)
      have hm8 := Hm6.out.fr f8 (by
        rintro (h | h)
        · exact Hm6.out.block _ _ (by rw [h]; exact HI6.out)
        · obtain ⟨_, c, hc⟩ := HO86.out.block h
          exact Hm6.out.block _ _ hc)
      have hF8 := upd_new HFm.out hmem
      rw [← Hu.out] at p7 hF8
      rw [← HL2.out] at hF8
      have hlen8 : (uniqL (U ++ [[p0, p1, p2, p3]])).length = L + 1 := by rw [Hu.out, List.length_append, ← HL2.out]; rfl
      rw [← hlen8] at hm8
      have hpl : placeL (U ++ [[p0, p1, p2, p3]]) = placeL U ++ [L] := by
        rw [placeL_snoc, Hu.out, List.idxOf_append, if_neg hmem, HL2.out]
        simp
      rw [← hpl] at p8
      have hr := Inv.round HI.out (Nat.le_refl _) HlC.out HlI.out HlM.out HC1.out HC2.out HI1.out HI2.out HMp.out.block (((((Hf1.out.mono fun _ _ h => h.elim).join (Hf2.out.mono fun _ _ h => Or.inr (Or.inr (Or.inl h)))).join (Hf7.out.mono fun _ _ h => h.elim Or.inl (fun h => Or.inr (Or.inr (Or.inr (Or.inl h)))))).join (f8.mono fun _ _ h => h.elim (fun h => Or.inr (Or.inl h)) (fun h => Or.inr (Or.inr (Or.inr (Or.inr h))))))) n7 p7 n8 p8 ⟨_, hm8, hF8⟩
      exact ⟨hr.1, hr.2.1, HG.out _ (by rw [HPX.out]; exact hr.2.2)⟩
  case done =>
    rintro D xs W' hD rfl hI hK
    rw [show (List.finRange m).map (fun x => pix px x.1) = (List.range m).map (pix px) by
      apply List.ext_getElem
      · simp
      · intro i h1 h2; simp] at hI
    obtain ⟨vC, hC1, hC2⟩ := hI.col
    obtain ⟨vI, hI1, hI2⟩ := hI.idx
    rw [uniqL_pix] at hC2
    rw [placeL_pix] at hI2
    obtain ⟨a7, c7, rfl⟩ := ownsRow_shape hC2.own
    obtain ⟨a8, c8, rfl⟩ := ownsRow_shape hI2
    obtain ⟨L, hL⟩ : ∃ L, L = (uniq px m).length := ⟨_, rfl⟩
    obtain ⟨T, hT⟩ : ∃ T, T = (places px m).length := ⟨_, rfl⟩
    rw [← hL] at hC1 hC2
    rw [← hT] at hI1 hI2
    have hbP := cells_at HbP.out hI.fr (fun e => e)
    rw [← HR.out, ← HR1.out] at hbP
    have HIX := hide fun (w9 : World) (h : OwnP w9 w1.heap.size (.slice a7 L c7) (uniq px m)) => index_c w1.heap.size a7 L c7 (uniq px m) w9 h (fun y hy => by
      obtain ⟨j, _, rfl⟩ := (mem_uniq px y m).1 hy
      refine ⟨rfl, fun b hb => ?_⟩
      simp only [pix, List.mem_cons, List.not_mem_nil, or_false] at hb
      rcases hb with rfl | rfl | rfl | rfl <;> exact getD_lt Hsm.out _) (by have := uniq_le px m; omega)
    have kC := cell_of (o := 0) hC1 rfl
    have kI := cell_of (o := 0) hI1 rfl
    have HC1 := hide hC1
    have HI1 := hide hI1
    have HC2 := hide hC2
    have HI2 := hide hI2
    have HbP2 := hide hbP
    have HI := hide hI
    have HK := hide hK
    have HL2 := hide hL
    have HT2 := hide hT
    clear hC1 hI1 hC2 hI2 hbP hI hK hL hT kC kI
    have hCR : ¬ C = R1 := fun e => by
      have h1 := HC1.out
      rw [e, HbP2.out] at h1
      cases h1
    have hIR : ¬ IB = R1 := fun e => by
      have h1 := HI1.out
      rw [e, HbP2.out] at h1
      cases h1
    have hoC : ∀ j, (Value.slice a7 L c7).ownBlock = some j → ¬ j = R1 := fun j hj e => by
      obtain ⟨_, c, hc⟩ := HC2.out.block hj
      rw [e, HbP2.out] at hc
      cases hc
    have hoI : ∀ j, (Value.slice a8 T c8).ownBlock = some j → ¬ j = R1 := fun j hj e => by
      obtain ⟨_, c, hc⟩ := HI2.out.block hj
      rw [e, HbP2.out] at hc
      cases hc
    obtain ⟨Z, hZ⟩ : ∃ Z, Z = clearV (uniq px m) := ⟨_, rfl⟩
    rw [← hZ] at HIX
    have HZ := hide hZ
    clear hZ
    go_upto_region 15 with fail
    refine Code.wp_mono calm_imp ?_
    refine wp_region_held_drew (S := fun X => Fr (fun j => j = R1) W' X) (by kernel_rfl) (by exact (Fr.of_drewN W' 1).mono fun _ _ h => h.elim) (fun hHeld => ?_)
    refine wpAnyH_take (i := 0) (v := ?v0) rfl (by kernel_rfl) (by kernel_rfl) (by kernel_rfl) (fun _ _ _ h => h) (Or.inl ⟨by rfl, ?hy0⟩) hHeld ?rest0
    case hy0 => (intro W hSw; (try dsimp only at hSw); have x0 := cell_of (o := 0) (cells_at HC1.out hSw hCR) rfl; have x1 := cell_of (o := 0) (cells_at HI1.out hSw hIR) rfl; go_simp; all_goals (with_reducible rfl))
    change wpAnyH _ _ _ _ _ _ _ (Act.put _ (some 52) _) _
    simp only [Act.put, List.setIfInBounds_toArray, List.set_cons_zero, List.set_cons_succ]
    refine wpAnyH_take (i := 1) (v := ?v1) rfl (by kernel_rfl) (by kernel_rfl) (by kernel_rfl) (fun _ _ _ h => h) (Or.inl ⟨by rfl, ?hy1⟩) hHeld ?rest1
    case hy1 => (intro W hSw; (try dsimp only at hSw); have x0 := cell_of (o := 0) (cells_at HC1.out hSw hCR) rfl; have x1 := cell_of (o := 0) (cells_at HI1.out hSw hIR) rfl; go_simp; all_goals (with_reducible rfl))
    change wpAnyH _ _ _ _ _ _ _ (Act.put _ (some 53) _) _
    simp only [Act.put, List.setIfInBounds_toArray, List.set_cons_zero, List.set_cons_succ]
    refine wpAnyH_take (i := 2) (v := ?v2) rfl (by kernel_rfl) (by kernel_rfl) (by kernel_rfl) (fun _ _ _ h => h) (Or.inl ⟨by rfl, ?hy2⟩) hHeld ?rest2
    case hy2 => (intro W hSw; (try dsimp only at hSw); have x0 := cell_of (o := 0) (cells_at HC1.out hSw hCR) rfl; have x1 := cell_of (o := 0) (cells_at HI1.out hSw hIR) rfl; go_simp; all_goals (with_reducible rfl))
    change wpAnyH _ _ _ _ _ _ _ (Act.put _ (some 54) _) _
    simp only [Act.put, List.setIfInBounds_toArray, List.set_cons_zero, List.set_cons_succ]
    refine wpAnyH_take (i := 5) (v := ?v5) rfl (by kernel_rfl) (by kernel_rfl) (by kernel_rfl) (fun _ _ _ h => h) (Or.inl ⟨by rfl, ?hy5⟩) hHeld ?rest5
    case hy5 => (intro W hSw; (try dsimp only at hSw); have x0 := cell_of (o := 0) (cells_at HC1.out hSw hCR) rfl; have x1 := cell_of (o := 0) (cells_at HI1.out hSw hIR) rfl; go_simp; all_goals (with_reducible rfl))
    change wpAnyH _ _ _ _ _ _ _ (Act.put _ (some 57) _) _
    simp only [Act.put, List.setIfInBounds_toArray, List.set_cons_zero, List.set_cons_succ]
    refine wpAnyH_ready (rs := [3]) (by kernel_rfl) (by simp) ?_
    refine AllReadyH.cons rfl (fun K hK => ?_) AllReadyH.nil
    try simp only [List.getElem_toArray, List.getElem_cons_succ, List.getElem_cons_zero]
    go_simp
    have hR1 : W'.drew.heap[R1]? = some (.cells #[.slice none 0 0, .int .i64 0] 44 (0, 0)) := HbP2.out
    refine (HIX.out _ (HC2.out.keep hHeld hoC)).mono ?_
    rintro e v1 ⟨rfl, hV⟩
    have hR2 := cells_at hR1 hV (fun e => e)
    refine hK.out _ _ (hHeld.join (hV.mono fun _ _ h => h.elim)) (fun hHeld => ?_)
    clear hK K
    refine wpAnyH_take (i := 4) (v := ?v4) rfl (by kernel_rfl) (by kernel_rfl) (by kernel_rfl) (fun _ _ _ h => h) (Or.inl ⟨by rfl, ?hy4⟩) hHeld ?rest4
    case hy4 => (intro W hSw; (try dsimp only at hSw); have x0 := cell_of (o := 0) (cells_at HC1.out hSw hCR) rfl; have x1 := cell_of (o := 0) (cells_at HI1.out hSw hIR) rfl; go_simp; all_goals (with_reducible rfl))
    change wpAnyH _ _ _ _ _ _ _ (Act.put _ (some 56) _) _
    simp only [Act.put, List.setIfInBounds_toArray, List.set_cons_zero, List.set_cons_succ]
    refine wpAnyH_ready (rs := [6]) (by kernel_rfl) (by simp) ?_
    refine AllReadyH.cons rfl (fun K hK => ?_) AllReadyH.nil
    try simp only [List.getElem_toArray, List.getElem_cons_succ, List.getElem_cons_zero]
    have z0 := cell_of (o := 0) hR2 rfl
    have z1 := cell_of (o := 1) hR2 rfl
    have y0 := frozen_of (o := 0) hR2
    have y1 := frozen_of (o := 1) hR2
    go_simp
    obtain ⟨v2, hv2⟩ : ∃ X, X = (v1.setCell ⟨R1, 0, none⟩ (.slice a7 L c7)).setCell ⟨R1, 1, none⟩ (.int .i64 Z) := ⟨_, rfl⟩
    rw [← hv2]
    have hb9 : v2.heap[R1]? = some (.cells #[.slice a7 L c7, .int .i64 Z] 44 (0, 0)) := by rw [hv2]; exact heap_setCell_own (o := 1) _ (heap_setCell_own (o := 0) _ hR2)
    have f9 : Fr (fun j => j = R1) v1 v2 := by rw [hv2]; exact (Fr.of_setCell v1 ⟨R1, 0, none⟩ _).join (Fr.of_setCell _ ⟨R1, 1, none⟩ _)
    clear z0 z1 y0 y1 hv2
    refine hK.out _ _ (hHeld.join f9) (fun hHeld => ?_)
    clear hK K
    refine wpAnyH_take (i := 7) (v := ?v7) rfl (by kernel_rfl) (by kernel_rfl) (by kernel_rfl) (fun _ _ _ h => h) (Or.inl ⟨by rfl, ?hy7⟩) hHeld ?rest7
    case hy7 => (intro W hSw; (try dsimp only at hSw); have x0 := cell_of (o := 0) (cells_at HC1.out hSw hCR) rfl; have x1 := cell_of (o := 0) (cells_at HI1.out hSw hIR) rfl; go_simp; all_goals (with_reducible rfl))
    change wpAnyH _ _ _ _ _ _ _ (Act.put _ (some 3) _) _
    simp only [Act.put, List.setIfInBounds_toArray, List.set_cons_zero, List.set_cons_succ]
    refine wpAnyH_take (i := 8) (v := ?v8) rfl (by kernel_rfl) (by kernel_rfl) (by kernel_rfl) (fun _ _ _ h => h) (Or.inl ⟨by rfl, ?hy8⟩) hHeld ?rest8
    case hy8 => (intro W hSw; (try dsimp only at hSw); have x0 := cell_of (o := 0) (cells_at HC1.out hSw hCR) rfl; have x1 := cell_of (o := 0) (cells_at HI1.out hSw hIR) rfl; go_simp; all_goals (with_reducible rfl))
    change wpAnyH _ _ _ _ _ _ _ (Act.put _ (some 4) _) _
    simp only [Act.put, List.setIfInBounds_toArray, List.set_cons_zero, List.set_cons_succ]
    refine wpAnyH_done (by kernel_rfl) ?_ _
    clear hR1 hR2
    unfold calm
    go_wp2_with fail
    have hD0 : ¬ D = R1 := fun e => by
      have h1 := HK.out
      rw [e, HbP2.out] at h1
      cases h1
    have hK9 : v2.heap[D]? = some (.deferred (some [])) := (hHeld.block D (lt_of HK.out) hD0).trans HK.out
    refine ⟨by simp, .inl ⟨_, _, rfl, run_takeDeferred hK9, ?_⟩⟩
    have hg := Fr.of_grown (grownBy_putObj' v2 D (.deferred none))
    obtain ⟨w9, hw9⟩ : ∃ w9, w9 = v2.putObj D (.deferred none) := ⟨_, rfl⟩
    rw [← hw9] at hg ⊢
    have hcD : ∀ {j cs T}, v2.heap[j]? = some (.cells cs T (0, 0)) → ¬ some D = some j := fun h e => by
      injection e with e
      rw [← e, hK9] at h
      cases h
    have hb99 : w9.heap[R1]? = some (.cells [.slice a7 L c7, .int .i64 Z].toArray 44 (0, 0)) := cells_at hb9 hg (hcD hb9)
    obtain ⟨d, u1, u2, u3⟩ := Try.und44
    have hld := run_loadVar_mid (P := Try.prog) w9 R1 0 44 [.slice a7 L c7, .int .i64 Z] d (rangeAt_cells hb99) u1 u2 u3
    have hs1 : w.heap.size ≤ w1.heap.size := HF1.out.size
    have hR1w : w.heap.size ≤ R1 := by have h1 := HR.out; have h2 := HR1.out; omega
    have hDw : w.heap.size ≤ D := by have h1 := Hlo.out; have h2 := Hs5.out; omega
    have hq7 := HC2.out.keep hHeld hoC
    have hq8 := HI2.out.keep hHeld hoI
    have hp7 := (hq7.keep hg fun j hj => by obtain ⟨_, cur, hc⟩ := hq7.block hj; exact hcD hc).low hs1
    have hp8 := (hq8.keep hg fun j hj => by obtain ⟨_, cur, hc⟩ := hq8.block hj; exact hcD hc).low hs1
    have hfin : Fr (fun _ => False) w w9 := frJ (frJ (HF1.out.join HI.out.fr) hHeld fun j hj => by have e : j = R1 := hj; rw [e]; exact hR1w) hg fun j hj => by injection hj with e; rw [← e]; exact hDw
    exact ⟨_, results_ctt (t := 2) (a := 3) (b := 4) Try.results26 rfl hld rfl rfl, hfin, _, _, by rw [← HZ.out]; rfl, hp7, hp8⟩
  case stop =>
    rintro D c' pre W' _ _ h _
    exact h.elim
end Go.Proofs.Ythdilabmajaehaa
