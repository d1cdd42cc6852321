/-
  raster: rows of pixels and of places of one's own.
-/
import Derived.Test.YthdilabmajaehaaWb
import Derived.Test.YthdilabmajaehaaSg
import Derived.Maps.AppendAt
namespace Go.Proofs.Ythdilabmajaehaa
open Go.RowKit

theorem Fr.of_grown {w w' : World} {o : Option Nat} (h : w.grownBy w' o) : Fr (fun k => o = some k) w w' := ⟨h.os, h.tape, h.output, h.size, fun k hk hn => h.block k hk (fun e => hn e.symm)⟩

theorem Try.info36 : (Try.prog.info? 36).map (fun i => (i.zero, i.size, i.bytes)) = some (some (.agg #[.int .u16 0, .int .u16 0, .int .u16 0, .int .u16 0]), 4, 8) := by kernel_rfl
theorem Try.info3 : (Try.prog.info? 3).map (fun i => (i.zero, i.size, i.bytes)) = some (some (.int .i64 0), 1, 8) := by kernel_rfl

/-- Pixels of one's own. -/
structure OwnP (w : World) (base : Nat) (v : Value) (ls : List (List Nat)) : Prop where
  own : w.ownsRow base 36 4 v ls.length (cellsU ls.flatten)
  four : ∀ x ∈ ls, x.length = 4

/-- Places of one's own. -/
def cellsI (ks : List Nat) : List Value := ks.map fun k => .int .i64 ((k : Nat) : Int)
def OwnI (w : World) (base : Nat) (v : Value) (ks : List Nat) : Prop := w.ownsRow base 3 1 v ks.length (cellsI ks)

theorem OwnP.keep {w w' : World} {S : Nat → Prop} {base : Nat} {v : Value} {ls : List (List Nat)} (h : OwnP w base v ls) (f : Fr S w w') (hn : ∀ k, v.ownBlock = some k → ¬ S k) : OwnP w' base v ls :=
  ⟨ownsRow_fr h.own fun k hk => f.block k (by
    rcases h.own.2 with ⟨e, _⟩ | ⟨g, cap, cur, e, _, hg, _⟩
    · rw [e] at hk; cases hk
    · rw [e] at hk; cases hk; exact lt_of hg) (hn k hk), h.four⟩
theorem OwnI.keep {w w' : World} {S : Nat → Prop} {base : Nat} {v : Value} {ks : List Nat} (h : OwnI w base v ks) (f : Fr S w w') (hn : ∀ k, v.ownBlock = some k → ¬ S k) : OwnI w' base v ks :=
  ownsRow_fr h fun k hk => f.block k (by
    rcases h.2 with ⟨e, _⟩ | ⟨g, cap, cur, e, _, hg, _⟩
    · rw [e] at hk; cases hk
    · rw [e] at hk; cases hk; exact lt_of hg) (hn k hk)

/-- They lie apart, and from row base on. -/
theorem OwnP.block {w : World} {base : Nat} {v : Value} {ls : List (List Nat)} (h : OwnP w base v ls) {k : Nat} (hk : v.ownBlock = some k) : base ≤ k ∧ ∃ cur, w.heap[k]? = some (.cells cur 36 (0, 0)) := by
  rcases h.own.2 with ⟨e, _⟩ | ⟨g, cap, cur, e, hb, hg, _⟩
  · rw [e] at hk; cases hk
  · rw [e] at hk; cases hk; exact ⟨hb, cur, hg⟩
theorem OwnI.block {w : World} {base : Nat} {v : Value} {ks : List Nat} (h : OwnI w base v ks) {k : Nat} (hk : v.ownBlock = some k) : base ≤ k ∧ ∃ cur, w.heap[k]? = some (.cells cur 3 (0, 0)) := by
  rcases h.2 with ⟨e, _⟩ | ⟨g, cap, cur, e, hb, hg, _⟩
  · rw [e] at hk; cases hk
  · rw [e] at hk; cases hk; exact ⟨hb, cur, hg⟩
theorem own_apart {w : World} {b b' : Nat} {v u : Value} {ls : List (List Nat)} {ks : List Nat} (h : OwnP w b v ls) (h2 : OwnI w b' u ks) {k : Nat} (hk : v.ownBlock = some k) : ¬ u.ownBlock = some k := fun e => by
  obtain ⟨_, c1, h1⟩ := h.block hk
  obtain ⟨_, c2, h2⟩ := h2.block e
  rw [h1] at h2
  cases h2

theorem cellsU_app (a b : List Nat) : cellsU (a ++ b) = cellsU a ++ cellsU b := by simp [cellsU]

theorem run_appP (w : World) (ty : TypeId) (base : Nat) (v : Value) (ls : List (List Nat)) (hown : OwnP w base v ls) (ad : Addr) (c : Nat) (x : List Nat) (hx4 : x.length = 4) (hc : ∀ j u, (cellsU x)[j]? = some u → w.cell? (ad.add j) = some u) (h63 : ls.length ≤ 100000) (hbase : base ≤ w.heap.size) :
    ∃ a c' w', (Builtin.append_ #[42, 42] ty #[v, .slice (some ad) 1 c]).run Try.prog w = .ok (.slice a (ls.length + 1) c') w' ∧ OwnP w' base (.slice a (ls.length + 1) c') (ls ++ [x]) ∧ Fr (fun i => v.ownBlock = some i) w w' := by
  obtain ⟨i0, hi, hz0, hz1, hz2⟩ := info_parts Try.info36
  obtain ⟨v', w', h1, h2, h3, _, h5⟩ := run_append_own_at (P := Try.prog) w base 42 ty 36 i0 (.agg #[.int .u16 0, .int .u16 0, .int .u16 0, .int .u16 0]) 4 8 Try.underlying42 hi hz0 hz1 hz2 rfl (by decide) v ls.length (cellsU ls.flatten) hown.own ad 1 c (cellsU x) (by rw [cellsU_length, hx4]) hc (cellsU_one x) (by unfold maxLen; omega) (by omega) hbase
  obtain ⟨a, c', rfl⟩ := ownsRow_shape h2
  refine ⟨a, c', w', h1, ⟨?_, fun y hy => ?_⟩, Fr.of_grown h3⟩
  · rw [List.length_append, List.flatten_append, cellsU_app]
    simpa using h2
  · rcases List.mem_append.1 hy with hy | hy
    · exact hown.four y hy
    · rw [List.mem_singleton] at hy; rw [hy]; exact hx4

theorem wp_appP {w : World} {o : Oper} {a : Act} {K : Act → World → Prop} {Q : Exit → Act → World → Prop} (s x : Operand)
    (ho : o.op = .call { callee := .builtin .append, args := #[s, x], argTypes := #[42, 42] }) (base : Nat) (v : Value) (ls : List (List Nat)) (hs : a.eval s = v) (hown : OwnP w base v ls)
    (ad : Addr) (c : Nat) (y : List Nat) (hy4 : y.length = 4) (hx : a.eval x = .slice (some ad) 1 c) (hc : ∀ j u, (cellsU y)[j]? = some u → w.cell? (ad.add j) = some u) (h63 : ls.length ≤ 100000) (hbase : base ≤ w.heap.size)
    (h : ∀ a' c' w', OwnP w' base (.slice a' (ls.length + 1) c') (ls ++ [y]) → Fr (fun i => v.ownBlock = some i) w w' → K (a.put o.dst (.slice a' (ls.length + 1) c')) w') : o.wp Try.prog a w K Q := by
  obtain ⟨a', c', w', hr, h2, h3⟩ := run_appP w o.type base v ls hown ad c y hy4 hc h63 hbase
  unfold Oper.wp execOp
  simp only [ho, resolve, invoke, builtin, Sem.run_bind, Sem.run_pure, Result.andThen_ok, List.map_toArray, List.map_cons, List.map_nil, hs, hx, hr]
  exact h a' c' w' h2 h3

theorem run_appI (w : World) (ty : TypeId) (base : Nat) (v : Value) (ks : List Nat) (hown : OwnI w base v ks) (ad : Addr) (c : Nat) (x : Nat) (hc : w.cell? ad = some (.int .i64 (x : Int))) (had : ad.add 0 = ad) (h63 : ks.length ≤ 100000) (hbase : base ≤ w.heap.size) :
    ∃ a c' w', (Builtin.append_ #[67, 67] ty #[v, .slice (some ad) 1 c]).run Try.prog w = .ok (.slice a (ks.length + 1) c') w' ∧ OwnI w' base (.slice a (ks.length + 1) c') (ks ++ [x]) ∧ Fr (fun i => v.ownBlock = some i) w w' := by
  obtain ⟨i0, hi, hz0, hz1, hz2⟩ := info_parts Try.info3
  obtain ⟨v', w', h1, h2, h3, _, h5⟩ := run_append_own_at (P := Try.prog) w base 67 ty 3 i0 (.int .i64 0) 1 8 Try.underlying67 hi hz0 hz1 hz2 rfl (by decide) v ks.length (cellsI ks) hown ad 1 c (cellsI [x]) rfl (fun j u hj => by
    match j with
    | 0 => rw [had]; cases hj; exact hc
    | j + 1 => simp [cellsI] at hj) (by intro u hu; simp only [cellsI, List.map_cons, List.map_nil, List.mem_singleton] at hu; rw [hu]; rfl) (by unfold maxLen; omega) (by omega) hbase
  obtain ⟨a, c', rfl⟩ := ownsRow_shape h2
  refine ⟨a, c', w', h1, ?_, Fr.of_grown h3⟩
  unfold OwnI
  rw [List.length_append]
  simpa [cellsI] using h2

theorem wp_appI {w : World} {o : Oper} {a : Act} {K : Act → World → Prop} {Q : Exit → Act → World → Prop} (s x : Operand)
    (ho : o.op = .call { callee := .builtin .append, args := #[s, x], argTypes := #[67, 67] }) (base : Nat) (v : Value) (ks : List Nat) (hs : a.eval s = v) (hown : OwnI w base v ks)
    (ad : Addr) (c : Nat) (y : Nat) (hx : a.eval x = .slice (some ad) 1 c) (hc : w.cell? ad = some (.int .i64 (y : Int))) (had : ad.add 0 = ad) (h63 : ks.length ≤ 100000) (hbase : base ≤ w.heap.size)
    (h : ∀ a' c' w', OwnI w' base (.slice a' (ks.length + 1) c') (ks ++ [y]) → Fr (fun i => v.ownBlock = some i) w w' → K (a.put o.dst (.slice a' (ks.length + 1) c')) w') : o.wp Try.prog a w K Q := by
  obtain ⟨a', c', w', hr, h2, h3⟩ := run_appI w o.type base v ks hown ad c y hc had h63 hbase
  unfold Oper.wp execOp
  simp only [ho, resolve, invoke, builtin, Sem.run_bind, Sem.run_pure, Result.andThen_ok, List.map_toArray, List.map_cons, List.map_nil, hs, hx, hr]
  exact h a' c' w' h2 h3

/-- A pixel of the row. -/
theorem OwnP.cell {w : World} {base g n c : Nat} {ls : List (List Nat)} (h : OwnP w base (.slice (some ⟨g, 0, none⟩) n c) ls) {k r : Nat} (hk : k < ls.length) (hr : r < 4) : w.cell? ⟨g, 4 * k + r, none⟩ = some (.int .u16 (((ls.getD k []).getD r 0 : Nat) : Int)) := by
  have hlen := flat_length h.four
  have h1 := h.own.cells (g := g) rfl (4 * k + r) _ (cellsU_get (by omega))
  rw [add_none, Nat.zero_add] at h1
  rw [h1, flat_get h.four k r hr]

theorem OwnP.form {w : World} {base n c : Nat} {a : Option Addr} {ls : List (List Nat)} (h : OwnP w base (.slice a n c) ls) (h0 : 0 < ls.length) : n = ls.length ∧ ls.length ≤ c ∧ ∃ g, a = some ⟨g, 0, none⟩ := by
  rcases h.own.2 with ⟨e, h1⟩ | ⟨g, cap, cur, e, hb, hg, h2, _⟩
  · omega
  · cases e; exact ⟨rfl, h2, g, rfl⟩
theorem OwnP.len {w : World} {base n c : Nat} {a : Option Addr} {ls : List (List Nat)} (h : OwnP w base (.slice a n c) ls) : n = ls.length := by
  rcases h.own.2 with ⟨e, h1⟩ | ⟨g, cap, cur, e, hb, hg, h2, _⟩
  · cases e; omega
  · cases e; rfl
end Go.Proofs.Ythdilabmajaehaa
