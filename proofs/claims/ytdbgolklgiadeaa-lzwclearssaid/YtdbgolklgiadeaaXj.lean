/-
  lzw: rows of pairs; a row is made.
-/
import Derived.Test.YtdbgolklgiadeaaXi
namespace Go.Proofs.Ytdbgolklgiadeaa
open Go.RowKit

theorem Try.info69 : (Try.prog.info? 69).map (fun i => (i.zero, i.size, i.bytes)) = some (some (.agg #[.int .i64 0, .int .i64 0]), 2, 16) := by kernel_rfl

/-- The cells of pairs. -/
def cellsR : List (Nat × Nat) → List Value
  | [] => []
  | x :: r => .int .i64 ((x.1 : Nat) : Int) :: .int .i64 ((x.2 : Nat) : Int) :: cellsR r
theorem cellsR_length (l : List (Nat × Nat)) : (cellsR l).length = l.length * 2 := by
  induction l with
  | nil => rfl
  | cons x r ih => simp only [cellsR, List.length_cons, ih]; omega
theorem cellsR_app (l m : List (Nat × Nat)) : cellsR (l ++ m) = cellsR l ++ cellsR m := by
  induction l with
  | nil => rfl
  | cons x r ih => simp only [List.cons_append, cellsR, ih]
theorem cellsR_one (l : List (Nat × Nat)) : ∀ u ∈ cellsR l, u.oneCell' = true := by
  induction l with
  | nil => intro u hu; cases hu
  | cons x r ih =>
    intro u hu
    simp only [cellsR, List.mem_cons] at hu
    rcases hu with rfl | rfl | hu
    · rfl
    · rfl
    · exact ih u hu
theorem cellsR_at (l : List (Nat × Nat)) (i : Nat) (x : Nat × Nat) (h : l[i]? = some x) : (cellsR l)[i * 2]? = some (.int .i64 ((x.1 : Nat) : Int)) ∧ (cellsR l)[i * 2 + 1]? = some (.int .i64 ((x.2 : Nat) : Int)) := by
  induction l generalizing i with
  | nil => simp at h
  | cons y r ih =>
    cases i with
    | zero =>
      simp at h
      subst h
      exact ⟨rfl, rfl⟩
    | succ i =>
      have := ih i (by simpa using h)
      rw [show (i + 1) * 2 = i * 2 + 2 by omega]
      simpa [cellsR] using this

/-- Pairs of one's own. -/
def OwnR (w : World) (base : Nat) (v : Value) (rs : List (Nat × Nat)) : Prop := w.ownsRow base 69 2 v rs.length (cellsR rs)

theorem run_appR (w : World) (ty : TypeId) (base : Nat) (v : Value) (rs : List (Nat × Nat)) (hown : OwnR w base v rs) (ad : Addr) (c : Nat) (x : Nat × Nat) (hc : ∀ j u, (cellsR [x])[j]? = some u → w.cell? (ad.add j) = some u) (h63 : rs.length ≤ 100000) (hbase : base ≤ w.heap.size) :
    ∃ a c' w', (Builtin.append_ #[67, 67] ty #[v, .slice (some ad) 1 c]).run Try.prog w = .ok (.slice a (rs.length + 1) c') w' ∧ OwnR w' base (.slice a (rs.length + 1) c') (rs ++ [x]) ∧ Fr (fun i => v.ownBlock = some i) w w' ∧ ((Value.slice a (rs.length + 1) c').ownBlock = v.ownBlock ∨ (Value.slice a (rs.length + 1) c').ownBlock = some w.heap.size) := by
  obtain ⟨i0, hi, hz0, hz1, hz2⟩ := info_parts Try.info69
  obtain ⟨v', w', h1, h2, h3, _, h5⟩ := run_append_own_at (P := Try.prog) w base 67 ty 69 i0 (.agg #[.int .i64 0, .int .i64 0]) 2 16 Try.underlying67 hi hz0 hz1 hz2 rfl (by decide) v rs.length (cellsR rs) hown ad 1 c (cellsR [x]) rfl hc (cellsR_one [x]) (by unfold maxLen; omega) (by omega) hbase
  obtain ⟨a, c', rfl⟩ := ownsRow_shape h2
  refine ⟨a, c', w', h1, ?_, Fr.of_grown h3, h5⟩
  unfold OwnR
  rw [List.length_append, cellsR_app]
  exact h2

theorem wp_appR {w : World} {o : Oper} {a : Act} {K : Act → World → Prop} {Q : Exit → Act → World → Prop} (s x : Operand)
    (ho : o.op = .call { callee := .builtin .append, args := #[s, x], argTypes := #[67, 67] }) (base : Nat) (v : Value) (rs : List (Nat × Nat)) (hs : a.eval s = v) (hown : OwnR w base v rs)
    (ad : Addr) (c : Nat) (y : Nat × Nat) (hx : a.eval x = .slice (some ad) 1 c) (hc : ∀ j u, (cellsR [y])[j]? = some u → w.cell? (ad.add j) = some u) (h63 : rs.length ≤ 100000) (hbase : base ≤ w.heap.size)
    (h : ∀ a' c' w', OwnR w' base (.slice a' (rs.length + 1) c') (rs ++ [y]) → Fr (fun i => v.ownBlock = some i) w w' → ((Value.slice a' (rs.length + 1) c').ownBlock = v.ownBlock ∨ (Value.slice a' (rs.length + 1) c').ownBlock = some w.heap.size) → K (a.put o.dst (.slice a' (rs.length + 1) c')) w') : o.wp Try.prog a w K Q := by
  obtain ⟨a', c', w', hr, h2, h3, h4⟩ := run_appR w o.type base v rs hown ad c y hc h63 hbase
  unfold Oper.wp execOp
  simp only [ho, resolve, invoke, builtin, Sem.run_bind, Sem.run_pure, Result.andThen_ok, List.map_toArray, List.map_cons, List.map_nil, hs, hx, hr]
  exact h a' c' w' h2 h3 h4

end Go.Proofs.Ytdbgolklgiadeaa
