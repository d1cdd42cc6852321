/-
  Memory: bytes of one's own, appended to; slices of slices.
-/
import Derived.Test.YtflapcaaaipoeaaK
import Derived.Laws.AppendOwnNone
namespace Go.Proofs.Ytflapcaaaipoeaa
open Go.RowKit

theorem Try.info5 : (Try.prog.info? 5).map (fun i => (i.zero, i.size, i.bytes)) = some (some (.int .u8 0), 1, 1) := by kernel_rfl

/-- The cells of bytes. -/
def cellsOf (bs : List Nat) : List Value := bs.map fun b => .int .u8 ((b : Nat) : Int)
theorem cellsOf_length (bs : List Nat) : (cellsOf bs).length = bs.length := by simp [cellsOf]
theorem cellsOf_append (a b : List Nat) : cellsOf a ++ cellsOf b = cellsOf (a ++ b) := by simp [cellsOf]
theorem cellsOf_one (bs : List Nat) : ∀ u ∈ cellsOf bs, u.oneCell' = true := by
  intro u hu
  simp only [cellsOf, List.mem_map] at hu
  obtain ⟨b, _, rfl⟩ := hu
  rfl
theorem cellsOf_get {bs : List Nat} {j : Nat} {u : Value} (h : (cellsOf bs)[j]? = some u) : j < bs.length ∧ u = .int .u8 ((bs.getD j 0 : Nat) : Int) := by
  simp only [cellsOf, List.getElem?_map, Option.map_eq_some_iff] at h
  obtain ⟨b, hb, rfl⟩ := h
  refine ⟨(List.getElem?_eq_some_iff.1 hb).1, ?_⟩
  rw [List.getD_eq_getElem?_getD, hb]; rfl

theorem append_any {w : World} {ops : Array Oper} {rest : List Oper} {o : Oper} {a : Act} {Q : Exit → Act → World → Prop} (hgd : o.guard = none) (s x : Operand)
    (ho : o.op = .call { callee := .builtin .append, args := #[s, x], argTypes := #[22, 22] }) (base : Nat) (v : Value) (n : Nat) (xs : List Value) (hs : a.eval s = v) (hown : w.ownsRow base 5 1 v n xs)
    (sa : Option Addr) (c : Nat) (bs : List Nat) (hx : a.eval x = .slice sa bs.length c) (hl : Lies w sa bs) (hnil : sa = none → c = 0 ∧ bs = []) (h63 : n + bs.length ≤ 2147483648) (hbase : base ≤ w.heap.size)
    (h : ∀ v' w', w'.ownsRow base 5 1 v' (n + bs.length) (xs ++ cellsOf bs) → Below base w w' → wpList Try.prog ops Q rest (a.put o.dst v') w') : wpList Try.prog ops Q (o :: rest) a w := by
  obtain ⟨i0, hi, hz0, hz1, hz2⟩ := info_parts Try.info5
  cases sa with
  | none =>
    obtain ⟨rfl, rfl⟩ := hnil rfl
    refine wpList_append_own_none hgd s x 22 ho base 5 i0 1 Try.underlying22 hi v n xs hs hown hx ?_
    refine h v w ?_ (Below.refl _ _)
    simpa [cellsOf] using hown
  | some ad =>
    refine wpList_append_own w hgd s x 22 ho base 5 i0 (.int .u8 0) 1 1 Try.underlying22 hi hz0 hz1 hz2 rfl (by decide) v n xs hs hown ad bs.length c (cellsOf bs) hx (by simp [cellsOf_length]) ?_ (cellsOf_one bs) (by unfold maxLen; omega) (by omega) hbase ?_
    · intro j u hu
      obtain ⟨hj, rfl⟩ := cellsOf_get hu
      obtain ⟨ad', e, hc⟩ := hl.2 j hj
      cases e
      exact hc
    · intro v' w' h1 h2 _
      exact h v' w' h1 (Below.grown (Below.refl _ _) h2 hbase (fun k hk => (hown.lt k hk).1))

theorem ownsRow_shape {w : World} {lo : Nat} {e : TypeId} {size : Nat} {v : Value} {n : Nat} {xs : List Value} (h : w.ownsRow lo e size v n xs) : ∃ a c, v = .slice a n c ∧ n ≤ c := by
  rcases h.2 with ⟨h, hn⟩ | ⟨g, cap, cur, hv, hg, hh, hr⟩
  · exact ⟨none, 0, by rw [h, hn], by omega⟩
  · exact ⟨_, _, hv, hr.1⟩

theorem own_lies {w : World} {lo : Nat} {a : Option Addr} {c : Nat} {bs : List Nat} {n : Nat} (h : w.ownsRow lo 5 1 (.slice a n c) n (cellsOf bs)) (hn : n = bs.length) (hb : ∀ b ∈ bs, b < 256) : Lies w a bs := by
  refine ⟨hb, fun j hj => ?_⟩
  rcases h.2 with ⟨hv, e0⟩ | ⟨g, cap, cur, hv, hg, hh, hr⟩
  · omega
  · cases hv
    refine ⟨⟨g, 0, none⟩, rfl, ?_⟩
    refine h.cells (g := g) rfl j _ ?_
    simp [cellsOf, List.getElem?_eq_getElem hj]

theorem Lies.take {w : World} {a : Option Addr} {bs : List Nat} (h : Lies w a bs) (k : Nat) : Lies w a (bs.take k) := by
  refine ⟨fun b hb => h.1 b (List.mem_of_mem_take hb), fun j hj => ?_⟩
  simp only [List.length_take] at hj
  obtain ⟨ad, e, hc⟩ := h.2 j (by omega)
  refine ⟨ad, e, ?_⟩
  rw [hc]
  simp only [List.getD_eq_getElem?_getD, List.getElem?_take, if_pos (show j < k by omega)]
theorem add_add (ad : Addr) (i j : Nat) : (ad.add i).add j = ad.add (i + j) := by
  unfold Addr.add
  by_cases hi : i = 0
  · subst hi; simp
  · by_cases hj : j = 0
    · subst hj; simp
    · simp [hi, hj, Nat.add_assoc]
theorem Lies.drop {w : World} {a : Option Addr} {bs : List Nat} (h : Lies w a bs) (k c : Nat) (hk : k ≤ bs.length) (hc : bs.length ≤ c) : Lies w (if c = k then a else a.map (·.add k)) (bs.drop k) := by
  refine ⟨fun b hb => h.1 b (List.mem_of_mem_drop hb), fun j hj => ?_⟩
  simp only [List.length_drop] at hj
  obtain ⟨ad, e, hc'⟩ := h.2 (k + j) (by omega)
  refine ⟨ad.add k, ?_, ?_⟩
  · rw [if_neg (by omega), e]; rfl
  · rw [add_add, hc']
    simp only [List.getD_eq_getElem?_getD, List.getElem?_drop]

/-- A contract whose arguments are looked at behind it: a trial that does not fit falls at once. -/
theorem calls_args {f : FuncId} {args args' : Array Value} {w : World} {Q : Ending → World → Prop} (h : Calls Try.prog f args w Q) (e : args' = args) : Calls Try.prog f args' w Q := e ▸ h
end Go.Proofs.Ytflapcaaaipoeaa
