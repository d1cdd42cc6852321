/-
  adam: passes that lie in memory, passes of one's own.
-/
import Derived.Test.YtdnhndiaiejkoaaDoorRa
import Derived.Maps.AppendAt
import Derived.DeepKeys
namespace Go.Proofs.YtdnhndiaiejkoaaDoor
open Go.RowKit
set_option linter.unusedVariables false

theorem Fr.drew1 (S : Nat → Prop) (w : World) : Fr S w w.drew := (Fr.of_drewN w 1).mono fun _ _ h => h.elim
theorem Fr.cell0 {w w' : World} {a : Addr} {v : Value} (f : Fr (fun _ => False) w w') (h : w.cell? a = some v) : w'.cell? a = some v := (cell_blk (f.block _ (cell_lt h) (fun e => e))).trans h
theorem cell_fr {S : Nat → Prop} {w w' : World} (f : Fr S w w') {a : Addr} {v : Value} (h : w.cell? a = some v) (hS : ¬ S a.block) : w'.cell? a = some v := by
  have hb := World.block_lt_of_cell? w a h
  simp only [World.cell?] at h ⊢
  rw [f.block a.block hb hS]; exact h
theorem add_none (b o i : Nat) : (⟨b, o, none⟩ : Addr).add i = ⟨b, o + i, none⟩ := by
  unfold Addr.add
  split
  · next h => subst h; rfl
  · rfl
theorem Fr.of_grown {w w' : World} {o : Option Nat} (h : w.grownBy w' o) : Fr (fun k => o = some k) w w' := ⟨h.os, h.tape, h.output, h.size, fun k hk hn => h.block k hk (fun e => hn e.symm)⟩

theorem Tryd.info32 : (Tryd.prog.info? 32).map (fun i => (i.zero, i.size, i.bytes)) = some (some (.agg #[.int .i64 0, .int .i64 0, .int .i64 0, .int .i64 0, .int .i64 0, .int .i64 0]), 6, 48) := by kernel_rfl
theorem Tryd.info40 : (Tryd.prog.info? 40).map (fun i => (i.zero, i.size, i.bytes)) = some (some (.agg #[.int .i64 0, .int .i64 0, .int .i64 0, .int .i64 0, .int .i64 0, .int .i64 0]), 6, 48) := by kernel_rfl

/-- A pass. -/
structure Pz where
  x : Int
  y : Int
  dx : Int
  dy : Int
  w : Int
  h : Int
instance : Inhabited Pz := ⟨⟨0, 0, 0, 0, 0, 0⟩⟩
def Pz.arr (q : Pz) : Array Value := #[.int .i64 q.x, .int .i64 q.y, .int .i64 q.dx, .int .i64 q.dy, .int .i64 q.w, .int .i64 q.h]
def Pz.cells (q : Pz) : List Value := [.int .i64 q.x, .int .i64 q.y, .int .i64 q.dx, .int .i64 q.dy, .int .i64 q.w, .int .i64 q.h]
def cellsP (l : List Pz) : List Value := l.flatMap Pz.cells
theorem cellsP_length (l : List Pz) : (cellsP l).length = l.length * 6 := by
  induction l with
  | nil => rfl
  | cons q l ih =>
    show (q.cells ++ cellsP l).length = _
    rw [List.length_append, ih]
    simp [Pz.cells]
    omega
theorem cellsP_app (a b : List Pz) : cellsP (a ++ b) = cellsP a ++ cellsP b := by simp [cellsP]
theorem cellsP_one (l : List Pz) : ∀ u ∈ cellsP l, u.oneCell' = true := by
  intro u hu
  simp only [cellsP, List.mem_flatMap, Pz.cells] at hu
  obtain ⟨q, _, hq⟩ := hu
  simp only [List.mem_cons, List.not_mem_nil, or_false] at hq
  rcases hq with rfl | rfl | rfl | rfl | rfl | rfl <;> rfl
theorem cellsP_get (l : List Pz) : ∀ k, k < l.length → ∀ r, r < 6 → (cellsP l)[k * 6 + r]? = (l.getD k default).cells[r]? := by
  induction l with
  | nil => intro k hk; cases hk
  | cons q l ih =>
    intro k hk r hr
    show (q.cells ++ cellsP l)[k * 6 + r]? = _
    have h6 : q.cells.length = 6 := rfl
    cases k with
    | zero =>
      rw [List.getElem?_append_left (by omega)]
      simp
    | succ k =>
      rw [List.getElem?_append_right (by omega), h6, show (k + 1) * 6 + r - 6 = k * 6 + r by omega, ih k (by simpa using hk) r hr]
      simp

/-- The six cells of a pass. -/
structure At6 (w : World) (g o : Nat) (q : Pz) : Prop where
  c0 : w.cell? ⟨g, o, none⟩ = some (.int .i64 q.x)
  c1 : w.cell? ⟨g, o + 1, none⟩ = some (.int .i64 q.y)
  c2 : w.cell? ⟨g, o + 2, none⟩ = some (.int .i64 q.dx)
  c3 : w.cell? ⟨g, o + 3, none⟩ = some (.int .i64 q.dy)
  c4 : w.cell? ⟨g, o + 4, none⟩ = some (.int .i64 q.w)
  c5 : w.cell? ⟨g, o + 5, none⟩ = some (.int .i64 q.h)
theorem At6.fr {w w' : World} {S : Nat → Prop} {g o : Nat} {q : Pz} (h : At6 w g o q) (f : Fr S w w') (hS : ¬ S g) : At6 w' g o q :=
  ⟨cell_fr f h.c0 hS, cell_fr f h.c1 hS, cell_fr f h.c2 hS, cell_fr f h.c3 hS, cell_fr f h.c4 hS, cell_fr f h.c5 hS⟩
theorem At6.fr0 {w w' : World} {g o : Nat} {q : Pz} (h : At6 w g o q) (f : Fr (fun _ => False) w w') : At6 w' g o q := h.fr f fun e => e
theorem At6.of {w : World} {g : Nat} {q : Pz} {T : TypeId} (h : w.heap[g]? = some (.cells q.arr T (0, 0))) : At6 w g 0 q :=
  ⟨cell_of h rfl, cell_of h rfl, cell_of h rfl, cell_of h rfl, cell_of h rfl, cell_of h rfl⟩
/-- Passes that lie in memory. -/
def LiesP (w : World) (a : Option Addr) (l : List Pz) : Prop := ∀ k, k < l.length → ∃ g o, a = some ⟨g, o, none⟩ ∧ At6 w g (o + k * 6) (l.getD k default)
theorem LiesP.fr0 {w w' : World} {a : Option Addr} {l : List Pz} (h : LiesP w a l) (f : Fr (fun _ => False) w w') : LiesP w' a l := fun k hk => by
  obtain ⟨g, o, e, h1⟩ := h k hk
  exact ⟨g, o, e, h1.fr0 f⟩

/-- Passes of one's own. -/
def OwnP (T : TypeId) (w : World) (base : Nat) (v : Value) (l : List Pz) : Prop := w.ownsRow base T 6 v l.length (cellsP l)
theorem OwnP.nil (T : TypeId) (w : World) (base : Nat) : OwnP T w base (.slice none 0 0) [] := ⟨rfl, .inl ⟨rfl, rfl⟩⟩
theorem OwnP.keep {T : TypeId} {w w' : World} {S : Nat → Prop} {base : Nat} {v : Value} {l : List Pz} (h : OwnP T w base v l) (f : Fr S w w') (hn : ∀ k, v.ownBlock = some k → ¬ S k) : OwnP T w' base v l :=
  ownsRow_fr h fun k hk => f.block k (by
    rcases h.2 with ⟨e, _⟩ | ⟨g, cap, cur, e, _, hg, _⟩
    · rw [e] at hk; cases hk
    · rw [e] at hk; cases hk; exact lt_of hg) (hn k hk)
theorem OwnP.keep0 {T : TypeId} {w w' : World} {base : Nat} {v : Value} {l : List Pz} (h : OwnP T w base v l) (f : Fr (fun _ => False) w w') : OwnP T w' base v l := h.keep f fun _ _ e => e
theorem OwnP.block {T : TypeId} {w : World} {base : Nat} {v : Value} {l : List Pz} (h : OwnP T w base v l) {k : Nat} (hk : v.ownBlock = some k) : base ≤ k ∧ ∃ cur, w.heap[k]? = some (.cells cur T (0, 0)) := by
  rcases h.2 with ⟨e, _⟩ | ⟨g, cap, cur, e, hb, hg, _⟩
  · rw [e] at hk; cases hk
  · rw [e] at hk; cases hk; exact ⟨hb, cur, hg⟩
theorem OwnP.low {T : TypeId} {w : World} {lo lo' : Nat} {v : Value} {l : List Pz} (h : OwnP T w lo v l) (hl : lo' ≤ lo) : OwnP T w lo' v l := by
  refine ⟨h.1, ?_⟩
  rcases h.2 with ⟨e, h1⟩ | ⟨g, cap, cur, e, hb, hr⟩
  · exact Or.inl ⟨e, h1⟩
  · exact Or.inr ⟨g, cap, cur, e, Nat.le_trans hl hb, hr⟩
theorem OwnP.form {T : TypeId} {w : World} {base : Nat} {v : Value} {l : List Pz} (h : OwnP T w base v l) : ∃ a c, v = .slice a l.length c ∧ l.length ≤ c ∧ c ≤ maxLen ∧ LiesP w a l := by
  rcases h.2 with ⟨rfl, hn⟩ | ⟨g, cap, cur, rfl, hb, hg, h2, h3, h4, h5⟩
  · refine ⟨none, 0, by rw [hn], by omega, Nat.zero_le _, fun k hk => by omega⟩
  · refine ⟨_, cap, rfl, h2, h3, fun k hk => ⟨g, 0, rfl, ?_⟩⟩
    have hc : ∀ r, r < 6 → ∀ u, (l.getD k default).cells[r]? = some u → w.cell? ⟨g, 0 + k * 6 + r, none⟩ = some u := fun r hr u hu => by
      have h1 := World.ownsRow.cells h (g := g) rfl (k * 6 + r) u (by rw [cellsP_get l k hk r hr]; exact hu)
      rw [add_none] at h1
      rw [Nat.add_assoc]
      exact h1
    exact ⟨hc 0 (by decide) _ rfl, hc 1 (by decide) _ rfl, hc 2 (by decide) _ rfl, hc 3 (by decide) _ rfl, hc 4 (by decide) _ rfl, hc 5 (by decide) _ rfl⟩

theorem fr_ownP {T : TypeId} {w w' w2 : World} {base : Nat} {v : Value} {l : List Pz} (h : Fr (fun _ => False) w w') (ho : OwnP T w' base v l) (hb : w.heap.size ≤ base) (f : Fr (fun i => v.ownBlock = some i) w' w2) : Fr (fun _ => False) w w2 :=
  frJ h f fun i hi => Nat.le_trans hb (ho.block hi).1

/-- Appending a pass to passes of one's own. -/
theorem run_appP (T ts : TypeId) (w : World) (ty : TypeId) (base : Nat) (v : Value) (l : List Pz) (ht : Tryd.prog.underlying ts = some (.slice T)) (hinfo : (Tryd.prog.info? T).map (fun i => (i.zero, i.size, i.bytes)) = some (some (.agg #[.int .i64 0, .int .i64 0, .int .i64 0, .int .i64 0, .int .i64 0, .int .i64 0]), 6, 48))
    (hown : OwnP T w base v l) (g c : Nat) (q : Pz) (hc : At6 w g 0 q) (h63 : l.length ≤ 100000) (hbase : base ≤ w.heap.size) :
    ∃ a c' w', (Builtin.append_ #[ts, ts] ty #[v, .slice (some ⟨g, 0, none⟩) 1 c]).run Tryd.prog w = .ok (.slice a (l.length + 1) c') w' ∧ OwnP T w' base (.slice a (l.length + 1) c') (l ++ [q]) ∧ Fr (fun i => v.ownBlock = some i) w w' := by
  obtain ⟨i0, hi, hz0, hz1, hz2⟩ := info_parts hinfo
  obtain ⟨v', w', h1, h2, h3, _, h5⟩ := run_append_own_at (P := Tryd.prog) w base ts ty T i0 _ 6 48 ht hi hz0 hz1 hz2 rfl (by decide) v l.length (cellsP l) hown ⟨g, 0, none⟩ 1 c q.cells rfl (fun j u hj => by
    rw [add_none, Nat.zero_add]
    have h6 : j < 6 := by
      have := (List.getElem?_eq_some_iff.1 hj).1
      exact this
    match j, h6 with
    | 0, _ => cases hj; exact hc.c0
    | 1, _ => cases hj; exact hc.c1
    | 2, _ => cases hj; exact hc.c2
    | 3, _ => cases hj; exact hc.c3
    | 4, _ => cases hj; exact hc.c4
    | 5, _ => cases hj; exact hc.c5) (fun u hu => cellsP_one [q] u (by simpa [cellsP] using hu)) (by unfold maxLen; omega) (by omega) hbase
  obtain ⟨a, c', rfl⟩ := ownsRow_shape h2
  refine ⟨a, c', w', h1, ?_, Fr.of_grown h3⟩
  unfold OwnP
  rw [List.length_append, cellsP_app]
  simpa [cellsP] using h2
theorem wp_appP (T ts : TypeId) {w : World} {o : Oper} {a : Act} {K : Act → World → Prop} {Q : Exit → Act → World → Prop} (s x : Operand) (ht : Tryd.prog.underlying ts = some (.slice T)) (hinfo : (Tryd.prog.info? T).map (fun i => (i.zero, i.size, i.bytes)) = some (some (.agg #[.int .i64 0, .int .i64 0, .int .i64 0, .int .i64 0, .int .i64 0, .int .i64 0]), 6, 48))
    (ho : o.op = .call { callee := .builtin .append, args := #[s, x], argTypes := #[ts, ts] }) (base : Nat) (v : Value) (l : List Pz) (hs : a.eval s = v) (hown : OwnP T w base v l)
    (g c : Nat) (q : Pz) (hx : a.eval x = .slice (some ⟨g, 0, none⟩) 1 c) (hc : At6 w g 0 q) (h63 : l.length ≤ 100000) (hbase : base ≤ w.heap.size)
    (h : ∀ a' c' w', OwnP T w' base (.slice a' (l.length + 1) c') (l ++ [q]) → Fr (fun i => v.ownBlock = some i) w w' → K (a.put o.dst (.slice a' (l.length + 1) c')) w') : o.wp Tryd.prog a w K Q := by
  obtain ⟨a', c', w', hr, h2, h3⟩ := run_appP T ts w o.type base v l ht hinfo hown g c q hc h63 hbase
  unfold Oper.wp execOp
  simp only [ho, resolve, invoke, builtin, Sem.run_bind, Sem.run_pure, Result.andThen_ok, List.map_toArray, List.map_cons, List.map_nil, hs, hx, hr]
  exact h a' c' w' h2 h3

/-- How many places from x on with steps of d are below s. -/
def cnt (s x d : Int) : Int := (s - x + d - 1) / d
/-- The passes' beginnings and steps. -/
def gr (i : Nat) : Pz := match i with
  | 0 => ⟨0, 0, 8, 8, 0, 0⟩
  | 1 => ⟨4, 0, 8, 8, 0, 0⟩
  | 2 => ⟨0, 4, 4, 8, 0, 0⟩
  | 3 => ⟨2, 0, 4, 4, 0, 0⟩
  | 4 => ⟨0, 2, 2, 4, 0, 0⟩
  | 5 => ⟨1, 0, 2, 2, 0, 0⟩
  | _ => ⟨0, 1, 1, 2, 0, 0⟩
def psn (W H : Int) (i : Nat) : Pz := { gr i with w := cnt W (gr i).x (gr i).dx, h := cnt H (gr i).y (gr i).dy }
/-- The passes of a picture. -/
def pas (W H : Int) : Nat → List Pz
  | 0 => []
  | n + 1 => if 0 < (psn W H n).w ∧ 0 < (psn W H n).h then pas W H n ++ [psn W H n] else pas W H n
theorem pas_yes {W H : Int} {n : Nat} (h1 : 0 < (psn W H n).w) (h2 : 0 < (psn W H n).h) : pas W H (n + 1) = pas W H n ++ [psn W H n] := if_pos ⟨h1, h2⟩
theorem pas_no {W H : Int} {n : Nat} (h : ¬ (0 < (psn W H n).w ∧ 0 < (psn W H n).h)) : pas W H (n + 1) = pas W H n := if_neg h
theorem pas_le (W H : Int) : ∀ n, (pas W H n).length ≤ n
  | 0 => Nat.le_refl _
  | n + 1 => by
    have := pas_le W H n
    unfold pas
    split
    · rw [List.length_append]; simp; omega
    · omega
theorem gr_facts (i : Nat) : 0 ≤ (gr i).x ∧ (gr i).x < (gr i).dx ∧ (gr i).x ≤ 4 ∧ (gr i).dx ≤ 8 ∧ 0 ≤ (gr i).y ∧ (gr i).y < (gr i).dy ∧ (gr i).y ≤ 4 ∧ (gr i).dy ≤ 8 := by
  match i with
  | 0 | 1 | 2 | 3 | 4 | 5 => decide
  | _ + 6 => exact (show 0 ≤ (gr 6).x ∧ (gr 6).x < (gr 6).dx ∧ (gr 6).x ≤ 4 ∧ (gr 6).dx ≤ 8 ∧ 0 ≤ (gr 6).y ∧ (gr 6).y < (gr 6).dy ∧ (gr 6).y ≤ 4 ∧ (gr 6).dy ≤ 8 by decide)
theorem cnt_facts {s x d : Int} (hs : 1 ≤ s) (hs2 : s ≤ 256) (hx : 0 ≤ x) (hxd : x < d) : 0 ≤ cnt s x d ∧ cnt s x d ≤ s := by
  unfold cnt
  have h1 : 0 ≤ (s - x + d - 1) / d := Int.ediv_nonneg (by omega) (by omega)
  refine ⟨h1, ?_⟩
  have h2 : (s - x + d - 1) / d < s + 1 := by
    rw [Int.ediv_lt_iff_lt_mul (by omega)]
    have : s * 1 ≤ s * d := Int.mul_le_mul_of_nonneg_left (by omega) (by omega)
    rw [Int.add_mul, Int.one_mul]
    have h3 : (s - 1) * 1 ≤ (s - 1) * d := Int.mul_le_mul_of_nonneg_left (by omega) (by omega)
    rw [Int.sub_mul] at h3
    omega
  omega
theorem count_c (s x d : Int) (w : World) (hs : 1 ≤ s) (hs2 : s ≤ 256) (hx : 0 ≤ x) (hxd : x < d) (hd : d ≤ 8) : Calls Tryd.prog 20 #[.int .i64 s, .int .i64 x, .int .i64 d] w fun e w' => e = .returned (.int .i64 (cnt s x d)) ∧ w' = w := by
  have h0 : (d == 0) = false := by rw [beq_eq_false_iff_ne]; omega
  have hq : (s - x + d - 1).tdiv d = cnt s x d := Int.tdiv_eq_ediv_of_nonneg (by omega)
  obtain ⟨f1, f2⟩ := cnt_facts hs hs2 hx hxd
  have hw1 : IntKind.i64.wrap (cnt s x d) = cnt s x d := wrap_i64_id _ (by omega) (by omega)
  have hw2 : wrap64 (cnt s x d) = cnt s x d := wrap64_id _ (by omega) (by omega)
  have hw3 : wrap64 ((s - x + d - 1).tdiv d) = cnt s x d := by rw [hq, hw2]
  have hq2 : (s - x + d - 1) / d = cnt s x d := rfl
  generalize cnt s x d = C at *
  go_enter Tryd.func20, Tryd.ntmps20
  go_wp2
  go_ret
  exact ⟨rfl, rfl⟩
end Go.Proofs.YtdnhndiaiejkoaaDoor
