/-
  adam: passes that came in; what the program's laid variable gives.
-/
import Derived.Test.YtdnhndiaiejkoaaDoorRk
import Derived.Test.YtdnhndiaiejkoaaDoorRg
import Derived.Test.YtdnhndiaiejkoaaDoorTie
import Derived.ProofKit
import Derived.LaidMore
import Derived.OpenShut
import Derived.ChangeSame
import Derived.Stop.Joined
namespace Go.Proofs.YtdnhndiaiejkoaaDoor
open Go.ChangeShapes Go.WideShapes Go.ChangeAt Go.RowKit
set_option linter.unusedVariables false

theorem trod_six40 {H : Type} {enc : TypeId × Value → H} {W : World} {base : Nat} {sp : Nat → Bool} {held : Bool} {n : Nat} {cs : List Value} {x : DataW H × List MemPlace}
    (h : DataW.trod enc Tryd.prog W base sp held n 40 cs = some x) : ∃ q : Pz, cs = q.cells ∧ x.1 = .agg [.lit (.int .i64 q.x), .lit (.int .i64 q.y), .lit (.int .i64 q.dx), .lit (.int .i64 q.dy), .lit (.int .i64 q.w), .lit (.int .i64 q.h)] := by
  obtain ⟨xs, m, _, rfl, hl, hlen, hf⟩ := DataW.trod_struct Tryd.underlying40 h
  have hl6 : cs.length = 6 := hl.trans (by kernel_rfl)
  have c3 : Tryd.prog.cellsOf 3 = 1 := by kernel_rfl
  have hlen6 : xs.length = 6 := hlen
  match cs, hl6, xs, hlen6 with
  | [v0, v1, v2, v3, v4, v5], _, [y0, y1, y2, y3, y4, y5], _ =>
    have t0 : DataW.trod enc Tryd.prog W base sp held m 3 [v0] = some y0 := by
      have t : DataW.trod enc Tryd.prog W base sp held m 3 ((([v0, v1, v2, v3, v4, v5] : List Value).drop 0).take (Tryd.prog.cellsOf 3)) = some y0 := hf 0 _ rfl
      rw [c3] at t
      exact t
    have t1 : DataW.trod enc Tryd.prog W base sp held m 3 [v1] = some y1 := by
      have t : DataW.trod enc Tryd.prog W base sp held m 3 ((([v0, v1, v2, v3, v4, v5] : List Value).drop 1).take (Tryd.prog.cellsOf 3)) = some y1 := hf 1 _ rfl
      rw [c3] at t
      exact t
    have t2 : DataW.trod enc Tryd.prog W base sp held m 3 [v2] = some y2 := by
      have t : DataW.trod enc Tryd.prog W base sp held m 3 ((([v0, v1, v2, v3, v4, v5] : List Value).drop 2).take (Tryd.prog.cellsOf 3)) = some y2 := hf 2 _ rfl
      rw [c3] at t
      exact t
    have t3 : DataW.trod enc Tryd.prog W base sp held m 3 [v3] = some y3 := by
      have t : DataW.trod enc Tryd.prog W base sp held m 3 ((([v0, v1, v2, v3, v4, v5] : List Value).drop 3).take (Tryd.prog.cellsOf 3)) = some y3 := hf 3 _ rfl
      rw [c3] at t
      exact t
    have t4 : DataW.trod enc Tryd.prog W base sp held m 3 [v4] = some y4 := by
      have t : DataW.trod enc Tryd.prog W base sp held m 3 ((([v0, v1, v2, v3, v4, v5] : List Value).drop 4).take (Tryd.prog.cellsOf 3)) = some y4 := hf 4 _ rfl
      rw [c3] at t
      exact t
    have t5 : DataW.trod enc Tryd.prog W base sp held m 3 [v5] = some y5 := by
      have t : DataW.trod enc Tryd.prog W base sp held m 3 ((([v0, v1, v2, v3, v4, v5] : List Value).drop 5).take (Tryd.prog.cellsOf 3)) = some y5 := hf 5 _ rfl
      rw [c3] at t
      exact t
    obtain ⟨k0, e0, f0, _⟩ := DataW.trod_int Tryd.underlying3 t0
    obtain ⟨k1, e1, f1, _⟩ := DataW.trod_int Tryd.underlying3 t1
    obtain ⟨k2, e2, f2, _⟩ := DataW.trod_int Tryd.underlying3 t2
    obtain ⟨k3, e3, f3, _⟩ := DataW.trod_int Tryd.underlying3 t3
    obtain ⟨k4, e4, f4, _⟩ := DataW.trod_int Tryd.underlying3 t4
    obtain ⟨k5, e5, f5, _⟩ := DataW.trod_int Tryd.underlying3 t5
    refine ⟨⟨k0, k1, k2, k3, k4, k5⟩, ?_, ?_⟩
    · simp at e0 e1 e2 e3 e4 e5
      rw [e0, e1, e2, e3, e4, e5]
      rfl
    · simp [f0, f1, f2, f3, f4, f5]
theorem trod_six32 {H : Type} {enc : TypeId × Value → H} {W : World} {base : Nat} {sp : Nat → Bool} {held : Bool} {n : Nat} {cs : List Value} {x : DataW H × List MemPlace}
    (h : DataW.trod enc Tryd.prog W base sp held n 32 cs = some x) : ∃ q : Pz, cs = q.cells ∧ x.1 = .agg [.lit (.int .i64 q.x), .lit (.int .i64 q.y), .lit (.int .i64 q.dx), .lit (.int .i64 q.dy), .lit (.int .i64 q.w), .lit (.int .i64 q.h)] := by
  obtain ⟨xs, m, _, rfl, hl, hlen, hf⟩ := DataW.trod_struct Tryd.underlying32 h
  have hl6 : cs.length = 6 := hl.trans (by kernel_rfl)
  have c3 : Tryd.prog.cellsOf 3 = 1 := by kernel_rfl
  have hlen6 : xs.length = 6 := hlen
  match cs, hl6, xs, hlen6 with
  | [v0, v1, v2, v3, v4, v5], _, [y0, y1, y2, y3, y4, y5], _ =>
    have t0 : DataW.trod enc Tryd.prog W base sp held m 3 [v0] = some y0 := by
      have t : DataW.trod enc Tryd.prog W base sp held m 3 ((([v0, v1, v2, v3, v4, v5] : List Value).drop 0).take (Tryd.prog.cellsOf 3)) = some y0 := hf 0 _ rfl
      rw [c3] at t
      exact t
    have t1 : DataW.trod enc Tryd.prog W base sp held m 3 [v1] = some y1 := by
      have t : DataW.trod enc Tryd.prog W base sp held m 3 ((([v0, v1, v2, v3, v4, v5] : List Value).drop 1).take (Tryd.prog.cellsOf 3)) = some y1 := hf 1 _ rfl
      rw [c3] at t
      exact t
    have t2 : DataW.trod enc Tryd.prog W base sp held m 3 [v2] = some y2 := by
      have t : DataW.trod enc Tryd.prog W base sp held m 3 ((([v0, v1, v2, v3, v4, v5] : List Value).drop 2).take (Tryd.prog.cellsOf 3)) = some y2 := hf 2 _ rfl
      rw [c3] at t
      exact t
    have t3 : DataW.trod enc Tryd.prog W base sp held m 3 [v3] = some y3 := by
      have t : DataW.trod enc Tryd.prog W base sp held m 3 ((([v0, v1, v2, v3, v4, v5] : List Value).drop 3).take (Tryd.prog.cellsOf 3)) = some y3 := hf 3 _ rfl
      rw [c3] at t
      exact t
    have t4 : DataW.trod enc Tryd.prog W base sp held m 3 [v4] = some y4 := by
      have t : DataW.trod enc Tryd.prog W base sp held m 3 ((([v0, v1, v2, v3, v4, v5] : List Value).drop 4).take (Tryd.prog.cellsOf 3)) = some y4 := hf 4 _ rfl
      rw [c3] at t
      exact t
    have t5 : DataW.trod enc Tryd.prog W base sp held m 3 [v5] = some y5 := by
      have t : DataW.trod enc Tryd.prog W base sp held m 3 ((([v0, v1, v2, v3, v4, v5] : List Value).drop 5).take (Tryd.prog.cellsOf 3)) = some y5 := hf 5 _ rfl
      rw [c3] at t
      exact t
    obtain ⟨k0, e0, f0, _⟩ := DataW.trod_int Tryd.underlying3 t0
    obtain ⟨k1, e1, f1, _⟩ := DataW.trod_int Tryd.underlying3 t1
    obtain ⟨k2, e2, f2, _⟩ := DataW.trod_int Tryd.underlying3 t2
    obtain ⟨k3, e3, f3, _⟩ := DataW.trod_int Tryd.underlying3 t3
    obtain ⟨k4, e4, f4, _⟩ := DataW.trod_int Tryd.underlying3 t4
    obtain ⟨k5, e5, f5, _⟩ := DataW.trod_int Tryd.underlying3 t5
    refine ⟨⟨k0, k1, k2, k3, k4, k5⟩, ?_, ?_⟩
    · simp at e0 e1 e2 e3 e4 e5
      rw [e0, e1, e2, e3, e4, e5]
      rfl
    · simp [f0, f1, f2, f3, f4, f5]

theorem own' : ownKnob Tryd.prog.godebug = none := by kernel_rfl
theorem laidOut : laidOutB Tryd.prog = true := by kernel_rfl
theorem gGrid : Tryd.prog.globalNamed "engraver/adam.grids" = some 0 := by kernel_rfl
theorem tGrid : (Tryd.prog.globals[0]?).map (·.type) = some 43 := by kernel_rfl

abbrev laidL {H : Type} : List (String × DataW H) := [("engraver/adam.grids", Rows.laid_engraver_adam_grids)]

theorem door_met (os : Os) (args : Array Value) : laidMetH Tryd.prog laidL ((World.doorLaid Tryd.prog 400 os).forCall (fun _ _ => 0) ⟨#[], args, []⟩).memory :=
  laidMetH_of_parts3 (fuel := 8) (laidMet_of_run' 8 (by kernel_rfl) (by kernel_rfl)) (by kernel_rfl) (by kernel_rfl)

def Pz.data {H : Type} (q : Pz) : DataW H := .agg [.lit (.int .i64 q.x), .lit (.int .i64 q.y), .lit (.int .i64 q.dx), .lit (.int .i64 q.dy), .lit (.int .i64 q.w), .lit (.int .i64 q.h)]
theorem data_inj {H : Type} {p q : Pz} (h : (p.data : DataW H) = q.data) : p = q := by
  obtain ⟨a, b, c, d, e, f⟩ := p
  obtain ⟨a', b', c', d', e', f'⟩ := q
  simp [Pz.data] at h
  obtain ⟨rfl, rfl, rfl, rfl, rfl, rfl⟩ := h
  rfl
theorem laid_data : (Rows.laid_engraver_adam_grids : DataW Unit) = .agg (gridL.map Pz.data) := rfl

theorem of_laid {W : World} (h : laidMetH Tryd.prog laidL W) : Gw W := by
  rw [MakeChecks.laidMetH_plain _ _ _ (by kernel_rfl)] at h
  obtain ⟨ps, ⟨g0, t0, cs0, f0, p0, q0, hg0, ht0, hv0, hd0, _, _⟩, _, _⟩ := h
  obtain rfl := Option.some.inj (gGrid.symm.trans hg0)
  obtain rfl := Option.some.inj (tGrid.symm.trans ht0)
  obtain ⟨xs, m1, rfl, hx1, hlen, hn3, hel⟩ := DataW.trod_array Tryd.underlying43 hd0
  have c32 : Tryd.prog.cellsOf 32 = 6 := by kernel_rfl
  simp only [Prod.mk.injEq] at hx1
  have hll := hx1.1
  rw [laid_data] at hll
  have hll2 : gridL.map Pz.data = xs.map fun x => x.fst := by simpa using hll
  refine ⟨fun i hi => ?_⟩
  have hk : i / 6 < 7 := by omega
  have h1 := hel (i / 6) (by simpa using hk)
  obtain ⟨y, hy⟩ : ∃ y, xs[i / 6]? = some y := ⟨_, List.getElem?_eq_getElem (by omega)⟩
  rw [hy, c32] at h1
  obtain ⟨q, e1, e2⟩ := trod_six32 h1
  have hq : q = gridL.getD (i / 6) default := by
    have h2 : (xs.map fun x => x.fst)[i / 6]? = some q.data := by rw [List.getElem?_map, hy]; exact congrArg some e2
    rw [← hll2, List.getElem?_map, List.getElem?_eq_getElem (show i / 6 < gridL.length from hk)] at h2
    rw [List.getD_eq_getElem?_getD, List.getElem?_eq_getElem (show i / 6 < gridL.length from hk)]
    exact (data_inj (Option.some.inj h2)).symm
  have h3 := cellsP_get gridL (i / 6) hk (i % 6) (by omega)
  rw [show i / 6 * 6 + i % 6 = i by omega, ← hq, ← e1, List.getElem?_take, if_pos (by omega), List.getElem?_drop, show i / 6 * 6 + i % 6 = i by omega] at h3
  rw [World.var?_cell hg0 hv0 i, h3, ← Array.getElem?_toList]

/-- One for each place makes a list. -/
theorem pzs_of {n : Nat} {P : Nat → Pz → Prop} (h : ∀ i, i < n → ∃ q, P i q) : ∃ u : List Pz, u.length = n ∧ ∀ i, i < n → P i (u.getD i default) := by
  induction n with
  | zero => exact ⟨[], rfl, fun i hi => absurd hi (Nat.not_lt_zero i)⟩
  | succ n ih =>
    obtain ⟨u, hu, hp⟩ := ih fun i hi => h i (by omega)
    obtain ⟨q, hq⟩ := h n (by omega)
    refine ⟨u ++ [q], by simp [hu], fun i hi => ?_⟩
    by_cases hin : i < n
    · have := hp i hin
      simpa only [List.getD_eq_getElem?_getD, List.getElem?_append_left (show i < u.length by omega)] using this
    · obtain rfl : i = n := by omega
      rw [List.getD_eq_getElem?_getD, List.getElem?_append_right (by omega), hu]
      simpa using hq

theorem open_passes {H : Type} {enc : TypeId × Value → H} {W : World} {base : Nat} {sp : Nat → Bool} {held : Bool} {a : Option Addr} {len cap : Nat} {d : DataW H} {ps : List MemPlace}
    (h : DataW.Trod enc Tryd.prog W base sp held 24 (.slice a len cap) d ps) : ∃ u : List Pz, u.length = len ∧ LiesP W a u := by
  obtain ⟨fuel, hf⟩ := h
  rcases DataW.trod_slice Tryd.underlying24 hf with ⟨hcs, _⟩ | ⟨ad, l, c, elems, rest, n, _, hcs, _, hb, hl, hm, hlen, hel, _, _⟩
  · simp [Value.cells] at hcs
    obtain ⟨rfl, rfl, rfl⟩ := hcs
    exact ⟨[], rfl, fun k hk => absurd hk (Nat.not_lt_zero k)⟩
  · simp [Value.cells] at hcs
    obtain ⟨rfl, rfl, rfl⟩ := hcs
    have c40 : Tryd.prog.cellsOf 40 = 6 := by kernel_rfl
    rw [c40] at hel
    have each : ∀ i, i < len → ∃ q : Pz, ∀ r, r < 6 → W.cell? (ad.add (i * 6 + r)) = q.cells[r]? := fun i hi => by
      have h1 := hel i hi
      rw [List.getElem?_eq_getElem (by omega)] at h1
      obtain ⟨cs, hc1, hc2⟩ := Option.bind_eq_some_iff.1 h1
      obtain ⟨hb2, hn2, hcell⟩ := World.cells?_some hc1
      obtain ⟨q, rfl, _⟩ := trod_six40 hc2
      refine ⟨q, fun r hr => ?_⟩
      have hc := hcell r hr
      rw [Addr.add_add] at hc
      exact hc
    obtain ⟨u, hul, hug⟩ := pzs_of each
    refine ⟨u, hul, fun i hi => ?_⟩
    have hg := hug i (by omega)
    have hz := hug 0 (by omega) 0 (by omega)
    obtain ⟨b, o, s⟩ := ad
    cases s with
    | some s =>
      exfalso
      rw [Nat.zero_mul, Nat.zero_add, show (⟨b, o, some s⟩ : Addr).add 0 = ⟨b, o, some s⟩ by unfold Addr.add; rw [if_pos rfl]] at hz
      simp only [World.cell?] at hz
      split at hz <;> simp [Pz.cells] at hz
    | none =>
      have hc : ∀ r, r < 6 → W.cell? ⟨b, o + i * 6 + r, none⟩ = (u.getD i default).cells[r]? := fun r hr => by
        have := hg r hr
        rw [add_none] at this
        rw [Nat.add_assoc]
        exact this
      exact ⟨b, o, rfl, hc 0 (by decide), hc 1 (by decide), hc 2 (by decide), hc 3 (by decide), hc 4 (by decide), hc 5 (by decide)⟩
end Go.Proofs.YtdnhndiaiejkoaaDoor
