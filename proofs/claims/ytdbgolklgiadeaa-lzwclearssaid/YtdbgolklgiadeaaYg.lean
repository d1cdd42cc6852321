/-
  lzw: the writer's map.
-/
import Derived.Test.YtdbgolklgiadeaaYf
import Derived.Maps.OwnSet
import Derived.DeepKeys4
namespace Go.Proofs.Ytdbgolklgiadeaa
open Go.RowKit Go.Maps

theorem Try.lawK : WideMaps.KeyLaw Try.prog 90 := deep_law_laid (by kernel_rfl) (m := 2) (by omega) (of_decide_eq_true (by kernel_rfl)) (by kernel_rfl) (by kernel_rfl)

theorem Try.keyed : Keyed Try.prog 90 := Keyed.of_law Try.lawK

theorem Try.und90 : (Try.prog.underlying 90).map TypeDesc.isRow = some true := by kernel_rfl

/-- A key. -/
def kv (r v : Nat) : Value := .agg #[.int .i64 (r : Int), .int .u8 (v : Int)]

theorem Try.fields : ((Try.prog.underlying 90).map fun d => match d with | .struct fs => (fs.toList.map (fun (f : Field) => (f.type, f.offset)), fs.all (·.name != "_")) | _ => ([], false)) = some ([(3, 0), (5, 1)], true) := by kernel_rfl
theorem Try.sizes : (Try.prog.cellsOf 3, Try.prog.cellsOf 5, Try.prog.cellsOf 90, Try.prog.keyType 90) = (1, 1, 2, true) := by kernel_rfl
theorem Try.many : 1 ≤ Try.prog.types.size := of_decide_eq_true (by kernel_rfl)

theorem Try.struct90 : ∃ f1 f2 : Field, Try.prog.underlying 90 = some (.struct #[f1, f2]) ∧ f1.type = 3 ∧ f1.offset = 0 ∧ f2.type = 5 ∧ f2.offset = 1 ∧ f1.name ≠ "_" ∧ f2.name ≠ "_" := by
  have h := Try.fields
  cases hu : Try.prog.underlying 90 with
  | none => rw [hu] at h; cases h
  | some d =>
    rw [hu] at h
    cases d <;> simp at h
    rename_i fs
    obtain ⟨h1, h2⟩ := h
    obtain ⟨l⟩ := fs
    match l, h1, h2 with
    | [f1, f2], h1, h2 =>
      simp at h1
      refine ⟨f1, f2, rfl, h1.1.1, h1.1.2, h1.2.1, h1.2.2, ?_, ?_⟩
      · simpa using h2 0 (by simp)
      · simpa using h2 1 (by simp)

theorem key_of (r v : Nat) (hr : r < 5000) (hv : v < 256) : keyOf Try.prog 90 (kv r v) = some (.string (keyBytes [.int .i64 (r : Int), .int .u8 (v : Int)])) := by
  obtain ⟨f1, f2, hu, a1, a2, a3, a4, a5, a6⟩ := Try.struct90
  have hs := Try.sizes
  simp only [Prod.mk.injEq] at hs
  obtain ⟨s1, s2, s3, s4⟩ := hs
  obtain ⟨T, hT⟩ : ∃ T, Try.prog.types.size = T + 1 := ⟨Try.prog.types.size - 1, by have := Try.many; omega⟩
  have w1 : (Lit.int .i64 (r : Int)).wf = true := WalkArith.wf_i64 (by omega)
  have w2 : (Lit.int .u8 (v : Int)).wf = true := WalkArith.wf_u8 (by omega)
  have l1 : Try.prog.keyLits (T + 1) 3 [.int .i64 (r : Int)] = some [.int .i64 (r : Int)] := by
    simp [Program.keyLits, Try.underlying3, w1]
  have l2 : Try.prog.keyLits (T + 1) 5 [.int .u8 (v : Int)] = some [.int .u8 (v : Int)] := by
    simp [Program.keyLits, Try.underlying5, w2]
  have l3 : Try.prog.keyLits (T + 1 + 1) 90 [.int .i64 (r : Int), .int .u8 (v : Int)] = some [.int .i64 (r : Int), .int .u8 (v : Int)] := by
    unfold Program.keyLits
    simp [hu, s3, a1, a2, a3, a4, a5, a6, s1, s2, l1, l2]
  unfold keyOf kv
  rw [hu, hT]
  simp [s4, Value.formed, hu, s3, Value.cells, l3]

/-- A map of the writer: what it has. -/
structure Mp (w : World) (b n : Nat) (F : Nat → Nat → Option Nat) : Prop where
  it : ∃ D : DataW Unit, w.ownsMap Try.prog 90 (plainElem Try.prog 3) b n D ∧ ∀ r v, r < 5000 → v < 256 → (F r v = none → Maps.has D (.string (keyBytes [.int .i64 (r : Int), .int .u8 (v : Int)])) = false) ∧
    ∀ c, F r v = some c → Maps.has D (.string (keyBytes [.int .i64 (r : Int), .int .u8 (v : Int)])) = true ∧ D.atKey (.string (keyBytes [.int .i64 (r : Int), .int .u8 (v : Int)])) (.lit (.int .i64 0)) = .lit (.int .i64 (c : Int))

theorem Mp.lt {w : World} {b n : Nat} {F : Nat → Nat → Option Nat} (h : Mp w b n F) : b < w.heap.size := by
  obtain ⟨D, h1, _⟩ := h.it
  exact h1.lt

theorem Mp.fr {w w' : World} {b n : Nat} {F : Nat → Nat → Option Nat} (h : Mp w b n F) {S : Nat → Prop} (f : Fr S w w') (hS : ¬ S b) : Mp w' b n F := by
  obtain ⟨D, ⟨es, clock, hb, r⟩, h2⟩ := h.it
  exact ⟨D, ⟨es, clock, (f.block b h.lt hS).trans hb, r⟩, h2⟩

theorem Try.zero3 (w : World) : (zeroValue 3).run Try.prog w = .ok (.int .i64 0) w := by kernel_rfl

/-- A look-up. -/
theorem Mp.look {w : World} {b n : Nat} {F : Nat → Nat → Option Nat} (h : Mp w b n F) {r v : Nat} (hr : r < 5000) (hv : v < 256) : ∃ x : Int, (Instr.lookup 86 (.map (some b)) (kv r v) true).run Try.prog w = .ok (.tuple #[.int .i64 x, .bool (F r v).isSome]) w ∧ ∀ c, F r v = some c → x = (c : Int) := by
  obtain ⟨D, h1, h2⟩ := h.it
  obtain ⟨x, ps, e1, e2⟩ := h1.look_ok Try.keyed Try.underlying86 (Try.zero3 w) (zd := .lit (.int .i64 0)) (zp := []) (plainElem_int Try.underlying3 (WalkArith.wf_i64 (by omega))) (key_of r v hr hv)
  obtain ⟨c, rfl, hc, _⟩ := plainElem_int_inv Try.underlying3 e2
  simp only [Prod.mk.injEq] at hc
  obtain ⟨g1, g2⟩ := h2 r v hr hv
  cases hF : F r v with
  | none =>
    rw [g1 hF] at e1
    exact ⟨c, e1, fun c' e => by cases e⟩
  | some c' =>
    obtain ⟨g3, g4⟩ := g2 c' hF
    rw [g3] at e1
    refine ⟨c, e1, fun c2 e => ?_⟩
    injection e with e
    subst e
    rw [g4] at hc
    have := hc.1
    injection this with this
    injection this with _ this
    exact this.symm

theorem key_ne {r v r' v' : Nat} (hr : r < 5000) (hv : v < 256) (hr' : r' < 5000) (hv' : v' < 256) (hne : ¬ (r' = r ∧ v' = v)) : Lit.string (keyBytes [.int .i64 (r' : Int), .int .u8 (v' : Int)]) ≠ Lit.string (keyBytes [.int .i64 (r : Int), .int .u8 (v : Int)]) := by
  intro e
  have h1 := key_of r v hr hv
  have h2 := key_of r' v' hr' hv'
  rw [e] at h2
  have h3 := Try.keyed.inj h2 h1
  unfold kv at h3
  injection h3 with h3
  simp at h3
  exact hne (by omega)

/-- A store. -/
theorem Mp.store {w : World} {b n : Nat} {F : Nat → Nat → Option Nat} (h : Mp w b n F) {r v c : Nat} (hr : r < 5000) (hv : v < 256) (hc : c < 5000) (hn : n ≤ 2000000) : ∃ w', (Instr.mapUpdate 86 (.map (some b)) (kv r v) (.int .i64 (c : Int))).run Try.prog w = .ok () w' ∧ Mp w' b (n + 1) (upd F r v c) ∧ Fr (fun j => j = b) w w' := by
  obtain ⟨D, h1, h2⟩ := h.it
  obtain ⟨w', e1, e2, e3⟩ := h1.update Try.keyed Try.underlying86 (by unfold maxLen; omega) (key_of r v hr hv) (plainElem_int Try.underlying3 (a := (c : Int)) (WalkArith.wf_i64 (by omega)))
  refine ⟨w', e1, ⟨_, e2, fun r' v' hr' hv' => ?_⟩, (Fr.of_grown e3).mono fun j _ e => by injection e with e; exact e.symm⟩
  have hI := h1.isMap
  have hk : WideAt.IsKeyLit (Lit.string (keyBytes [.int .i64 (r : Int), .int .u8 (v : Int)])) := Try.keyed.key (key_of r v hr hv)
  by_cases he : r' = r ∧ v' = v
  · obtain ⟨rfl, rfl⟩ := he
    unfold upd
    simp only [and_self, if_true]
    refine ⟨(fun e => by cases e), fun c' e => ?_⟩
    injection e with e
    subst e
    exact ⟨has_put_same hI hk _, atKey_put_same hI hk _ _⟩
  · have hne := key_ne hr hv hr' hv' he
    unfold upd
    rw [if_neg he]
    rw [has_put_other hne, atKey_put_other hne]
    exact h2 r' v' hr' hv'

/-- All is dropped. -/
theorem Mp.clear {w : World} {b n : Nat} {F : Nat → Nat → Option Nat} (h : Mp w b n F) (ty : TypeId) : ∃ w', (Builtin.clear_ #[86] ty #[.map (some b)]).run Try.prog w = .ok (.tuple #[]) w' ∧ Mp w' b 0 (fun _ _ => none) ∧ Fr (fun j => j = b) w w' := by
  obtain ⟨D, ⟨es, clock, hb, r⟩, h2⟩ := h.it
  refine ⟨ChangeMaps.setBlock w b (.map #[] clock), ?_, ⟨.map [], ⟨#[], clock, ChangeMaps.heap_setBlock_same hb _, ⟨by simp, MapKept.stamped_empty clock, by simp⟩, Nat.le_refl _, rfl⟩, fun r v _ _ => ⟨fun _ => rfl, fun c e => by cases e⟩⟩, ⟨rfl, rfl, rfl, by simp [ChangeMaps.setBlock], fun i _ hi => ChangeMaps.heap_setBlock_other hb _ (fun e => hi e)⟩⟩
  simp [Builtin.clear_, run_underlying Try.underlying86, MapKept.run_getObj_map hb, MapKept.run_setObj_map _ hb, Result.andThen, ChangeMaps.setBlock]

theorem Mp.made (w : World) : Mp (w.alloc (.map #[] 0)) w.heap.size 0 (fun _ _ => none) :=
  ⟨.map [], World.ownsMap_made w _ _ _, fun r v _ _ => ⟨fun _ => rfl, fun c e => by cases e⟩⟩
end Go.Proofs.Ytdbgolklgiadeaa
