/-
  palette: the map from colours to places.
-/
import Derived.Test.YthdilabmajaehaaYa
import Derived.Maps.OwnSet
import Derived.DeepKeys4
namespace Go.Proofs.Ythdilabmajaehaa
open Go.RowKit Go.Maps

theorem Try.lawK : WideMaps.KeyLaw Try.prog 36 := deep_law_laid (by kernel_rfl) (m := 2) (by omega) (of_decide_eq_true (by kernel_rfl)) (by kernel_rfl) (by kernel_rfl)

theorem Try.keyed : Keyed Try.prog 36 := Keyed.of_law Try.lawK

/-- A colour. -/
def kv (x : List Nat) : Value := .agg (cellsU x).toArray
def kl (x : List Nat) : Lit := .string (keyBytes (x.map fun b => .int .u16 ((b : Nat) : Int)))
def Good (x : List Nat) : Prop := x.length = 4 ∧ ∀ b ∈ x, b < 65536

theorem Try.many : 1 ≤ Try.prog.types.size := of_decide_eq_true (by kernel_rfl)
theorem Try.sizes : (Try.prog.cellsOf 29, Try.prog.cellsOf 36, Try.prog.keyType 36) = (1, 4, true) := by kernel_rfl

set_option maxRecDepth 100000 in
theorem key_of {x : List Nat} (h : Good x) : keyOf Try.prog 36 (kv x) = some (kl x) := by
  have u36 := Try.underlying36
  have u29 := Try.underlying29
  have hs := Try.sizes
  simp only [Prod.mk.injEq] at hs
  obtain ⟨s1, s2, s3⟩ := hs
  obtain ⟨T, hT⟩ : ∃ T, Try.prog.types.size = T + 1 := ⟨Try.prog.types.size - 1, by have := Try.many; omega⟩
  obtain ⟨h4, hb⟩ := h
  match x, h4 with
  | [a, b, c, d], _ =>
    have one : ∀ n : Nat, n < 65536 → Try.prog.keyLits (T + 1) 29 [.int .u16 (n : Int)] = some [.int .u16 (n : Int)] := fun n hn => by
      unfold Program.keyLits
      rw [u29]
      simp [wf16 n hn]
    have l3 : Try.prog.keyLits (T + 1 + 1) 36 [.int .u16 (a : Int), .int .u16 (b : Int), .int .u16 (c : Int), .int .u16 (d : Int)] = some [.int .u16 (a : Int), .int .u16 (b : Int), .int .u16 (c : Int), .int .u16 (d : Int)] := by
      unfold Program.keyLits
      rw [u36]
      simp [s1, s2, List.range, List.range.loop, one a (hb _ (by simp)), one b (hb _ (by simp)), one c (hb _ (by simp)), one d (hb _ (by simp))]
    unfold keyOf kv kl
    rw [u36, hT]
    simp [s3, Value.formed, u36, s2, Value.cells, cellsU, l3]

theorem cellsU_inj {x y : List Nat} (h : cellsU x = cellsU y) : x = y := by
  unfold cellsU at h
  refine (List.map_inj_right (fun a b e => ?_)).1 h
  injection e with _ e
  omega

theorem key_ne {x y : List Nat} (hx : Good x) (hy : Good y) (hne : ¬ y = x) : kl y ≠ kl x := by
  intro e
  have h1 := key_of hx
  have h2 := key_of hy
  rw [e] at h2
  have h3 := Try.keyed.inj h2 h1
  unfold kv at h3
  injection h3 with h3
  exact hne (cellsU_inj (by simpa using h3))

def upd (F : List Nat → Option Nat) (x : List Nat) (c : Nat) : List Nat → Option Nat := fun y => if y = x then some c else F y

/-- The map: what it has. -/
structure Mp (w : World) (b n : Nat) (F : List Nat → Option Nat) : Prop where
  it : ∃ D : DataW Unit, w.ownsMap Try.prog 36 (plainElem Try.prog 5) b n D ∧ ∀ x, Good x → (F x = none → Maps.has D (kl x) = false) ∧
    ∀ c, F x = some c → Maps.has D (kl x) = true ∧ D.atKey (kl x) (.lit (.int .u8 0)) = .lit (.int .u8 (c : Int))

theorem Mp.lt {w : World} {b n : Nat} {F : List Nat → Option Nat} (h : Mp w b n F) : b < w.heap.size := by
  obtain ⟨D, h1, _⟩ := h.it
  exact h1.lt

theorem Mp.fr {w w' : World} {b n : Nat} {F : List Nat → Option Nat} (h : Mp w b n F) {S : Nat → Prop} (f : Fr S w w') (hS : ¬ S b) : Mp w' b n F := by
  obtain ⟨D, ⟨es, clock, hb, r⟩, h2⟩ := h.it
  exact ⟨D, ⟨es, clock, (f.block b h.lt hS).trans hb, r⟩, h2⟩

theorem Try.zero5 (w : World) : (zeroValue 5).run Try.prog w = .ok (.int .u8 0) w := by kernel_rfl

set_option maxRecDepth 100000 in
/-- A look-up. -/
theorem Mp.look {w : World} {b n : Nat} {F : List Nat → Option Nat} (h : Mp w b n F) {x : List Nat} (hx : Good x) : ∃ v : Int, (Instr.lookup 81 (.map (some b)) (kv x) true).run Try.prog w = .ok (.tuple #[.int .u8 v, .bool (F x).isSome]) w ∧ ∀ c, F x = some c → v = (c : Int) := by
  obtain ⟨D, h1, h2⟩ := h.it
  obtain ⟨v, ps, e1, e2⟩ := h1.look_ok Try.keyed Try.underlying81 (Try.zero5 w) (zd := .lit (.int .u8 0)) (zp := []) (plainElem_int Try.underlying5 (WalkArith.wf_u8 (by omega))) (key_of hx)
  obtain ⟨c, rfl, hc, _⟩ := plainElem_int_inv Try.underlying5 e2
  simp only [Prod.mk.injEq] at hc
  obtain ⟨g1, g2⟩ := h2 x hx
  cases hF : F x with
  | none =>
    rw [g1 hF] at e1
    exact ⟨c, e1, fun c' e => by cases e⟩
  | some c' =>
    obtain ⟨g3, g4⟩ := g2 c' hF
    rw [g3] at e1
    refine ⟨c, e1, fun c2 e => ?_⟩
    injection e with e
    subst e
    rw [g4] at hc
    have := hc.1
    injection this with this
    injection this with _ this
    exact this.symm

set_option maxRecDepth 100000 in
/-- A store. -/
theorem Mp.store {w : World} {b n : Nat} {F : List Nat → Option Nat} (h : Mp w b n F) {x : List Nat} {c : Nat} (hx : Good x) (hc : c < 256) (hn : n ≤ 2000000) : ∃ w', (Instr.mapUpdate 81 (.map (some b)) (kv x) (.int .u8 (c : Int))).run Try.prog w = .ok () w' ∧ Mp w' b (n + 1) (upd F x c) ∧ Fr (fun j => j = b) w w' := by
  obtain ⟨D, h1, h2⟩ := h.it
  obtain ⟨w', e1, e2, e3⟩ := h1.update Try.keyed Try.underlying81 (by unfold maxLen; omega) (key_of hx) (plainElem_int Try.underlying5 (a := (c : Int)) (WalkArith.wf_u8 (by omega)))
  refine ⟨w', e1, ⟨_, e2, fun y hy => ?_⟩, (Fr.of_grown e3).mono fun j _ e => by injection e with e; exact e.symm⟩
  have hI := h1.isMap
  have hk : WideAt.IsKeyLit (kl x) := Try.keyed.key (key_of hx)
  by_cases he : y = x
  · subst he
    unfold upd
    simp only [if_true]
    refine ⟨(fun e => by cases e), fun c' e => ?_⟩
    injection e with e
    subst e
    exact ⟨has_put_same hI hk _, atKey_put_same hI hk _ _⟩
  · have hne := key_ne hx hy he
    unfold upd
    rw [if_neg he]
    rw [has_put_other hne, atKey_put_other hne]
    exact h2 y hy

theorem Mp.made (w : World) : Mp (w.alloc (.map #[] 0)) w.heap.size 0 (fun _ => none) :=
  ⟨.map [], World.ownsMap_made w _ _ _, fun x _ => ⟨fun _ => rfl, fun c e => by cases e⟩⟩

/-! The unlike ones of a row, and their places. -/
def uniqL : List (List Nat) → List (List Nat) := fun l => l.foldl (fun u p => if p ∈ u then u else u ++ [p]) []
def placeL : List (List Nat) → List Nat := fun l => (List.range l.length).map fun i => (uniqL (l.take (i + 1))).idxOf (l.getD i [])

theorem uniqL_snoc (l : List (List Nat)) (p : List Nat) : uniqL (l ++ [p]) = if p ∈ uniqL l then uniqL l else uniqL l ++ [p] := by
  unfold uniqL
  rw [List.foldl_append]
  rfl

theorem placeL_snoc (l : List (List Nat)) (p : List Nat) : placeL (l ++ [p]) = placeL l ++ [(uniqL (l ++ [p])).idxOf p] := by
  unfold placeL
  rw [List.length_append, List.length_singleton, List.range_succ, List.map_append]
  congr 1
  · refine List.map_congr_left fun i hi => ?_
    have hi' : i < l.length := List.mem_range.1 hi
    rw [List.take_append_of_le_length (by omega)]
    simp only [List.getD_eq_getElem?_getD, List.getElem?_append_left hi']
  · simp only [List.map_cons, List.map_nil]
    rw [List.take_of_length_le (by simp)]
    simp [List.getD_eq_getElem?_getD]

theorem uniqL_pix (px : List Nat) : ∀ i, uniqL ((List.range i).map (pix px)) = uniq px i
  | 0 => rfl
  | i + 1 => by
    rw [List.range_succ, List.map_append, List.map_singleton, uniqL_snoc, uniqL_pix px i]
    rfl

theorem placeL_pix (px : List Nat) : ∀ i, placeL ((List.range i).map (pix px)) = places px i
  | 0 => rfl
  | i + 1 => by
    have h := uniqL_pix px (i + 1)
    rw [List.range_succ, List.map_append, List.map_singleton] at h ⊢
    rw [placeL_snoc, placeL_pix px i, h]
    rfl

theorem uniqL_sub {l : List (List Nat)} {x : List Nat} : x ∈ uniqL l → x ∈ l := by
  suffices h : ∀ (l : List (List Nat)) (u : List (List Nat)), (∀ x ∈ l.foldl (fun u p => if p ∈ u then u else u ++ [p]) u, x ∈ u ∨ x ∈ l) by
    intro hx
    rcases h l [] x hx with h1 | h1
    · cases h1
    · exact h1
  intro l
  induction l with
  | nil => intro u x hx; exact Or.inl hx
  | cons p t ih =>
    intro u x hx
    rw [List.foldl_cons] at hx
    rcases ih _ x hx with h1 | h1
    · split at h1
      · exact Or.inl h1
      · rcases List.mem_append.1 h1 with h2 | h2
        · exact Or.inl h2
        · rw [List.mem_singleton] at h2; exact Or.inr (by rw [h2]; simp)
    · exact Or.inr (List.mem_cons_of_mem _ h1)

theorem uniqL_nodup (l : List (List Nat)) : (uniqL l).Nodup := by
  suffices h : ∀ (l : List (List Nat)) (u : List (List Nat)), u.Nodup → (l.foldl (fun u p => if p ∈ u then u else u ++ [p]) u).Nodup from h l [] List.nodup_nil
  intro l
  induction l with
  | nil => intro u hu; exact hu
  | cons p t ih =>
    intro u hu
    rw [List.foldl_cons]
    refine ih _ ?_
    split
    · exact hu
    · rename_i hp
      rw [List.nodup_append]
      refine ⟨hu, by simp, fun a ha b hb e => ?_⟩
      rw [List.mem_singleton] at hb
      exact hp (by rw [← hb, ← e]; exact ha)

/-- No more unlike ones than in the picture. -/
theorem uniqL_len {px : List Nat} {m : Nat} {l : List (List Nat)} (h : ∀ x ∈ l, ∃ j, j < m ∧ pix px j = x) : (uniqL l).length ≤ (uniq px m).length := by
  have hs : ∀ x ∈ uniqL l, x ∈ uniq px m := fun x hx => (mem_uniq px x m).2 (h x (uniqL_sub hx))
  have hn := uniqL_nodup l
  have he : (uniqL l).length = ((uniqL l).filter fun x => decide (x ∈ uniq px m)).length := by
    rw [List.filter_eq_self.2 (fun x hx => decide_eq_true (hs x hx))]
  obtain ⟨E, hE⟩ : ∃ E, E = (uniq px m).filter fun x => decide (x ∈ uniqL l) := ⟨_, rfl⟩
  have h2 := len_of_same (uniqL l) E hn (by rw [hE]; exact (uniq_nodup px m).filter _) (fun x => by
    rw [hE, List.mem_filter]
    constructor
    · exact fun hx => ⟨hs x hx, decide_eq_true hx⟩
    · exact fun hx => of_decide_eq_true hx.2)
  rw [h2, hE]
  exact List.length_filter_le _ _
end Go.Proofs.Ythdilabmajaehaa
