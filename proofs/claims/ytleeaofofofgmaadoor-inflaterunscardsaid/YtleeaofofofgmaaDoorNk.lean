/-
  Rows of arguments; what the program's laid variable gives.
-/
import Derived.Test.YtleeaofofofgmaaDoorNd
import Derived.Test.YtleeaofofofgmaaDoorTie
import Derived.ProofKit
import Derived.LaidMore
import Derived.OpenShut
import Derived.Stop.Joined
namespace Go.Proofs.YtleeaofofofgmaaDoor
open Go.ChangeShapes Go.WideShapes Go.ChangeAt Go.RowKit

theorem own' : ownKnob Tryd.prog.godebug = none := by kernel_rfl
theorem laidOut : laidOutB Tryd.prog = true := by kernel_rfl
theorem gOrd : Tryd.prog.globalNamed "engraver/inflate.lengthOrder" = some 0 := by kernel_rfl
theorem tOrd : (Tryd.prog.globals[0]?).map (·.type) = some 111 := by kernel_rfl

abbrev laidL {H : Type} : List (String × DataW H) := [("engraver/inflate.lengthOrder", Rows.laid_engraver_inflate_lengthOrder)]

theorem door_met (os : Os) (args : Array Value) : laidMetH Tryd.prog laidL ((World.doorLaid Tryd.prog 400 os).forCall (fun _ _ => 0) ⟨#[], args, []⟩).memory :=
  laidMetH_of_parts3 (fuel := 8) (laidMet_of_run' 8 (by kernel_rfl) (by kernel_rfl)) (by kernel_rfl) (by kernel_rfl)

theorem of_laid {W : World} (h : laidMetH Tryd.prog laidL W) : Gw W := by
  rw [MakeChecks.laidMetH_plain _ _ _ (by kernel_rfl)] at h
  obtain ⟨ps, ⟨g0, t0, cs0, f0, p0, q0, hg0, ht0, hv0, hd0, _, _⟩, _, _⟩ := h
  obtain rfl := Option.some.inj (gOrd.symm.trans hg0)
  obtain rfl := Option.some.inj (tOrd.symm.trans ht0)
  obtain ⟨xs, m1, rfl, hx1, hlen, hn3, hel⟩ := DataW.trod_array Tryd.underlying111 hd0
  have c3 : Tryd.prog.cellsOf 3 = 1 := by kernel_rfl
  simp only [Prod.mk.injEq] at hx1
  have key : ∀ i, i < 19 → W.cell? ⟨0, i, none⟩ = some (.int .i64 ((order.getD i 0 : Nat) : Int)) := by
    intro i hi
    have h1 := hel i hi
    obtain ⟨y, hy⟩ : ∃ y, xs[i]? = some y := ⟨_, List.getElem?_eq_getElem (by omega)⟩
    rw [hy] at h1
    obtain ⟨k, e1, e2, _⟩ := DataW.trod_int Tryd.underlying3 h1
    rw [c3, Nat.mul_one] at e1
    have hm : (xs.map fun x => x.fst)[i]? = some (.lit (.int .i64 k)) := by
      rw [List.getElem?_map, hy, e2]
      rfl
    have hl : ∃ l : List (DataW Unit), Rows.laid_engraver_inflate_lengthOrder = DataW.agg l ∧ l[i]? = some (.lit (.int .i64 ((order.getD i 0 : Nat) : Int))) := by
      refine ⟨_, rfl, ?_⟩
      have all : ∀ j : Fin 19, (order.map fun (n : Nat) => (DataW.lit (.int .i64 (n : Int)) : DataW Unit))[j.1]? = some (.lit (.int .i64 ((order.getD j.1 0 : Nat) : Int))) := by
        intro j
        have hj : j.1 < order.length := j.2
        rw [List.getElem?_map, List.getElem?_eq_getElem hj, List.getD_eq_getElem?_getD, List.getElem?_eq_getElem hj]
        rfl
      exact all ⟨i, hi⟩
    obtain ⟨l, hl1, hl2⟩ := hl
    rw [hl1] at hx1
    have hll : l = xs.map fun x => x.fst := by simpa using hx1.1
    rw [hll, hm] at hl2
    have hk : k = ((order.getD i 0 : Nat) : Int) := by simpa using hl2
    have hv := World.var?_cell hg0 hv0 i
    rw [hv]
    have : cs0.toList[i]? = some (.int .i64 k) := by
      have h2 : (List.take 1 (List.drop i cs0.toList))[0]? = some (.int .i64 k) := by rw [e1]; rfl
      rw [List.getElem?_take, if_pos (by decide), List.getElem?_drop] at h2
      exact h2
    rw [← Array.getElem?_toList, this, hk]
  exact ⟨key, cell_lt (key 0 (by decide))⟩
/-- A slice of integers that came in: nil, or a row of 'cap' cells of which the first 'len' are its elements. -/
def IsRow (k : IntKind) (w : World) (a : Option Addr) (len cap : Nat) (zs : List Int) : Prop :=
  (a = none ∧ len = 0 ∧ cap = 0 ∧ zs = []) ∨
  ∃ x, a = some x ∧ len ≤ cap ∧ cap ≤ maxLen ∧ zs.length = cap ∧ (∀ i, i < zs.length → w.cell? (x.add i) = some (.int k (zs.getD i 0))) ∧ ∀ n ∈ zs, (Lit.int k n).wf = true

theorem IsRow.len {k : IntKind} {w : World} {a : Option Addr} {len cap : Nat} {zs : List Int} (h : IsRow k w a len cap zs) : (zs.take len).length = len := by
  rcases h with ⟨_, rfl, _, rfl⟩ | ⟨x, rfl, hl, _, hz, _⟩
  · rfl
  · simp; omega

theorem IsRow.ints {w : World} {a : Option Addr} {len cap : Nat} {zs : List Int} (h : IsRow .i64 w a len cap zs) : LiesI w a (zs.take len) := by
  intro j hj
  rcases h with ⟨rfl, rfl, rfl, rfl⟩ | ⟨x, rfl, hl, hm, hzl, hc, hw⟩
  · simp at hj
  · refine ⟨x, rfl, ?_⟩
    simp only [List.length_take] at hj
    rw [hc j (by omega)]
    simp only [at0, List.getD_eq_getElem?_getD, List.getElem?_take, if_pos (show j < len by omega)]

theorem IsRow.big {k : IntKind} {w : World} {a : Option Addr} {len cap : Nat} {zs : List Int} (h : IsRow k w a len cap zs) : len ≤ maxLen := by
  rcases h with ⟨_, rfl, _, rfl⟩ | ⟨x, rfl, hl, hm, _⟩
  · exact Nat.zero_le _
  · omega

/-- The bytes of such a row. -/
def bytesOf (len : Nat) (zs : List Int) : List Nat := (zs.take len).map Int.toNat

theorem wf_u8 {n : Int} (h : (Lit.int .u8 n).wf = true) : 0 ≤ n ∧ n < 256 := by
  have := bounds_u8 h
  omega

theorem IsRow.bytes {w : World} {a : Option Addr} {len cap : Nat} {zs : List Int} (h : IsRow .u8 w a len cap zs) :
    (bytesOf len zs).length = len ∧ (∀ b ∈ bytesOf len zs, b < 256) ∧ Lies w (.slice a (bytesOf len zs).length cap) (bytesOf len zs) ∧ ((bytesOf len zs) ≠ [] → ∀ ad, a = some ad → ad.block < w.heap.size) := by
  have hlen : (bytesOf len zs).length = len := by simp only [bytesOf, List.length_map]; exact h.len
  refine ⟨hlen, ?_, ?_, ?_⟩
  · intro b hb
    simp only [bytesOf, List.mem_map] at hb
    obtain ⟨z, hz, rfl⟩ := hb
    rcases h with ⟨_, rfl, _, rfl⟩ | ⟨x, rfl, hl, _, hzl, hc, hw⟩
    · simp at hz
    · have := wf_u8 (hw z (List.mem_of_mem_take hz))
      omega
  · rcases h with ⟨rfl, rfl, rfl, rfl⟩ | ⟨x, rfl, hl, hm, hzl, hc, hw⟩
    · exact Or.inl ⟨rfl, rfl⟩
    · refine Or.inr ⟨x, cap, rfl, fun j u hu => ?_⟩
      simp only [cellsOf, bytesOf, List.map_map, List.getElem?_map, Option.map_eq_some_iff] at hu
      obtain ⟨z, hz, rfl⟩ := hu
      rw [List.getElem?_take] at hz
      split at hz
      · have hj : j < zs.length := by
          rcases Nat.lt_or_ge j zs.length with h | h
          · exact h
          · rw [List.getElem?_eq_none h] at hz; cases hz
        have := hw z (List.mem_of_getElem? hz)
        rw [hc j hj, List.getD_eq_getElem?_getD, hz]
        have := wf_u8 this
        simp; omega
      · cases hz
  · intro hne ad e
    rcases h with ⟨rfl, rfl, rfl, rfl⟩ | ⟨x, rfl, hl, hm, hzl, hc, hw⟩
    · cases e
    · cases e
      have hpos : 0 < len := by rw [← hlen]; exact List.length_pos_iff.2 hne
      have := World.block_lt_of_cell? _ _ (hc 0 (by omega))
      simpa [Addr.add] using this
end Go.Proofs.YtleeaofofofgmaaDoor
