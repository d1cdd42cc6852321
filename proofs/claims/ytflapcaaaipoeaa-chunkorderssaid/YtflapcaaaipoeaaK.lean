/-
  What came in, as the walks take it: rows of integers as bytes and as ints; what a law owes where it has too much to do.
-/
import Derived.Test.YtflapcaaaipoeaaC
import Derived.ProofKit
import Derived.OpenShut
import Derived.ShutString
import Derived.ChangeOld
namespace Go.Proofs.Ytflapcaaaipoeaa
open Go.RowKit

theorem own : ownKnob Try.prog.godebug = none := by kernel_rfl
theorem laidOut : laidOutB Try.prog = true := by kernel_rfl

/-- A slice of integers that came in: nil, or a row of 'cap' cells of which the first 'len' are its elements. -/
def IsRow (k : IntKind) (w : World) (a : Option Addr) (len cap : Nat) (zs : List Int) : Prop :=
  (a = none ∧ len = 0 ∧ cap = 0 ∧ zs = []) ∨
  ∃ x, a = some x ∧ len ≤ cap ∧ cap ≤ maxLen ∧ zs.length = cap ∧ (∀ i, i < zs.length → w.cell? (x.add i) = some (.int k (zs.getD i 0))) ∧ ∀ n ∈ zs, (Lit.int k n).wf = true

/-- The bytes of such a row. -/
def bytesOf (len : Nat) (zs : List Int) : List Nat := (zs.take len).map Int.toNat

theorem wf_u8 {n : Int} (h : (Lit.int .u8 n).wf = true) : 0 ≤ n ∧ n < 256 := by
  have := bounds_u8 h
  omega

theorem IsRow.len {k : IntKind} {w : World} {a : Option Addr} {len cap : Nat} {zs : List Int} (h : IsRow k w a len cap zs) : (zs.take len).length = len := by
  rcases h with ⟨_, rfl, _, rfl⟩ | ⟨x, rfl, hl, _, hz, _⟩
  · rfl
  · simp; omega

theorem IsRow.bytes {w : World} {a : Option Addr} {len cap : Nat} {zs : List Int} (h : IsRow .u8 w a len cap zs) :
    (bytesOf len zs).length = len ∧ Lies w a (bytesOf len zs) := by
  have hlen : (bytesOf len zs).length = len := by simp only [bytesOf, List.length_map]; exact h.len
  refine ⟨hlen, ?_, ?_⟩
  · intro b hb
    simp only [bytesOf, List.mem_map] at hb
    obtain ⟨z, hz, rfl⟩ := hb
    rcases h with ⟨_, rfl, _, rfl⟩ | ⟨x, rfl, hl, _, hzl, hc, hw⟩
    · simp at hz
    · have := wf_u8 (hw z (List.mem_of_mem_take hz))
      omega
  · intro j hj
    rw [hlen] at hj
    rcases h with ⟨rfl, rfl, rfl, rfl⟩ | ⟨x, rfl, hl, hm, hzl, hc, hw⟩
    · omega
    · refine ⟨x, rfl, ?_⟩
      have hjz : j < zs.length := by omega
      rw [hc j hjz]
      have h1 := wf_u8 (hw _ (List.getElem_mem hjz))
      simp only [bytesOf, List.getD_eq_getElem?_getD, List.getElem?_map, List.getElem?_take, if_pos hj, List.getElem?_eq_getElem hjz, Option.map_some, Option.getD_some]
      rw [Int.toNat_of_nonneg h1.1]

end Go.Proofs.Ytflapcaaaipoeaa
