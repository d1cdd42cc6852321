/-
  What came in, as the walks take it: rows of integers.
-/
import Derived.Test.YtdbgolklgiadeaaYn
import Derived.ProofKit
import Derived.OpenShut
import Derived.ShutString
import Derived.ChangeOld
namespace Go.Proofs.Ytdbgolklgiadeaa
open Go.RowKit

theorem own : ownKnob Try.prog.godebug = none := by kernel_rfl
theorem laidOut : laidOutB Try.prog = true := by kernel_rfl

/-- Integers lie in memory. -/
def LiesI (w : World) (a : Option Addr) (l : List Int) : Prop := ∀ j, j < l.length → ∃ ad, a = some ad ∧ w.cell? (ad.add j) = some (.int .i64 (l.getD j 0))

/-- A slice of integers that came in: nil, or a row of 'cap' cells of which the first 'len' are its elements. -/
def IsRow (k : IntKind) (w : World) (a : Option Addr) (len cap : Nat) (zs : List Int) : Prop :=
  (a = none ∧ len = 0 ∧ cap = 0 ∧ zs = []) ∨
  ∃ x, a = some x ∧ len ≤ cap ∧ cap ≤ maxLen ∧ zs.length = cap ∧ (∀ i, i < zs.length → w.cell? (x.add i) = some (.int k (zs.getD i 0))) ∧ ∀ n ∈ zs, (Lit.int k n).wf = true

theorem IsRow.len {k : IntKind} {w : World} {a : Option Addr} {len cap : Nat} {zs : List Int} (h : IsRow k w a len cap zs) : (zs.take len).length = len := by
  rcases h with ⟨_, rfl, _, rfl⟩ | ⟨x, rfl, hl, _, hz, _⟩
  · rfl
  · simp; omega

theorem IsRow.ints {w : World} {a : Option Addr} {len cap : Nat} {zs : List Int} (h : IsRow .i64 w a len cap zs) : LiesI w a (zs.take len) := by
  intro j hj
  rcases h with ⟨rfl, rfl, rfl, rfl⟩ | ⟨x, rfl, hl, hm, hzl, hc, hw⟩
  · simp at hj
  · refine ⟨x, rfl, ?_⟩
    simp only [List.length_take] at hj
    rw [hc j (by omega)]
    simp only [List.getD_eq_getElem?_getD, List.getElem?_take, if_pos (show j < len by omega)]

theorem IsRow.big {k : IntKind} {w : World} {a : Option Addr} {len cap : Nat} {zs : List Int} (h : IsRow k w a len cap zs) : len ≤ maxLen := by
  rcases h with ⟨_, rfl, _, rfl⟩ | ⟨x, rfl, hl, hm, _⟩
  · exact Nat.zero_le _
  · omega

/-- The bytes of such a row. -/
def bytesOf (len : Nat) (zs : List Int) : List Nat := (zs.take len).map Int.toNat

theorem wf_u8 {n : Int} (h : (Lit.int .u8 n).wf = true) : 0 ≤ n ∧ n < 256 := by
  have := bounds_u8 h
  omega

theorem IsRow.bytes {w : World} {a : Option Addr} {len cap : Nat} {zs : List Int} (h : IsRow .u8 w a len cap zs) :
    (bytesOf len zs).length = len ∧ (∀ b ∈ bytesOf len zs, b < 256) ∧ Lies w (.slice a (bytesOf len zs).length cap) (bytesOf len zs) ∧ ((bytesOf len zs) ≠ [] → ∀ ad, a = some ad → ad.block < w.heap.size) := by
  have hlen : (bytesOf len zs).length = len := by simp only [bytesOf, List.length_map]; exact h.len
  refine ⟨hlen, ?_, ?_, ?_⟩
  · intro b hb
    simp only [bytesOf, List.mem_map] at hb
    obtain ⟨z, hz, rfl⟩ := hb
    rcases h with ⟨_, rfl, _, rfl⟩ | ⟨x, rfl, hl, _, hzl, hc, hw⟩
    · simp at hz
    · have := wf_u8 (hw z (List.mem_of_mem_take hz))
      omega
  · rcases h with ⟨rfl, rfl, rfl, rfl⟩ | ⟨x, rfl, hl, hm, hzl, hc, hw⟩
    · exact Or.inl ⟨rfl, rfl⟩
    · refine Or.inr ⟨x, cap, rfl, fun j u hu => ?_⟩
      simp only [cellsOf, bytesOf, List.map_map, List.getElem?_map, Option.map_eq_some_iff] at hu
      obtain ⟨z, hz, rfl⟩ := hu
      rw [List.getElem?_take] at hz
      split at hz
      · have hj : j < zs.length := by
          rcases Nat.lt_or_ge j zs.length with h | h
          · exact h
          · rw [List.getElem?_eq_none h] at hz; cases hz
        have := hw z (List.mem_of_getElem? hz)
        rw [hc j hj, List.getD_eq_getElem?_getD, hz]
        have := wf_u8 this
        simp; omega
      · cases hz
  · intro hne ad e
    rcases h with ⟨rfl, rfl, rfl, rfl⟩ | ⟨x, rfl, hl, hm, hzl, hc, hw⟩
    · cases e
    · cases e
      have hpos : 0 < len := by rw [← hlen]; exact List.length_pos_iff.2 hne
      have := World.block_lt_of_cell? _ _ (hc 0 (by omega))
      simpa [Addr.add] using this
end Go.Proofs.Ytdbgolklgiadeaa
