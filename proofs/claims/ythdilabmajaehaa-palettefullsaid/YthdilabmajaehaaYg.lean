/-
  palette: the document's example: awake.
-/
import Derived.Test.YthdilabmajaehaaYf
import Derived.Laws.BytesString
import Derived.Laws.IdiomStrings
namespace Go.Proofs.Ythdilabmajaehaa
open Go.RowKit

/-- Bytes as a string. -/
def strOf (bs : List Nat) : ByteArray := ⟨(bs.map UInt8.ofNat).toArray⟩

theorem str_bys {w : World} {a : Option Addr} {n c : Nat} {ix : List Nat} (h : Bys w a n ix) (hn : 0 < n) : (convert 45 9 (.slice a n c)).run Try.prog w = .ok (.string (strOf ix)) w := by
  obtain ⟨g, o, rfl, hc⟩ := h.at_ hn
  have hl := h.len
  have := run_convert_bytes_back (P := Try.prog) w 45 9 5 ⟨g, o, none⟩ c (ix.map UInt8.ofNat) Try.underlying45 Try.underlying5 Try.underlying9 (fun j hj => by
    have hj' : j < ix.length := by simpa using hj
    have hb := h.small ix[j] (List.getElem_mem hj')
    have h2 := hc j (by omega)
    rw [List.getD_eq_getElem?_getD, List.getElem?_eq_getElem hj'] at h2
    rw [add_none, h2]
    simp
    omega)
  rw [List.length_map, hl] at this
  exact this

theorem OwnP.cols {w : World} {lo n c : Nat} {a : Option Addr} {ls : List (List Nat)} (h : OwnP w lo (.slice a n c) ls) (hg : ∀ x ∈ ls, Good x) : Cols w a n ls :=
  ⟨h.len.symm, hg, fun h0 => by
    have hl := h.len
    obtain ⟨_, _, g, rfl⟩ := h.form (by omega)
    refine ⟨g, 0, rfl, fun k r hk hr => ?_⟩
    rw [Nat.zero_add, Nat.mul_comm]
    exact h.cell (by omega) hr⟩

theorem OwnY.bys {w : World} {lo n c : Nat} {a : Option Addr} {ks : List Nat} (h : OwnY w lo (.slice a n c) ks) (hs : ∀ b ∈ ks, b < 256) : Bys w a n ks := by
  rcases h.2 with ⟨e, h1⟩ | ⟨g, cap, cur, e, hb, hg, h2, h3, h4, h5⟩
  · cases e
    exact ⟨h1, hs, fun h0 => absurd h0 (Nat.lt_irrefl _)⟩
  · cases e
    refine ⟨rfl, hs, fun _ => ⟨g, 0, rfl, fun j hj => ?_⟩⟩
    have h6 := h.cells (g := g) rfl j (.int .u8 ((ks.getD j 0 : Nat) : Int)) (by simp [cellsB, List.getElem?_eq_getElem hj, List.getD_eq_getElem?_getD])
    rw [add_none] at h6
    exact h6

theorem uniq_good {px : List Nat} (h : ∀ b ∈ px, b < 65536) (m : Nat) : ∀ x ∈ uniq px m, Good x := fun x hx => by
  obtain ⟨j, _, rfl⟩ := (mem_uniq px x m).1 hx
  refine ⟨rfl, fun b hb => ?_⟩
  simp only [pix, List.mem_cons, List.not_mem_nil, or_false] at hb
  rcases hb with rfl | rfl | rfl | rfl <;> exact getD_lt h _

/-- The picture of the example. -/
abbrev exP : List Nat := [0, 0, 0, 65535, 0, 0, 0, 0]

theorem ex_facts : fitsG exP 2 = true ∧ uniq exP 2 = [[0, 0, 0, 65535], [0, 0, 0, 0]] ∧ places exP 2 = [0, 1] ∧ clearV (uniq exP 2) = 1 ∧ drawE 2 1 2 [0, 1] = 0 ∧ drawn [[0, 0, 0, 65535], [0, 0, 0, 0]] [0, 1] = exP ∧ sizeE 2 1 = 0 ∧ sameB 2 1 8 exP 2 1 8 exP = true ∧ mayB 2 1 8 = true ∧ bitsV 3 = 2 := by
  refine ⟨by decide +kernel, by decide +kernel, by decide +kernel, by decide +kernel, by decide +kernel, by decide +kernel, by decide +kernel, by decide +kernel, by decide +kernel, by decide +kernel⟩
end Go.Proofs.Ythdilabmajaehaa
