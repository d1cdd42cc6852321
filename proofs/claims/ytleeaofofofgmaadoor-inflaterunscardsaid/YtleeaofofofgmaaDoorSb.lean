/-
  A list of lists of bytes that came in.
-/
import Derived.Test.YtleeaofofofgmaaDoorSa
import Derived.Test.YtleeaofofofgmaaDoorNk
import Derived.Deep.Matrix
namespace Go.Proofs.YtleeaofofofgmaaDoor
open Go.RowKit Go.ChangeShapes Go.WideShapes

/-- A slice of slices of bytes in memory: each cell a slice whose bytes lie there. -/
structure IsRows (w : World) (a : Option Addr) (len : Nat) (ls : List (List Nat)) : Prop where
  n : ls.length = len
  bytes : ∀ x ∈ ls, ∀ b ∈ x, b < 256
  lies : ∀ i, i < len → ∃ ad a' c', a = some ad ∧ w.cell? (ad.add i) = some (.slice a' (ls.getD i []).length c') ∧ Lies w (.slice a' (ls.getD i []).length c') (ls.getD i [])

theorem open_rows {H : Type} {enc : TypeId × Value → H} {W : World} {base : Nat} {held : Bool} {a : Option Addr} {len cap : Nat} {d : DataW H} {ps : List MemPlace}
    (h : DataW.Trod enc Tryd.prog W base (fun _ => true) held 38 (.slice a len cap) d ps) : ∃ ls, IsRows W a len ls := by
  obtain ⟨fuel, hf⟩ := h
  rcases Go.Deep.open_int_rows Tryd.underlying38 Tryd.underlying22 Tryd.underlying5 (by kernel_rfl) (by kernel_rfl) hf with ⟨hcs, _⟩ | ⟨x, l, c, A, L, C, Z, hcs, _, hl, hm, _, hr⟩
  · simp [Value.cells] at hcs
    obtain ⟨rfl, rfl, rfl⟩ := hcs
    exact ⟨[], rfl, by simp, fun i hi => absurd hi (Nat.not_lt_zero _)⟩
  · simp [Value.cells] at hcs
    obtain ⟨rfl, rfl, rfl⟩ := hcs
    have hrow : ∀ i, i < len → IsRow .u8 W (A i) (L i) (C i) (Z i) := by
      intro i hi
      obtain ⟨h1, h2, h3, h4, h5, h6, h7⟩ := hr i (by omega)
      cases hA : A i with
      | none =>
        have := h6 hA
        refine Or.inl ⟨rfl, by omega, this, List.eq_nil_of_length_eq_zero (by omega)⟩
      | some a' => exact Or.inr ⟨a', rfl, h2, h3, h4, fun j hj => (h7 a' hA).2 j (by omega), h5⟩
    have hget : ∀ i, i < len → ((List.range len).map fun r => bytesOf (L r) (Z r)).getD i [] = bytesOf (L i) (Z i) := by
      intro i hi
      simp [List.getD_eq_getElem?_getD, List.getElem?_map, List.getElem?_range hi]
    refine ⟨(List.range len).map fun r => bytesOf (L r) (Z r), by simp, ?_, ?_⟩
    · intro y hy
      simp only [List.mem_map, List.mem_range] at hy
      obtain ⟨i, hi, rfl⟩ := hy
      exact (hrow i hi).bytes.2.1
    · intro i hi
      obtain ⟨b1, b2, b3, _⟩ := (hrow i hi).bytes
      rw [hget i hi]
      exact ⟨x, A i, C i, rfl, by rw [b1]; exact (hr i (by omega)).1, b3⟩
end Go.Proofs.YtleeaofofofgmaaDoor
