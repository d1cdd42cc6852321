/-
  What came in, as the walks take it: a slice of deeds.
-/
import Derived.Test.YtkmgpapopgeldaaX
import Derived.Test.YtkmgpapopgeldaaK
import Derived.Deep.SlicePairs
namespace Go.Proofs.Ytkmgpapopgeldaa
open Go.RowKit

theorem at0_map (len : Nat) (f : Nat → Int × Int) (i : Nat) (h : i < len) : at0 ((List.range len).map f) i = f i := by
  simp [at0, List.getD_eq_getElem?_getD, h]

theorem open_deeds {H : Type} {enc : TypeId × Value → H} {W : World} {base : Nat} {spare : Nat → Bool} {held : Bool} {fuel : Nat} {a0 : Option Addr} {len cap : Nat} {x : DataW H × List MemPlace}
    (h : DataW.trod enc Try.prog W base spare held fuel 23 [.slice a0 len cap] = some x) : ∃ ds : List (Int × Int), ds.length = len ∧ LiesD W (.slice a0 len cap) ds := by
  rcases Deep.open_slice_pairs Try.underlying23 Try.underlying31 (by kernel_rfl) rfl rfl (by kernel_rfl) (by kernel_rfl) h with ⟨hcs, _⟩ | ⟨a, l, c, m, n, V0, V1, D0, D1, P0, P1, hcs, _, hl, hm, hmm, _, hx⟩
  · simp at hcs
    obtain ⟨rfl, rfl, rfl⟩ := hcs
    exact ⟨[], rfl, Or.inl ⟨rfl, rfl⟩⟩
  · simp at hcs
    obtain ⟨rfl, rfl, rfl⟩ := hcs
    have hlm : len ≤ m := by rw [hmm]; split <;> omega
    refine ⟨(List.range len).map fun i => (intOf (V0 i), intOf (V1 i)), by simp, Or.inr ⟨a, cap, by simp, fun i hi => ?_⟩⟩
    have hi' : i < len := by simpa using hi
    obtain ⟨h0, h1, t0, t1⟩ := hx i (by omega)
    obtain ⟨z0, e0, _, _⟩ := DataW.trod_int Try.underlying3 t0
    obtain ⟨z1, e1, _, _⟩ := DataW.trod_int Try.underlying3 t1
    simp at e0 e1
    rw [at0_map _ _ _ hi', h0, h1, e0, e1]
    exact ⟨rfl, rfl⟩

end Go.Proofs.Ytkmgpapopgeldaa
