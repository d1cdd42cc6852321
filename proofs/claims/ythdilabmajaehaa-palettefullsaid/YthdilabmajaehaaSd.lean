/-
  raster: the document's At, where there is a pixel.
-/
import Derived.Test.YthdilabmajaehaaSc
namespace Go.Proofs.Ythdilabmajaehaa
open Go.RowKit

theorem Fr.drew1 (S : Nat → Prop) (w : World) : Fr S w w.drew := (Fr.of_drewN w 1).mono fun _ _ h => h.elim

theorem setRow_fr (w : World) (g : Nat) (cs : Array Value) : Fr (fun j => j = g) w (w.setRow g cs) := ⟨rfl, rfl, rfl, by simp [World.setRow], fun j _ hj => setRow_other _ _ _ _ hj⟩

end Go.Proofs.Ythdilabmajaehaa
