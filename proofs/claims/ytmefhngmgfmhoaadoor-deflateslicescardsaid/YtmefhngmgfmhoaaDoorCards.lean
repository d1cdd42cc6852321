/-
  DERIVED. GIVEN WITH THE SEED: THE CARDS: each row of YtmefhngmgfmhoaaDoorRows.lean that lists a variable, with what it lists TIED to the program's text (the seventh form; the later family's looks); each row that meets fmt, with fmt's text TOLD by the authors' own Lean function (tested against real Go, not proved from fmt's source: count such statements apart). THE CARD IS WHAT COUNTS. Prove the row's statement (the work); the ties are given (YtmefhngmgfmhoaaDoorTie.lean); close each card by the builder's one call (the guide's Derived/Test/ToyasCard.lean, 'card_holds'). Laid BY PROGRAM, IN A SANDBOX (cutbox-door.mjs). By AI agents, Wed Nov 11 2026. No macro, syntax, notation, axiom, sorry.
-/
import Derived.Test.YtmefhngmgfmhoaaDoorRows
import GoSem.ClaimSeven
namespace Go.Proofs.YtmefhngmgfmhoaaDoor
namespace Rows

/-- THE TIED CARD OF 'engraverlaw5.DeflateBack'. -/
def deflateBackCard : Claim7 := { stood := { row := deflateBackRow, standIns := [], harness := (true, "25da87623ba374efa5f8a0f890cec34574710987cff2b518fcf39dbb3c3c8db1"), looks := false }, kinds := [], alts := [], laidByText := true, laidKinds := [.data], laidTests := true, laidLooks := .later }
def DeflateBackCardSaid : Prop := Claim7.holds Tryd.pinned (.plain (OpenSpec.ofChange deflateBackSpec)) deflateBackCard

/-- THE TIED CARD OF 'engraverlaw5.DeflateSlices'. -/
def deflateSlicesCard : Claim7 := { stood := { row := deflateSlicesRow, standIns := [], harness := (true, "25da87623ba374efa5f8a0f890cec34574710987cff2b518fcf39dbb3c3c8db1"), looks := false }, kinds := [], alts := [], laidByText := true, laidKinds := [.data], laidTests := true, laidLooks := .later }
def DeflateSlicesCardSaid : Prop := Claim7.holds Tryd.pinned (.plain (OpenSpec.ofChange deflateSlicesSpec)) deflateSlicesCard

/-- THE TIED CARD OF 'engraverlaw5.DeflateSmall'. -/
def deflateSmallCard : Claim7 := { stood := { row := deflateSmallRow, standIns := [], harness := (true, "25da87623ba374efa5f8a0f890cec34574710987cff2b518fcf39dbb3c3c8db1"), looks := false }, kinds := [], alts := [], laidByText := true, laidKinds := [.data], laidTests := true, laidLooks := .later }
def DeflateSmallCardSaid : Prop := Claim7.holds Tryd.pinned (.plain (OpenSpec.ofChange deflateSmallSpec)) deflateSmallCard

/-- THE TIED CARD OF 'engraverlaw5.DeflateLong'. -/
def deflateLongCard : Claim7 := { stood := { row := deflateLongRow, standIns := [], harness := (true, "25da87623ba374efa5f8a0f890cec34574710987cff2b518fcf39dbb3c3c8db1"), looks := false }, kinds := [], alts := [], laidByText := true, laidKinds := [.data], laidTests := true, laidLooks := .later }
def DeflateLongCardSaid : Prop := Claim7.holds Tryd.pinned (.plain (OpenSpec.ofChange deflateLongSpec)) deflateLongCard

/-- THE TIED CARD OF 'engraverlaw5.DeflateSame'. -/
def deflateSameCard : Claim7 := { stood := { row := deflateSameRow, standIns := [], harness := (true, "25da87623ba374efa5f8a0f890cec34574710987cff2b518fcf39dbb3c3c8db1"), looks := false }, kinds := [], alts := [], laidByText := true, laidKinds := [.data], laidTests := true, laidLooks := .later }
def DeflateSameCardSaid : Prop := Claim7.holds Tryd.pinned (.plain (OpenSpec.ofChange deflateSameSpec)) deflateSameCard

/-- THE TIED CARD OF 'engraverlaw5.DeflateNoise'. -/
def deflateNoiseCard : Claim7 := { stood := { row := deflateNoiseRow, standIns := [], harness := (true, "25da87623ba374efa5f8a0f890cec34574710987cff2b518fcf39dbb3c3c8db1"), looks := false }, kinds := [], alts := [], laidByText := true, laidKinds := [.data], laidTests := true, laidLooks := .later }
def DeflateNoiseCardSaid : Prop := Claim7.holds Tryd.pinned (.plain (OpenSpec.ofChange deflateNoiseSpec)) deflateNoiseCard

/-- THE SECOND FORM's CARD OF 'engraverlaw5.DeflateBack'. -/
def deflateBackUptoCard : Claim7 := { stood := { row := deflateBackUptoRow, standIns := [], harness := (true, "25da87623ba374efa5f8a0f890cec34574710987cff2b518fcf39dbb3c3c8db1"), looks := false }, kinds := [], alts := [], laidByText := true, laidKinds := [.data], laidTests := true, laidLooks := .later }
def DeflateBackUptoCardSaid : Prop := Claim7.holds Tryd.pinned (.plain (OpenSpec.upto deflateBackSpec)) deflateBackUptoCard

/-- THE SECOND FORM's CARD OF 'engraverlaw5.DeflateSlices'. -/
def deflateSlicesUptoCard : Claim7 := { stood := { row := deflateSlicesUptoRow, standIns := [], harness := (true, "25da87623ba374efa5f8a0f890cec34574710987cff2b518fcf39dbb3c3c8db1"), looks := false }, kinds := [], alts := [], laidByText := true, laidKinds := [.data], laidTests := true, laidLooks := .later }
def DeflateSlicesUptoCardSaid : Prop := Claim7.holds Tryd.pinned (.plain (OpenSpec.upto deflateSlicesSpec)) deflateSlicesUptoCard

/-- THE SECOND FORM's CARD OF 'engraverlaw5.DeflateSmall'. -/
def deflateSmallUptoCard : Claim7 := { stood := { row := deflateSmallUptoRow, standIns := [], harness := (true, "25da87623ba374efa5f8a0f890cec34574710987cff2b518fcf39dbb3c3c8db1"), looks := false }, kinds := [], alts := [], laidByText := true, laidKinds := [.data], laidTests := true, laidLooks := .later }
def DeflateSmallUptoCardSaid : Prop := Claim7.holds Tryd.pinned (.plain (OpenSpec.upto deflateSmallSpec)) deflateSmallUptoCard

/-- THE SECOND FORM's CARD OF 'engraverlaw5.DeflateLong'. -/
def deflateLongUptoCard : Claim7 := { stood := { row := deflateLongUptoRow, standIns := [], harness := (true, "25da87623ba374efa5f8a0f890cec34574710987cff2b518fcf39dbb3c3c8db1"), looks := false }, kinds := [], alts := [], laidByText := true, laidKinds := [.data], laidTests := true, laidLooks := .later }
def DeflateLongUptoCardSaid : Prop := Claim7.holds Tryd.pinned (.plain (OpenSpec.upto deflateLongSpec)) deflateLongUptoCard

/-- THE SECOND FORM's CARD OF 'engraverlaw5.DeflateSame'. -/
def deflateSameUptoCard : Claim7 := { stood := { row := deflateSameUptoRow, standIns := [], harness := (true, "25da87623ba374efa5f8a0f890cec34574710987cff2b518fcf39dbb3c3c8db1"), looks := false }, kinds := [], alts := [], laidByText := true, laidKinds := [.data], laidTests := true, laidLooks := .later }
def DeflateSameUptoCardSaid : Prop := Claim7.holds Tryd.pinned (.plain (OpenSpec.upto deflateSameSpec)) deflateSameUptoCard

/-- THE SECOND FORM's CARD OF 'engraverlaw5.DeflateNoise'. -/
def deflateNoiseUptoCard : Claim7 := { stood := { row := deflateNoiseUptoRow, standIns := [], harness := (true, "25da87623ba374efa5f8a0f890cec34574710987cff2b518fcf39dbb3c3c8db1"), looks := false }, kinds := [], alts := [], laidByText := true, laidKinds := [.data], laidTests := true, laidLooks := .later }
def DeflateNoiseUptoCardSaid : Prop := Claim7.holds Tryd.pinned (.plain (OpenSpec.upto deflateNoiseSpec)) deflateNoiseUptoCard
end Rows
end Go.Proofs.YtmefhngmgfmhoaaDoor
