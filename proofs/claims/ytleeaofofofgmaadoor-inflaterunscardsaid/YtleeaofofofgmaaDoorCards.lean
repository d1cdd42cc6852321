/-
  DERIVED. GIVEN WITH THE SEED: THE CARDS: each row of YtleeaofofofgmaaDoorRows.lean that lists a variable, with what it lists TIED to the program's text (the seventh form; the later family's looks); each row that meets fmt, with fmt's text TOLD by the authors' own Lean function (tested against real Go, not proved from fmt's source: count such statements apart). THE CARD IS WHAT COUNTS. Prove the row's statement (the work); the ties are given (YtleeaofofofgmaaDoorTie.lean); close each card by the builder's one call (the guide's Derived/Test/ToyasCard.lean, 'card_holds'). Laid BY PROGRAM, IN A SANDBOX (cutbox-door.mjs). By AI agents, Wed Nov 11 2026. No macro, syntax, notation, axiom, sorry.
-/
import Derived.Test.YtleeaofofofgmaaDoorRows
import GoSem.ClaimSeven
namespace Go.Proofs.YtleeaofofofgmaaDoor
namespace Rows

/-- THE TIED CARD OF 'engraverlaw4.InflateReads'. -/
def inflateReadsCard : Claim7 := { stood := { row := inflateReadsRow, standIns := [], harness := (true, "7a7a7c84bfde3816070872d6c7f1860c2368c1274199bfcc432cd84951083095"), looks := true }, kinds := [], alts := [], laidByText := true, laidKinds := [.data], laidTests := true, laidLooks := .later }
def InflateReadsCardSaid : Prop := Claim7.holds Tryd.pinned (.plain (OpenSpec.ofChange inflateReadsSpec)) inflateReadsCard

/-- THE TIED CARD OF 'engraverlaw4.InflateSlices'. -/
def inflateSlicesCard : Claim7 := { stood := { row := inflateSlicesRow, standIns := [], harness := (true, "7a7a7c84bfde3816070872d6c7f1860c2368c1274199bfcc432cd84951083095"), looks := true }, kinds := [], alts := [], laidByText := true, laidKinds := [.data], laidTests := true, laidLooks := .later }
def InflateSlicesCardSaid : Prop := Claim7.holds Tryd.pinned (.plain (OpenSpec.ofChange inflateSlicesSpec)) inflateSlicesCard

/-- THE TIED CARD OF 'engraverlaw4.InflateStored'. -/
def inflateStoredCard : Claim7 := { stood := { row := inflateStoredRow, standIns := [], harness := (true, "7a7a7c84bfde3816070872d6c7f1860c2368c1274199bfcc432cd84951083095"), looks := true }, kinds := [], alts := [], laidByText := true, laidKinds := [.data], laidTests := true, laidLooks := .later }
def InflateStoredCardSaid : Prop := Claim7.holds Tryd.pinned (.plain (OpenSpec.ofChange inflateStoredSpec)) inflateStoredCard

/-- THE TIED CARD OF 'engraverlaw4.InflateRuns'. -/
def inflateRunsCard : Claim7 := { stood := { row := inflateRunsRow, standIns := [], harness := (true, "7a7a7c84bfde3816070872d6c7f1860c2368c1274199bfcc432cd84951083095"), looks := true }, kinds := [], alts := [], laidByText := true, laidKinds := [.data], laidTests := true, laidLooks := .later }
def InflateRunsCardSaid : Prop := Claim7.holds Tryd.pinned (.plain (OpenSpec.ofChange inflateRunsSpec)) inflateRunsCard

/-- THE TIED CARD OF 'engraverlaw4.InflateCuts'. -/
def inflateCutsCard : Claim7 := { stood := { row := inflateCutsRow, standIns := [], harness := (true, "7a7a7c84bfde3816070872d6c7f1860c2368c1274199bfcc432cd84951083095"), looks := true }, kinds := [], alts := [], laidByText := true, laidKinds := [.data], laidTests := true, laidLooks := .later }
def InflateCutsCardSaid : Prop := Claim7.holds Tryd.pinned (.plain (OpenSpec.ofChange inflateCutsSpec)) inflateCutsCard

/-- THE TIED CARD OF 'engraverlaw4.InflateRoom'. -/
def inflateRoomCard : Claim7 := { stood := { row := inflateRoomRow, standIns := [], harness := (true, "7a7a7c84bfde3816070872d6c7f1860c2368c1274199bfcc432cd84951083095"), looks := true }, kinds := [], alts := [], laidByText := true, laidKinds := [.data], laidTests := true, laidLooks := .later }
def InflateRoomCardSaid : Prop := Claim7.holds Tryd.pinned (.plain (OpenSpec.ofChange inflateRoomSpec)) inflateRoomCard

/-- THE TIED CARD OF 'engraverlaw4.InflateKnown'. -/
def inflateKnownCard : Claim7 := { stood := { row := inflateKnownRow, standIns := [], harness := (true, "7a7a7c84bfde3816070872d6c7f1860c2368c1274199bfcc432cd84951083095"), looks := true }, kinds := [], alts := [], laidByText := true, laidKinds := [.data], laidTests := true, laidLooks := .later }
def InflateKnownCardSaid : Prop := Claim7.holds Tryd.pinned (.plain (OpenSpec.ofChange inflateKnownSpec)) inflateKnownCard

/-- THE SECOND FORM's CARD OF 'engraverlaw4.InflateReads'. -/
def inflateReadsUptoCard : Claim7 := { stood := { row := inflateReadsUptoRow, standIns := [], harness := (true, "7a7a7c84bfde3816070872d6c7f1860c2368c1274199bfcc432cd84951083095"), looks := true }, kinds := [], alts := [], laidByText := true, laidKinds := [.data], laidTests := true, laidLooks := .later }
def InflateReadsUptoCardSaid : Prop := Claim7.holds Tryd.pinned (.plain (OpenSpec.upto inflateReadsSpec)) inflateReadsUptoCard

/-- THE SECOND FORM's CARD OF 'engraverlaw4.InflateSlices'. -/
def inflateSlicesUptoCard : Claim7 := { stood := { row := inflateSlicesUptoRow, standIns := [], harness := (true, "7a7a7c84bfde3816070872d6c7f1860c2368c1274199bfcc432cd84951083095"), looks := true }, kinds := [], alts := [], laidByText := true, laidKinds := [.data], laidTests := true, laidLooks := .later }
def InflateSlicesUptoCardSaid : Prop := Claim7.holds Tryd.pinned (.plain (OpenSpec.upto inflateSlicesSpec)) inflateSlicesUptoCard

/-- THE SECOND FORM's CARD OF 'engraverlaw4.InflateStored'. -/
def inflateStoredUptoCard : Claim7 := { stood := { row := inflateStoredUptoRow, standIns := [], harness := (true, "7a7a7c84bfde3816070872d6c7f1860c2368c1274199bfcc432cd84951083095"), looks := true }, kinds := [], alts := [], laidByText := true, laidKinds := [.data], laidTests := true, laidLooks := .later }
def InflateStoredUptoCardSaid : Prop := Claim7.holds Tryd.pinned (.plain (OpenSpec.upto inflateStoredSpec)) inflateStoredUptoCard

/-- THE SECOND FORM's CARD OF 'engraverlaw4.InflateRuns'. -/
def inflateRunsUptoCard : Claim7 := { stood := { row := inflateRunsUptoRow, standIns := [], harness := (true, "7a7a7c84bfde3816070872d6c7f1860c2368c1274199bfcc432cd84951083095"), looks := true }, kinds := [], alts := [], laidByText := true, laidKinds := [.data], laidTests := true, laidLooks := .later }
def InflateRunsUptoCardSaid : Prop := Claim7.holds Tryd.pinned (.plain (OpenSpec.upto inflateRunsSpec)) inflateRunsUptoCard

/-- THE SECOND FORM's CARD OF 'engraverlaw4.InflateCuts'. -/
def inflateCutsUptoCard : Claim7 := { stood := { row := inflateCutsUptoRow, standIns := [], harness := (true, "7a7a7c84bfde3816070872d6c7f1860c2368c1274199bfcc432cd84951083095"), looks := true }, kinds := [], alts := [], laidByText := true, laidKinds := [.data], laidTests := true, laidLooks := .later }
def InflateCutsUptoCardSaid : Prop := Claim7.holds Tryd.pinned (.plain (OpenSpec.upto inflateCutsSpec)) inflateCutsUptoCard

/-- THE SECOND FORM's CARD OF 'engraverlaw4.InflateRoom'. -/
def inflateRoomUptoCard : Claim7 := { stood := { row := inflateRoomUptoRow, standIns := [], harness := (true, "7a7a7c84bfde3816070872d6c7f1860c2368c1274199bfcc432cd84951083095"), looks := true }, kinds := [], alts := [], laidByText := true, laidKinds := [.data], laidTests := true, laidLooks := .later }
def InflateRoomUptoCardSaid : Prop := Claim7.holds Tryd.pinned (.plain (OpenSpec.upto inflateRoomSpec)) inflateRoomUptoCard

/-- THE SECOND FORM's CARD OF 'engraverlaw4.InflateKnown'. -/
def inflateKnownUptoCard : Claim7 := { stood := { row := inflateKnownUptoRow, standIns := [], harness := (true, "7a7a7c84bfde3816070872d6c7f1860c2368c1274199bfcc432cd84951083095"), looks := true }, kinds := [], alts := [], laidByText := true, laidKinds := [.data], laidTests := true, laidLooks := .later }
def InflateKnownUptoCardSaid : Prop := Claim7.holds Tryd.pinned (.plain (OpenSpec.upto inflateKnownSpec)) inflateKnownUptoCard
end Rows
end Go.Proofs.YtleeaofofofgmaaDoor
