/-
  DERIVED. GIVEN WITH THE SEED: THE CARDS: each row of YtdpmpllbdoefdaaGreatDoorRows.lean that lists a variable, with what it lists TIED to the program's text (the seventh form; the later family's looks); each row that meets fmt, with fmt's text TOLD by the authors' own Lean function (tested against real Go, not proved from fmt's source: count such statements apart). THE CARD IS WHAT COUNTS. Prove the row's statement (the work); the ties are given (YtdpmpllbdoefdaaGreatDoorTie.lean); close each card by the builder's one call (the guide's Derived/Test/ToyasCard.lean, 'card_holds'). Laid BY PROGRAM, IN A SANDBOX (cutbox-door.mjs). By AI agents, Wed Nov 11 2026. No macro, syntax, notation, axiom, sorry.
-/
import Derived.Test.YtdpmpllbdoefdaaGreatDoorRows
import GoSem.ClaimSeven
namespace Go.Proofs.YtdpmpllbdoefdaaGreatDoor
namespace Rows

/-- THE TIED CARD OF 'engraverlaw6.ZlibOpens'. -/
def zlibOpensCard : Claim7 := { stood := { row := zlibOpensRow, standIns := [], harness := (true, "ca9f0afc9002b6dc60be0fea2c1554bdf665e4b60bc3b7e58cdc3b6c159c91b1"), looks := true }, kinds := [], alts := [], laidByText := true, laidKinds := [.data, .data], laidTests := true, laidLooks := .later }
def ZlibOpensCardSaid : Prop := Claim7.holds Tryz.pinned (.plain (OpenSpec.ofChange zlibOpensSpec)) zlibOpensCard

/-- THE TIED CARD OF 'engraverlaw6.ZlibBack'. -/
def zlibBackCard : Claim7 := { stood := { row := zlibBackRow, standIns := [], harness := (true, "ca9f0afc9002b6dc60be0fea2c1554bdf665e4b60bc3b7e58cdc3b6c159c91b1"), looks := true }, kinds := [], alts := [], laidByText := true, laidKinds := [.data, .data], laidTests := true, laidLooks := .later }
def ZlibBackCardSaid : Prop := Claim7.holds Tryz.pinned (.plain (OpenSpec.ofChange zlibBackSpec)) zlibBackCard

/-- THE TIED CARD OF 'engraverlaw6.ZlibSum'. -/
def zlibSumCard : Claim7 := { stood := { row := zlibSumRow, standIns := [], harness := (true, "ca9f0afc9002b6dc60be0fea2c1554bdf665e4b60bc3b7e58cdc3b6c159c91b1"), looks := true }, kinds := [], alts := [], laidByText := true, laidKinds := [.data, .data], laidTests := true, laidLooks := .later }
def ZlibSumCardSaid : Prop := Claim7.holds Tryz.pinned (.plain (OpenSpec.ofChange zlibSumSpec)) zlibSumCard

/-- THE TIED CARD OF 'engraverlaw6.ZlibHead'. -/
def zlibHeadCard : Claim7 := { stood := { row := zlibHeadRow, standIns := [], harness := (true, "ca9f0afc9002b6dc60be0fea2c1554bdf665e4b60bc3b7e58cdc3b6c159c91b1"), looks := true }, kinds := [], alts := [], laidByText := true, laidKinds := [.data, .data], laidTests := true, laidLooks := .later }
def ZlibHeadCardSaid : Prop := Claim7.holds Tryz.pinned (.plain (OpenSpec.ofChange zlibHeadSpec)) zlibHeadCard

/-- THE SECOND FORM's CARD OF 'engraverlaw6.ZlibOpens'. -/
def zlibOpensUptoCard : Claim7 := { stood := { row := zlibOpensUptoRow, standIns := [], harness := (true, "ca9f0afc9002b6dc60be0fea2c1554bdf665e4b60bc3b7e58cdc3b6c159c91b1"), looks := true }, kinds := [], alts := [], laidByText := true, laidKinds := [.data, .data], laidTests := true, laidLooks := .later }
def ZlibOpensUptoCardSaid : Prop := Claim7.holds Tryz.pinned (.plain (OpenSpec.upto zlibOpensSpec)) zlibOpensUptoCard

/-- THE SECOND FORM's CARD OF 'engraverlaw6.ZlibBack'. -/
def zlibBackUptoCard : Claim7 := { stood := { row := zlibBackUptoRow, standIns := [], harness := (true, "ca9f0afc9002b6dc60be0fea2c1554bdf665e4b60bc3b7e58cdc3b6c159c91b1"), looks := true }, kinds := [], alts := [], laidByText := true, laidKinds := [.data, .data], laidTests := true, laidLooks := .later }
def ZlibBackUptoCardSaid : Prop := Claim7.holds Tryz.pinned (.plain (OpenSpec.upto zlibBackSpec)) zlibBackUptoCard

/-- THE SECOND FORM's CARD OF 'engraverlaw6.ZlibSum'. -/
def zlibSumUptoCard : Claim7 := { stood := { row := zlibSumUptoRow, standIns := [], harness := (true, "ca9f0afc9002b6dc60be0fea2c1554bdf665e4b60bc3b7e58cdc3b6c159c91b1"), looks := true }, kinds := [], alts := [], laidByText := true, laidKinds := [.data, .data], laidTests := true, laidLooks := .later }
def ZlibSumUptoCardSaid : Prop := Claim7.holds Tryz.pinned (.plain (OpenSpec.upto zlibSumSpec)) zlibSumUptoCard

/-- THE SECOND FORM's CARD OF 'engraverlaw6.ZlibHead'. -/
def zlibHeadUptoCard : Claim7 := { stood := { row := zlibHeadUptoRow, standIns := [], harness := (true, "ca9f0afc9002b6dc60be0fea2c1554bdf665e4b60bc3b7e58cdc3b6c159c91b1"), looks := true }, kinds := [], alts := [], laidByText := true, laidKinds := [.data, .data], laidTests := true, laidLooks := .later }
def ZlibHeadUptoCardSaid : Prop := Claim7.holds Tryz.pinned (.plain (OpenSpec.upto zlibHeadSpec)) zlibHeadUptoCard
end Rows
end Go.Proofs.YtdpmpllbdoefdaaGreatDoor
