/-
  DERIVED. GIVEN WITH THE SEED: THE CARDS: each row of YtdnhndiaiejkoaaDoorRows.lean that lists a variable, with what it lists TIED to the program's text (the seventh form; the later family's looks); each row that meets fmt, with fmt's text TOLD by the authors' own Lean function (tested against real Go, not proved from fmt's source: count such statements apart). THE CARD IS WHAT COUNTS. Prove the row's statement (the work); the ties are given (YtdnhndiaiejkoaaDoorTie.lean); close each card by the builder's one call (the guide's Derived/Test/ToyasCard.lean, 'card_holds'). Laid BY PROGRAM, IN A SANDBOX (cutbox-door.mjs). By AI agents, Wed Nov 11 2026. No macro, syntax, notation, axiom, sorry.
-/
import Derived.Test.YtdnhndiaiejkoaaDoorRows
import GoSem.ClaimSeven
namespace Go.Proofs.YtdnhndiaiejkoaaDoor
namespace Rows

/-- THE TIED CARD OF 'engraverlaw13.AdamPasses'. -/
def adamPassesCard : Claim7 := { stood := { row := adamPassesRow, standIns := [], harness := (true, "392d5cbbd6ce28f0f91d618a122e98fda77f1f0855472eb9abe3b7f40eca927b"), looks := false }, kinds := [], alts := [], laidByText := true, laidKinds := [.data], laidTests := true, laidLooks := .later }
def AdamPassesCardSaid : Prop := Claim7.holds Tryd.pinned (.plain (OpenSpec.ofChange adamPassesSpec)) adamPassesCard

/-- THE TIED CARD OF 'engraverlaw13.AdamOnce'. -/
def adamOnceCard : Claim7 := { stood := { row := adamOnceRow, standIns := [], harness := (true, "392d5cbbd6ce28f0f91d618a122e98fda77f1f0855472eb9abe3b7f40eca927b"), looks := false }, kinds := [], alts := [], laidByText := true, laidKinds := [.data], laidTests := true, laidLooks := .later }
def AdamOnceCardSaid : Prop := Claim7.holds Tryd.pinned (.plain (OpenSpec.ofChange adamOnceSpec)) adamOnceCard

/-- THE TIED CARD OF 'engraverlaw13.AdamBytes'. -/
def adamBytesCard : Claim7 := { stood := { row := adamBytesRow, standIns := [], harness := (true, "392d5cbbd6ce28f0f91d618a122e98fda77f1f0855472eb9abe3b7f40eca927b"), looks := false }, kinds := [], alts := [], laidByText := true, laidKinds := [.data], laidTests := true, laidLooks := .later }
def AdamBytesCardSaid : Prop := Claim7.holds Tryd.pinned (.plain (OpenSpec.ofChange adamBytesSpec)) adamBytesCard

/-- THE TIED CARD OF 'engraverlaw13.AdamSums'. -/
def adamSumsCard : Claim7 := { stood := { row := adamSumsRow, standIns := [], harness := (true, "392d5cbbd6ce28f0f91d618a122e98fda77f1f0855472eb9abe3b7f40eca927b"), looks := false }, kinds := [], alts := [], laidByText := true, laidKinds := [.data], laidTests := true, laidLooks := .later }
def AdamSumsCardSaid : Prop := Claim7.holds Tryd.pinned (.plain (OpenSpec.ofChange adamSumsSpec)) adamSumsCard

/-- THE SECOND FORM's CARD OF 'engraverlaw13.AdamPasses'. -/
def adamPassesUptoCard : Claim7 := { stood := { row := adamPassesUptoRow, standIns := [], harness := (true, "392d5cbbd6ce28f0f91d618a122e98fda77f1f0855472eb9abe3b7f40eca927b"), looks := false }, kinds := [], alts := [], laidByText := true, laidKinds := [.data], laidTests := true, laidLooks := .later }
def AdamPassesUptoCardSaid : Prop := Claim7.holds Tryd.pinned (.plain (OpenSpec.upto adamPassesSpec)) adamPassesUptoCard

/-- THE SECOND FORM's CARD OF 'engraverlaw13.AdamOnce'. -/
def adamOnceUptoCard : Claim7 := { stood := { row := adamOnceUptoRow, standIns := [], harness := (true, "392d5cbbd6ce28f0f91d618a122e98fda77f1f0855472eb9abe3b7f40eca927b"), looks := false }, kinds := [], alts := [], laidByText := true, laidKinds := [.data], laidTests := true, laidLooks := .later }
def AdamOnceUptoCardSaid : Prop := Claim7.holds Tryd.pinned (.plain (OpenSpec.upto adamOnceSpec)) adamOnceUptoCard

/-- THE SECOND FORM's CARD OF 'engraverlaw13.AdamBytes'. -/
def adamBytesUptoCard : Claim7 := { stood := { row := adamBytesUptoRow, standIns := [], harness := (true, "392d5cbbd6ce28f0f91d618a122e98fda77f1f0855472eb9abe3b7f40eca927b"), looks := false }, kinds := [], alts := [], laidByText := true, laidKinds := [.data], laidTests := true, laidLooks := .later }
def AdamBytesUptoCardSaid : Prop := Claim7.holds Tryd.pinned (.plain (OpenSpec.upto adamBytesSpec)) adamBytesUptoCard

/-- THE SECOND FORM's CARD OF 'engraverlaw13.AdamSums'. -/
def adamSumsUptoCard : Claim7 := { stood := { row := adamSumsUptoRow, standIns := [], harness := (true, "392d5cbbd6ce28f0f91d618a122e98fda77f1f0855472eb9abe3b7f40eca927b"), looks := false }, kinds := [], alts := [], laidByText := true, laidKinds := [.data], laidTests := true, laidLooks := .later }
def AdamSumsUptoCardSaid : Prop := Claim7.holds Tryd.pinned (.plain (OpenSpec.upto adamSumsSpec)) adamSumsUptoCard
end Rows
end Go.Proofs.YtdnhndiaiejkoaaDoor
