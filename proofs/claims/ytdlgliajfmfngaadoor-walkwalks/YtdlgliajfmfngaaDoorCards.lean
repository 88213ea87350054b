/-
  DERIVED. GIVEN WITH THE SEED: THE CARDS: each row of YtdlgliajfmfngaaDoorRows.lean that lists a variable, with what it lists TIED to the program's text (the seventh form; the later family's looks); each row that meets fmt, with fmt's text TOLD by the authors' own Lean function (tested against real Go, not proved from fmt's source: count such statements apart). THE CARD IS WHAT COUNTS. Prove the row's statement (the work); the ties are given (YtdlgliajfmfngaaDoorTie.lean); close each card by the builder's one call (the guide's Derived/Test/ToyasCard.lean, 'card_holds'). Laid BY PROGRAM, IN A SANDBOX (cutbox-door.mjs). By AI agents, Wed Nov 11 2026. No macro, syntax, notation, axiom, sorry.
-/
import Derived.Test.YtdlgliajfmfngaaDoorRows
import GoSem.ClaimSeven
namespace Go.Proofs.YtdlgliajfmfngaaDoor
namespace Rows

/-- THE TIED CARD OF 'concentriclaw8.WalkWalks'. -/
def walkWalksCard : Claim7 := { stood := { row := walkWalksRow, standIns := [], harness := (true, "c32171a26d0c85e04ac5764c27ced2ab908384792675146bd31430c86ef80fce"), looks := false }, kinds := [], alts := [], laidByText := true, laidKinds := [.data, .pinned], laidTests := true, laidLooks := .later }
def WalkWalksCardSaid : Prop := Claim7.holds Tryd.pinned (.plain (OpenSpec.ofChange walkWalksSpec)) walkWalksCard

/-- THE TIED CARD OF 'concentriclaw8.WalkLinks'. -/
def walkLinksCard : Claim7 := { stood := { row := walkLinksRow, standIns := [], harness := (true, "c32171a26d0c85e04ac5764c27ced2ab908384792675146bd31430c86ef80fce"), looks := false }, kinds := [], alts := [], laidByText := true, laidKinds := [.data, .pinned], laidTests := true, laidLooks := .later }
def WalkLinksCardSaid : Prop := Claim7.holds Tryd.pinned (.plain (OpenSpec.ofChange walkLinksSpec)) walkLinksCard

/-- THE TIED CARD OF 'concentriclaw8.WalkKnown'. -/
def walkKnownCard : Claim7 := { stood := { row := walkKnownRow, standIns := [], harness := (true, "c32171a26d0c85e04ac5764c27ced2ab908384792675146bd31430c86ef80fce"), looks := false }, kinds := [], alts := [], laidByText := true, laidKinds := [.data, .pinned], laidTests := true, laidLooks := .later }
def WalkKnownCardSaid : Prop := Claim7.holds Tryd.pinned (.plain (OpenSpec.ofChange walkKnownSpec)) walkKnownCard

/-- THE TIED CARD OF 'concentriclaw8.WalkSteps'. -/
def walkStepsCard : Claim7 := { stood := { row := walkStepsRow, standIns := [], harness := (true, "c32171a26d0c85e04ac5764c27ced2ab908384792675146bd31430c86ef80fce"), looks := false }, kinds := [], alts := [], laidByText := true, laidKinds := [.data, .pinned], laidTests := true, laidLooks := .later }
def WalkStepsCardSaid : Prop := Claim7.holds Tryd.pinned (.plain (OpenSpec.ofChange walkStepsSpec)) walkStepsCard

/-- THE TIED CARD OF 'concentriclaw8.WalkRoot'. -/
def walkRootCard : Claim7 := { stood := { row := walkRootRow, standIns := [], harness := (true, "c32171a26d0c85e04ac5764c27ced2ab908384792675146bd31430c86ef80fce"), looks := false }, kinds := [], alts := [], laidByText := true, laidKinds := [.data, .pinned], laidTests := true, laidLooks := .later }
def WalkRootCardSaid : Prop := Claim7.holds Tryd.pinned (.plain (OpenSpec.ofChange walkRootSpec)) walkRootCard

/-- THE SECOND FORM's CARD OF 'concentriclaw8.WalkWalks'. -/
def walkWalksUptoCard : Claim7 := { stood := { row := walkWalksUptoRow, standIns := [], harness := (true, "c32171a26d0c85e04ac5764c27ced2ab908384792675146bd31430c86ef80fce"), looks := false }, kinds := [], alts := [], laidByText := true, laidKinds := [.data, .pinned], laidTests := true, laidLooks := .later }
def WalkWalksUptoCardSaid : Prop := Claim7.holds Tryd.pinned (.plain (OpenSpec.upto walkWalksSpec)) walkWalksUptoCard

/-- THE SECOND FORM's CARD OF 'concentriclaw8.WalkLinks'. -/
def walkLinksUptoCard : Claim7 := { stood := { row := walkLinksUptoRow, standIns := [], harness := (true, "c32171a26d0c85e04ac5764c27ced2ab908384792675146bd31430c86ef80fce"), looks := false }, kinds := [], alts := [], laidByText := true, laidKinds := [.data, .pinned], laidTests := true, laidLooks := .later }
def WalkLinksUptoCardSaid : Prop := Claim7.holds Tryd.pinned (.plain (OpenSpec.upto walkLinksSpec)) walkLinksUptoCard

/-- THE SECOND FORM's CARD OF 'concentriclaw8.WalkKnown'. -/
def walkKnownUptoCard : Claim7 := { stood := { row := walkKnownUptoRow, standIns := [], harness := (true, "c32171a26d0c85e04ac5764c27ced2ab908384792675146bd31430c86ef80fce"), looks := false }, kinds := [], alts := [], laidByText := true, laidKinds := [.data, .pinned], laidTests := true, laidLooks := .later }
def WalkKnownUptoCardSaid : Prop := Claim7.holds Tryd.pinned (.plain (OpenSpec.upto walkKnownSpec)) walkKnownUptoCard

/-- THE SECOND FORM's CARD OF 'concentriclaw8.WalkSteps'. -/
def walkStepsUptoCard : Claim7 := { stood := { row := walkStepsUptoRow, standIns := [], harness := (true, "c32171a26d0c85e04ac5764c27ced2ab908384792675146bd31430c86ef80fce"), looks := false }, kinds := [], alts := [], laidByText := true, laidKinds := [.data, .pinned], laidTests := true, laidLooks := .later }
def WalkStepsUptoCardSaid : Prop := Claim7.holds Tryd.pinned (.plain (OpenSpec.upto walkStepsSpec)) walkStepsUptoCard

/-- THE SECOND FORM's CARD OF 'concentriclaw8.WalkRoot'. -/
def walkRootUptoCard : Claim7 := { stood := { row := walkRootUptoRow, standIns := [], harness := (true, "c32171a26d0c85e04ac5764c27ced2ab908384792675146bd31430c86ef80fce"), looks := false }, kinds := [], alts := [], laidByText := true, laidKinds := [.data, .pinned], laidTests := true, laidLooks := .later }
def WalkRootUptoCardSaid : Prop := Claim7.holds Tryd.pinned (.plain (OpenSpec.upto walkRootSpec)) walkRootUptoCard
end Rows
end Go.Proofs.YtdlgliajfmfngaaDoor
