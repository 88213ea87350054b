/-
  DERIVED. GIVEN WITH THE SEED: THE CARDS: each row of YtknfiepbibaklaaDoorRows.lean that lists a variable, with what it lists TIED to the program's text (the seventh form; the later family's looks); each row that meets fmt, with fmt's text TOLD by the authors' own Lean function (tested against real Go, not proved from fmt's source: count such statements apart). THE CARD IS WHAT COUNTS. Prove the row's statement (the work); the ties are given (YtknfiepbibaklaaDoorTie.lean); close each card by the builder's one call (the guide's Derived/Test/ToyasCard.lean, 'card_holds'). Laid BY PROGRAM, IN A SANDBOX (cutbox-door.mjs). By AI agents, Wed Nov 11 2026. No macro, syntax, notation, axiom, sorry.
-/
import Derived.Test.YtknfiepbibaklaaDoorRows
import GoSem.ClaimSeven
namespace Go.Proofs.YtknfiepbibaklaaDoor
namespace Rows

/-- THE TIED CARD OF 'concentriclaw11.SdwOf'. -/
def sdwOfCard : Claim7 := { stood := { row := sdwOfRow, standIns := [], harness := (true, "67306b0e08de09fb206789c1f3f30f640e5ad61b8984de8c7278214c8b3c7dd8"), looks := false }, kinds := [], alts := [], laidByText := true, laidKinds := [.data, .pinned], laidTests := true, laidLooks := .later }
def SdwOfCardSaid : Prop := Claim7.holds Tryd.pinned (.plain (OpenSpec.ofChange sdwOfSpec)) sdwOfCard

/-- THE TIED CARD OF 'concentriclaw11.SdwNow'. -/
def sdwNowCard : Claim7 := { stood := { row := sdwNowRow, standIns := [], harness := (true, "67306b0e08de09fb206789c1f3f30f640e5ad61b8984de8c7278214c8b3c7dd8"), looks := false }, kinds := [], alts := [], laidByText := true, laidKinds := [.data, .pinned], laidTests := true, laidLooks := .later }
def SdwNowCardSaid : Prop := Claim7.holds Tryd.pinned (.plain (OpenSpec.ofChange sdwNowSpec)) sdwNowCard

/-- THE TIED CARD OF 'concentriclaw11.SdwKnown'. -/
def sdwKnownCard : Claim7 := { stood := { row := sdwKnownRow, standIns := [], harness := (true, "67306b0e08de09fb206789c1f3f30f640e5ad61b8984de8c7278214c8b3c7dd8"), looks := false }, kinds := [], alts := [], laidByText := true, laidKinds := [.data, .pinned], laidTests := true, laidLooks := .later }
def SdwKnownCardSaid : Prop := Claim7.holds Tryd.pinned (.plain (OpenSpec.ofChange sdwKnownSpec)) sdwKnownCard

/-- THE TIED CARD OF 'concentriclaw11.SdwRings'. -/
def sdwRingsCard : Claim7 := { stood := { row := sdwRingsRow, standIns := [], harness := (true, "67306b0e08de09fb206789c1f3f30f640e5ad61b8984de8c7278214c8b3c7dd8"), looks := false }, kinds := [], alts := [], laidByText := true, laidKinds := [.data, .pinned], laidTests := true, laidLooks := .later }
def SdwRingsCardSaid : Prop := Claim7.holds Tryd.pinned (.plain (OpenSpec.ofChange sdwRingsSpec)) sdwRingsCard

/-- THE SECOND FORM's CARD OF 'concentriclaw11.SdwOf'. -/
def sdwOfUptoCard : Claim7 := { stood := { row := sdwOfUptoRow, standIns := [], harness := (true, "67306b0e08de09fb206789c1f3f30f640e5ad61b8984de8c7278214c8b3c7dd8"), looks := false }, kinds := [], alts := [], laidByText := true, laidKinds := [.data, .pinned], laidTests := true, laidLooks := .later }
def SdwOfUptoCardSaid : Prop := Claim7.holds Tryd.pinned (.plain (OpenSpec.upto sdwOfSpec)) sdwOfUptoCard

/-- THE SECOND FORM's CARD OF 'concentriclaw11.SdwNow'. -/
def sdwNowUptoCard : Claim7 := { stood := { row := sdwNowUptoRow, standIns := [], harness := (true, "67306b0e08de09fb206789c1f3f30f640e5ad61b8984de8c7278214c8b3c7dd8"), looks := false }, kinds := [], alts := [], laidByText := true, laidKinds := [.data, .pinned], laidTests := true, laidLooks := .later }
def SdwNowUptoCardSaid : Prop := Claim7.holds Tryd.pinned (.plain (OpenSpec.upto sdwNowSpec)) sdwNowUptoCard

/-- THE SECOND FORM's CARD OF 'concentriclaw11.SdwKnown'. -/
def sdwKnownUptoCard : Claim7 := { stood := { row := sdwKnownUptoRow, standIns := [], harness := (true, "67306b0e08de09fb206789c1f3f30f640e5ad61b8984de8c7278214c8b3c7dd8"), looks := false }, kinds := [], alts := [], laidByText := true, laidKinds := [.data, .pinned], laidTests := true, laidLooks := .later }
def SdwKnownUptoCardSaid : Prop := Claim7.holds Tryd.pinned (.plain (OpenSpec.upto sdwKnownSpec)) sdwKnownUptoCard

/-- THE SECOND FORM's CARD OF 'concentriclaw11.SdwRings'. -/
def sdwRingsUptoCard : Claim7 := { stood := { row := sdwRingsUptoRow, standIns := [], harness := (true, "67306b0e08de09fb206789c1f3f30f640e5ad61b8984de8c7278214c8b3c7dd8"), looks := false }, kinds := [], alts := [], laidByText := true, laidKinds := [.data, .pinned], laidTests := true, laidLooks := .later }
def SdwRingsUptoCardSaid : Prop := Claim7.holds Tryd.pinned (.plain (OpenSpec.upto sdwRingsSpec)) sdwRingsUptoCard
end Rows
end Go.Proofs.YtknfiepbibaklaaDoor
