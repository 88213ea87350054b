/-
  DERIVED. GIVEN WITH THE SEED: THE CARDS: each row of YtfghoceigofoiaaDoorRows.lean that lists a variable, with what it lists TIED to the program's text (the seventh form; the later family's looks); each row that meets fmt, with fmt's text TOLD by the authors' own Lean function (tested against real Go, not proved from fmt's source: count such statements apart). THE CARD IS WHAT COUNTS. Prove the row's statement (the work); the ties are given (YtfghoceigofoiaaDoorTie.lean); close each card by the builder's one call (the guide's Derived/Test/ToyasCard.lean, 'card_holds'). Laid BY PROGRAM, IN A SANDBOX (cutbox-door.mjs). By AI agents, Wed Nov 11 2026. No macro, syntax, notation, axiom, sorry.
-/
import Derived.Test.YtfghoceigofoiaaDoorRows
import GoSem.ClaimSeven
namespace Go.Proofs.YtfghoceigofoiaaDoor
namespace Rows

/-- THE TIED CARD OF 'concentriclaw7.TreeKnown'. -/
def treeKnownCard : Claim7 := { stood := { row := treeKnownRow, standIns := [], harness := (true, "06cb4f8d9a24b75e5b61b3da4fa26299324ad16e5c26f29cd4125a8833a25e6a"), looks := false }, kinds := [], alts := [], laidByText := true, laidKinds := [.data, .pinned], laidTests := true, laidLooks := .later }
def TreeKnownCardSaid : Prop := Claim7.holds Tryd.pinned (.plain (OpenSpec.ofChange treeKnownSpec)) treeKnownCard

/-- THE TIED CARD OF 'concentriclaw7.TreeNames'. -/
def treeNamesCard : Claim7 := { stood := { row := treeNamesRow, standIns := [], harness := (true, "06cb4f8d9a24b75e5b61b3da4fa26299324ad16e5c26f29cd4125a8833a25e6a"), looks := false }, kinds := [], alts := [], laidByText := true, laidKinds := [.data, .pinned], laidTests := true, laidLooks := .later }
def TreeNamesCardSaid : Prop := Claim7.holds Tryd.pinned (.plain (OpenSpec.ofChange treeNamesSpec)) treeNamesCard

/-- THE TIED CARD OF 'concentriclaw7.TreeDirs'. -/
def treeDirsCard : Claim7 := { stood := { row := treeDirsRow, standIns := [], harness := (true, "06cb4f8d9a24b75e5b61b3da4fa26299324ad16e5c26f29cd4125a8833a25e6a"), looks := false }, kinds := [], alts := [], laidByText := true, laidKinds := [.data, .pinned], laidTests := true, laidLooks := .later }
def TreeDirsCardSaid : Prop := Claim7.holds Tryd.pinned (.plain (OpenSpec.ofChange treeDirsSpec)) treeDirsCard

/-- THE TIED CARD OF 'concentriclaw7.TreeHands'. -/
def treeHandsCard : Claim7 := { stood := { row := treeHandsRow, standIns := [], harness := (true, "06cb4f8d9a24b75e5b61b3da4fa26299324ad16e5c26f29cd4125a8833a25e6a"), looks := false }, kinds := [], alts := [], laidByText := true, laidKinds := [.data, .pinned], laidTests := true, laidLooks := .later }
def TreeHandsCardSaid : Prop := Claim7.holds Tryd.pinned (.plain (OpenSpec.ofChange treeHandsSpec)) treeHandsCard

/-- THE TIED CARD OF 'concentriclaw7.TreeAccess'. -/
def treeAccessCard : Claim7 := { stood := { row := treeAccessRow, standIns := [], harness := (true, "06cb4f8d9a24b75e5b61b3da4fa26299324ad16e5c26f29cd4125a8833a25e6a"), looks := false }, kinds := [], alts := [], laidByText := true, laidKinds := [.data, .pinned], laidTests := true, laidLooks := .later }
def TreeAccessCardSaid : Prop := Claim7.holds Tryd.pinned (.plain (OpenSpec.ofChange treeAccessSpec)) treeAccessCard

/-- THE SECOND FORM's CARD OF 'concentriclaw7.TreeKnown'. -/
def treeKnownUptoCard : Claim7 := { stood := { row := treeKnownUptoRow, standIns := [], harness := (true, "06cb4f8d9a24b75e5b61b3da4fa26299324ad16e5c26f29cd4125a8833a25e6a"), looks := false }, kinds := [], alts := [], laidByText := true, laidKinds := [.data, .pinned], laidTests := true, laidLooks := .later }
def TreeKnownUptoCardSaid : Prop := Claim7.holds Tryd.pinned (.plain (OpenSpec.upto treeKnownSpec)) treeKnownUptoCard

/-- THE SECOND FORM's CARD OF 'concentriclaw7.TreeNames'. -/
def treeNamesUptoCard : Claim7 := { stood := { row := treeNamesUptoRow, standIns := [], harness := (true, "06cb4f8d9a24b75e5b61b3da4fa26299324ad16e5c26f29cd4125a8833a25e6a"), looks := false }, kinds := [], alts := [], laidByText := true, laidKinds := [.data, .pinned], laidTests := true, laidLooks := .later }
def TreeNamesUptoCardSaid : Prop := Claim7.holds Tryd.pinned (.plain (OpenSpec.upto treeNamesSpec)) treeNamesUptoCard

/-- THE SECOND FORM's CARD OF 'concentriclaw7.TreeDirs'. -/
def treeDirsUptoCard : Claim7 := { stood := { row := treeDirsUptoRow, standIns := [], harness := (true, "06cb4f8d9a24b75e5b61b3da4fa26299324ad16e5c26f29cd4125a8833a25e6a"), looks := false }, kinds := [], alts := [], laidByText := true, laidKinds := [.data, .pinned], laidTests := true, laidLooks := .later }
def TreeDirsUptoCardSaid : Prop := Claim7.holds Tryd.pinned (.plain (OpenSpec.upto treeDirsSpec)) treeDirsUptoCard

/-- THE SECOND FORM's CARD OF 'concentriclaw7.TreeHands'. -/
def treeHandsUptoCard : Claim7 := { stood := { row := treeHandsUptoRow, standIns := [], harness := (true, "06cb4f8d9a24b75e5b61b3da4fa26299324ad16e5c26f29cd4125a8833a25e6a"), looks := false }, kinds := [], alts := [], laidByText := true, laidKinds := [.data, .pinned], laidTests := true, laidLooks := .later }
def TreeHandsUptoCardSaid : Prop := Claim7.holds Tryd.pinned (.plain (OpenSpec.upto treeHandsSpec)) treeHandsUptoCard

/-- THE SECOND FORM's CARD OF 'concentriclaw7.TreeAccess'. -/
def treeAccessUptoCard : Claim7 := { stood := { row := treeAccessUptoRow, standIns := [], harness := (true, "06cb4f8d9a24b75e5b61b3da4fa26299324ad16e5c26f29cd4125a8833a25e6a"), looks := false }, kinds := [], alts := [], laidByText := true, laidKinds := [.data, .pinned], laidTests := true, laidLooks := .later }
def TreeAccessUptoCardSaid : Prop := Claim7.holds Tryd.pinned (.plain (OpenSpec.upto treeAccessSpec)) treeAccessUptoCard
end Rows
end Go.Proofs.YtfghoceigofoiaaDoor
