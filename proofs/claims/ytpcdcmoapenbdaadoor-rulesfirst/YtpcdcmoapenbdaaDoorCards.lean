/-
  DERIVED. GIVEN WITH THE SEED: THE CARDS: each row of YtpcdcmoapenbdaaDoorRows.lean that lists a variable, with what it lists TIED to the program's text (the seventh form; the later family's looks); each row that meets fmt, with fmt's text TOLD by the authors' own Lean function (tested against real Go, not proved from fmt's source: count such statements apart). THE CARD IS WHAT COUNTS. Prove the row's statement (the work); the ties are given (YtpcdcmoapenbdaaDoorTie.lean); close each card by the builder's one call (the guide's Derived/Test/ToyasCard.lean, 'card_holds'). Laid BY PROGRAM, IN A SANDBOX (cutbox-door.mjs). By AI agents, Wed Nov 11 2026. No macro, syntax, notation, axiom, sorry.
-/
import Derived.Test.YtpcdcmoapenbdaaDoorRows
import GoSem.ClaimSeven
namespace Go.Proofs.YtpcdcmoapenbdaaDoor
namespace Rows

/-- THE TIED CARD OF 'concentriclaw14.RulesFind'. -/
def rulesFindCard : Claim7 := { stood := { row := rulesFindRow, standIns := [], harness := (true, "b3eeb53a566df6c71e2d2bcf7f8242c3745bced0eebf677f2123a1052574ea22"), looks := false }, kinds := [], alts := [], laidByText := true, laidKinds := [.data, .pinned], laidTests := true, laidLooks := .later }
def RulesFindCardSaid : Prop := Claim7.holds Tryd.pinned (.plain (OpenSpec.ofChange rulesFindSpec)) rulesFindCard

/-- THE TIED CARD OF 'concentriclaw14.RulesKnown'. -/
def rulesKnownCard : Claim7 := { stood := { row := rulesKnownRow, standIns := [], harness := (true, "b3eeb53a566df6c71e2d2bcf7f8242c3745bced0eebf677f2123a1052574ea22"), looks := false }, kinds := [], alts := [], laidByText := true, laidKinds := [.data, .pinned], laidTests := true, laidLooks := .later }
def RulesKnownCardSaid : Prop := Claim7.holds Tryd.pinned (.plain (OpenSpec.ofChange rulesKnownSpec)) rulesKnownCard

/-- THE TIED CARD OF 'concentriclaw14.RulesFirst'. -/
def rulesFirstCard : Claim7 := { stood := { row := rulesFirstRow, standIns := [], harness := (true, "b3eeb53a566df6c71e2d2bcf7f8242c3745bced0eebf677f2123a1052574ea22"), looks := false }, kinds := [], alts := [], laidByText := true, laidKinds := [.data, .pinned], laidTests := true, laidLooks := .later }
def RulesFirstCardSaid : Prop := Claim7.holds Tryd.pinned (.plain (OpenSpec.ofChange rulesFirstSpec)) rulesFirstCard

/-- THE TIED CARD OF 'concentriclaw14.RulesKinds'. -/
def rulesKindsCard : Claim7 := { stood := { row := rulesKindsRow, standIns := [], harness := (true, "b3eeb53a566df6c71e2d2bcf7f8242c3745bced0eebf677f2123a1052574ea22"), looks := false }, kinds := [], alts := [], laidByText := true, laidKinds := [.data, .pinned], laidTests := true, laidLooks := .later }
def RulesKindsCardSaid : Prop := Claim7.holds Tryd.pinned (.plain (OpenSpec.ofChange rulesKindsSpec)) rulesKindsCard

/-- THE SECOND FORM's CARD OF 'concentriclaw14.RulesFind'. -/
def rulesFindUptoCard : Claim7 := { stood := { row := rulesFindUptoRow, standIns := [], harness := (true, "b3eeb53a566df6c71e2d2bcf7f8242c3745bced0eebf677f2123a1052574ea22"), looks := false }, kinds := [], alts := [], laidByText := true, laidKinds := [.data, .pinned], laidTests := true, laidLooks := .later }
def RulesFindUptoCardSaid : Prop := Claim7.holds Tryd.pinned (.plain (OpenSpec.upto rulesFindSpec)) rulesFindUptoCard

/-- THE SECOND FORM's CARD OF 'concentriclaw14.RulesKnown'. -/
def rulesKnownUptoCard : Claim7 := { stood := { row := rulesKnownUptoRow, standIns := [], harness := (true, "b3eeb53a566df6c71e2d2bcf7f8242c3745bced0eebf677f2123a1052574ea22"), looks := false }, kinds := [], alts := [], laidByText := true, laidKinds := [.data, .pinned], laidTests := true, laidLooks := .later }
def RulesKnownUptoCardSaid : Prop := Claim7.holds Tryd.pinned (.plain (OpenSpec.upto rulesKnownSpec)) rulesKnownUptoCard

/-- THE SECOND FORM's CARD OF 'concentriclaw14.RulesFirst'. -/
def rulesFirstUptoCard : Claim7 := { stood := { row := rulesFirstUptoRow, standIns := [], harness := (true, "b3eeb53a566df6c71e2d2bcf7f8242c3745bced0eebf677f2123a1052574ea22"), looks := false }, kinds := [], alts := [], laidByText := true, laidKinds := [.data, .pinned], laidTests := true, laidLooks := .later }
def RulesFirstUptoCardSaid : Prop := Claim7.holds Tryd.pinned (.plain (OpenSpec.upto rulesFirstSpec)) rulesFirstUptoCard

/-- THE SECOND FORM's CARD OF 'concentriclaw14.RulesKinds'. -/
def rulesKindsUptoCard : Claim7 := { stood := { row := rulesKindsUptoRow, standIns := [], harness := (true, "b3eeb53a566df6c71e2d2bcf7f8242c3745bced0eebf677f2123a1052574ea22"), looks := false }, kinds := [], alts := [], laidByText := true, laidKinds := [.data, .pinned], laidTests := true, laidLooks := .later }
def RulesKindsUptoCardSaid : Prop := Claim7.holds Tryd.pinned (.plain (OpenSpec.upto rulesKindsSpec)) rulesKindsUptoCard
end Rows
end Go.Proofs.YtpcdcmoapenbdaaDoor
