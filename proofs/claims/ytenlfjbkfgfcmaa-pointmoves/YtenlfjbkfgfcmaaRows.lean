/-
  No cell of these rows narrows 'for every input' (looked for: loops, veiled, ifaces, maps, wideKeys, modest, calm, conditions, laid).
  DERIVED. THE GIVEN ROWS OF THIS SEAT. 4 by the template 'for every input the law returns true; each argument reads behind the call as it read before'; 0 by the template 'total and deterministic' (their statements: YtenlfjbkfgfcmaaTotals.lean).
  GIVEN WITH THE SEED: the statements are not yours to turn. If you find one false, say at which input.
  Laid BY PROGRAM, IN A SANDBOX (cutbox-rows.mjs): the forced cells as the released guide's own fill.sh prints them over the translation e2d8c83da913ee49… (all of the seat's roots in one cut). By AI agents, Wed Nov 11 2026. No macro, syntax, notation, axiom, sorry.
-/
import Derived.Test.YtenlfjbkfgfcmaaChecked
import GoSem.Claim
import GoSem.ClaimJoined
import GoSem.ClaimMapViews
import Derived.JoinedTies
import Derived.KernelRfl
namespace Go.Proofs.Ytenlfjbkfgfcmaa
/- THE CELL 'sum', in the pinned program and in every row, IS THE sha256 OF THE DUMP (.gsa) THAT YtenlfjbkfgfcmaaProg.lean LOADS. Nothing in Lean hashes anything: it is a label: what it is worth is what the hold of that sum in a sandbox is worth. -/
noncomputable def Try.pinned : Pinned := { name := "ytenlfjbkfgfcmaa", sum := "e2d8c83da913ee493c7e5c74e07771430f86881fe6d07bf5bfff4cc31df9eb15", checked := Try.checked }
namespace Rows
def none {H : Type} : Left H := { results := [], args := [] }

/-- 'concentriclaw2.PointMoves': WHATEVER THE INPUT: true; the input reads as it did. -/
def pointMovesSpec : ChangeSpec := { name := "pointMoves", fn := fun _ => fun
  | [d1, d2, d3] => { results := [.lit (.bool true)], args := [d1, d2, d3] }
  | _ => none }
def pointMovesRow : OpenClaim := { program := "ytenlfjbkfgfcmaa", sum := "e2d8c83da913ee493c7e5c74e07771430f86881fe6d07bf5bfff4cc31df9eb15", func := "concentric/concentriclaw2.PointMoves", spec := "pointMoves", apart := false }
def PointMovesSaid : Prop := pointMovesRow.holds Try.pinned (OpenSpec.ofChange pointMovesSpec)

/-- ITS FALSE NEIGHBOUR: 'it returns false'. Refute it at one input. -/
def pointMovesWrong : ChangeSpec := { name := "pointMoves", fn := fun _ => fun
  | [d1, d2, d3] => { results := [.lit (.bool false)], args := [d1, d2, d3] }
  | _ => none }
def PointMovesWrongFalsely : Prop := pointMovesRow.holds Try.pinned (OpenSpec.ofChange pointMovesWrong)

/-- 'concentriclaw2.PointKnown': WHATEVER THE INPUT: true; the input reads as it did. -/
def pointKnownSpec : ChangeSpec := { name := "pointKnown", fn := fun _ => fun
  | [] => { results := [.lit (.bool true)], args := [] }
  | _ => none }
def pointKnownRow : OpenClaim := { program := "ytenlfjbkfgfcmaa", sum := "e2d8c83da913ee493c7e5c74e07771430f86881fe6d07bf5bfff4cc31df9eb15", func := "concentric/concentriclaw2.PointKnown", spec := "pointKnown", apart := false }
def PointKnownSaid : Prop := pointKnownRow.holds Try.pinned (OpenSpec.ofChange pointKnownSpec)

/-- ITS FALSE NEIGHBOUR: 'it returns false'. Refute it at one input. -/
def pointKnownWrong : ChangeSpec := { name := "pointKnown", fn := fun _ => fun
  | [] => { results := [.lit (.bool false)], args := [] }
  | _ => none }
def PointKnownWrongFalsely : Prop := pointKnownRow.holds Try.pinned (OpenSpec.ofChange pointKnownWrong)

/-- 'concentriclaw2.PointRaises': WHATEVER THE INPUT: true; the input reads as it did. -/
def pointRaisesSpec : ChangeSpec := { name := "pointRaises", fn := fun _ => fun
  | [d1, d2, d3] => { results := [.lit (.bool true)], args := [d1, d2, d3] }
  | _ => none }
def pointRaisesRow : OpenClaim := { program := "ytenlfjbkfgfcmaa", sum := "e2d8c83da913ee493c7e5c74e07771430f86881fe6d07bf5bfff4cc31df9eb15", func := "concentric/concentriclaw2.PointRaises", spec := "pointRaises", apart := false }
def PointRaisesSaid : Prop := pointRaisesRow.holds Try.pinned (OpenSpec.ofChange pointRaisesSpec)

/-- ITS FALSE NEIGHBOUR: 'it returns false'. Refute it at one input. -/
def pointRaisesWrong : ChangeSpec := { name := "pointRaises", fn := fun _ => fun
  | [d1, d2, d3] => { results := [.lit (.bool false)], args := [d1, d2, d3] }
  | _ => none }
def PointRaisesWrongFalsely : Prop := pointRaisesRow.holds Try.pinned (OpenSpec.ofChange pointRaisesWrong)

/-- 'concentriclaw2.PointApart': WHATEVER THE INPUT: true; the input reads as it did. -/
def pointApartSpec : ChangeSpec := { name := "pointApart", fn := fun _ => fun
  | [d1, d2] => { results := [.lit (.bool true)], args := [d1, d2] }
  | _ => none }
def pointApartRow : OpenClaim := { program := "ytenlfjbkfgfcmaa", sum := "e2d8c83da913ee493c7e5c74e07771430f86881fe6d07bf5bfff4cc31df9eb15", func := "concentric/concentriclaw2.PointApart", spec := "pointApart", apart := false }
def PointApartSaid : Prop := pointApartRow.holds Try.pinned (OpenSpec.ofChange pointApartSpec)

/-- ITS FALSE NEIGHBOUR: 'it returns false'. Refute it at one input. -/
def pointApartWrong : ChangeSpec := { name := "pointApart", fn := fun _ => fun
  | [d1, d2] => { results := [.lit (.bool false)], args := [d1, d2] }
  | _ => none }
def PointApartWrongFalsely : Prop := pointApartRow.holds Try.pinned (OpenSpec.ofChange pointApartWrong)

/- THE SECOND FORM. 'bulk': how many values and letters a reading holds, each counted each time it is reached (what is shared counts as often as it is met; a slice's spare places count too). A statement '..UptoSaid' is the law's where the arguments, and the package variables that the reading takes, are together of bulk at most 1048576: NARROWER than '..Said'. Prove '..Said' where nothing that the law and all that it calls make is longer than what came in: it says more and counts as full. Else prove '..UptoSaid'. A law counts once. -/
mutual
def uptoBulk {H : Type} : DataW H → Nat
  | .lit (.string bytes) => bytes.length + 1
  | .lit _ => 1
  | .nil => 1
  | .ptr d => uptoBulk d + 1
  | .slice elems spare => uptoBulkAll elems + uptoBulkAll spare + 1
  | .agg parts => uptoBulkAll parts + 1
  | .iface _ d => uptoBulk d + 1
  | .map entries => uptoBulkEntries entries + 1
  | .held _ => 1
def uptoBulkAll {H : Type} : List (DataW H) → Nat
  | [] => 0
  | d :: r => uptoBulk d + uptoBulkAll r
def uptoBulkEntries {H : Type} : List (Lit × DataW H) → Nat
  | [] => 0
  | x :: r => uptoBulkEntry x + uptoBulkEntries r
def uptoBulkEntry {H : Type} : Lit × DataW H → Nat
  | (.string bytes, d) => bytes.length + uptoBulk d + 1
  | (_, d) => uptoBulk d + 1
 end
def uptoSmall : (H : Type) → List (DataW H) → Bool := fun _ ds => decide (uptoBulkAll ds ≤ 1048576)
def OpenSpec.upto (s : _root_.Go.ChangeSpec) : _root_.Go.OpenSpec := { _root_.Go.OpenSpec.ofChange s with cond := some uptoSmall }

/-- 'concentriclaw2.PointMoves', WHERE WHAT IT READS IS OF BULK AT MOST 1048576: true; the input reads as it did. -/
def pointMovesUptoRow : OpenClaim := { program := "ytenlfjbkfgfcmaa", sum := "e2d8c83da913ee493c7e5c74e07771430f86881fe6d07bf5bfff4cc31df9eb15", func := "concentric/concentriclaw2.PointMoves", spec := "pointMoves", apart := false, narrowed := true }
def PointMovesUptoSaid : Prop := pointMovesUptoRow.holds Try.pinned (OpenSpec.upto pointMovesSpec)

/-- 'concentriclaw2.PointKnown', WHERE WHAT IT READS IS OF BULK AT MOST 1048576: true; the input reads as it did. -/
def pointKnownUptoRow : OpenClaim := { program := "ytenlfjbkfgfcmaa", sum := "e2d8c83da913ee493c7e5c74e07771430f86881fe6d07bf5bfff4cc31df9eb15", func := "concentric/concentriclaw2.PointKnown", spec := "pointKnown", apart := false, narrowed := true }
def PointKnownUptoSaid : Prop := pointKnownUptoRow.holds Try.pinned (OpenSpec.upto pointKnownSpec)

/-- 'concentriclaw2.PointRaises', WHERE WHAT IT READS IS OF BULK AT MOST 1048576: true; the input reads as it did. -/
def pointRaisesUptoRow : OpenClaim := { program := "ytenlfjbkfgfcmaa", sum := "e2d8c83da913ee493c7e5c74e07771430f86881fe6d07bf5bfff4cc31df9eb15", func := "concentric/concentriclaw2.PointRaises", spec := "pointRaises", apart := false, narrowed := true }
def PointRaisesUptoSaid : Prop := pointRaisesUptoRow.holds Try.pinned (OpenSpec.upto pointRaisesSpec)

/-- 'concentriclaw2.PointApart', WHERE WHAT IT READS IS OF BULK AT MOST 1048576: true; the input reads as it did. -/
def pointApartUptoRow : OpenClaim := { program := "ytenlfjbkfgfcmaa", sum := "e2d8c83da913ee493c7e5c74e07771430f86881fe6d07bf5bfff4cc31df9eb15", func := "concentric/concentriclaw2.PointApart", spec := "pointApart", apart := false, narrowed := true }
def PointApartUptoSaid : Prop := pointApartUptoRow.holds Try.pinned (OpenSpec.upto pointApartSpec)

end Rows
end Go.Proofs.Ytenlfjbkfgfcmaa
