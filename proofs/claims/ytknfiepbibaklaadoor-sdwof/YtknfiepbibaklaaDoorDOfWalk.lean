/-
  The law SdwOf answers true: any segment, any user, any ring and offset: what may be done, now.
-/
import Derived.Test.YtknfiepbibaklaaDoorDOfGood
import Derived.Test.YtknfiepbibaklaaDoorARefFind
import Derived.Deep.DeepCutAuto
namespace Go.Proofs.YtknfiepbibaklaaDoor.D
open Go.ChangeShapes Go.WideShapes Go.ChangeAt Go.RowKit
open Go.Proofs.YtknfiepbibaklaaDoor.N (bs bs_data bs_size bs_inj)
open Go.Proofs.YtknfiepbibaklaaDoor.A (Tm Fl TRow findR noFl)
open Go.Proofs.YtknfiepbibaklaaDoor.W (BV acc bmay cto cer inr one_new retI StoreAt SP)
open Go.Proofs.YtknfiepbibaklaaDoor.T (Br Nd St TreeAt TP BrV BrO BrAt noBr Txt rng segS segB nodeS aclX ringX noSt freeE)

theorem of_walk (y : Br) (a : Option Addr) (c : Nat) (n : Nat) (hn : n ≤ 255) (n0 n1 n2 : Int) (w : World) (hr : TRow w a c y.acl) (ht : ∀ t ∈ y.acl, t.1.length ≤ maxLen) :
    Calls Tryd.prog 3 #[BrV y (.slice a y.acl.length c), .int .u8 n, .agg #[.int .i64 n0, .int .i64 n1, .int .i64 n2]] w fun e w' => e = .returned (.bool true) ∧ Below w.heap.size w w' := by
  by_cases h40 : 40 < y.acl.length
  · exact of_long y a c n hn n0 n1 n2 w hr ht h40
  cases hl : A.lmay y.acl with
  | false => exact of_badacl y a c n hn n0 n1 n2 w hr ht h40 hl
  | true =>
    cases hb : bmay y.r1 y.r2 y.r3 y.gt with
    | false => exact of_badring y a c n hn n0 n1 n2 w hr ht h40 hl hb
    | true => exact of_good y a c n hn n0 n1 n2 w hr ht h40 hl hb

end Go.Proofs.YtknfiepbibaklaaDoor.D
