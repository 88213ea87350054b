/-
  The law's own example of the document (its function awake) answers true, and leaves what was there before as it was.
-/
import Derived.Test.YtenlfjbkfgfcmaaPCalls
namespace Go.Proofs.Ytenlfjbkfgfcmaa.W
open Go.ChangeShapes Go.WideShapes Go.ChangeAt Go.RowKit

theorem pack1 : packv 1 2 0 3 = 20971523 := by decide
theorem may0 : mayB 0 0 0 0 = true := by decide
theorem may1 : mayB 1 2 0 3 = true := by decide

theorem pack_one (w : World) :
    Calls Try.prog 13 #[PT 1 2 0 3] w fun e w' => e = .returned (.tuple #[.int .u64 20971523, .int .i64 0]) ∧ Below w.heap.size w w' := by
  have h := pack_yes 1 2 0 3 w may1
  rw [pack1] at h
  exact h

theorem unpack_one (w : World) :
    Calls Try.prog 14 #[.int .u64 20971523] w fun e w' => e = .returned (PT 1 2 0 3) ∧ Below w.heap.size w w' := by
  have h := unpack_any 20971523 w (u64_of (by omega) (by omega))
  rw [show gv 20971523 0 12 = 1 from by decide, show gv 20971523 12 3 = 2 from by decide, show gv 20971523 15 3 = 0 from by decide, show gv 20971523 18 18 = 3 from by decide] at h
  exact h

theorem awake_any (w : World) : Calls Try.prog 7 #[] w fun e w' => e = .returned (.bool true) ∧ Below w.heap.size w w' := by
  go_enter Try.func7, Try.ntmps7
  go_wp2_with (first
    | (go_at_call 13; ((with_reducible refine (pack_one _).mono ?_); rintro e w1 ⟨rfl, h1⟩))
    | (go_at_call 14; ((with_reducible refine (unpack_one _).mono ?_); rintro e w2 ⟨rfl, h2⟩))
    | (go_at_call 12; ((with_reducible refine (may_yes 0 0 0 0 _ may0).mono ?_); rintro e w3 ⟨rfl, h3⟩)))
  go_ret
  exact ⟨rfl, h1.trans ((h2.mono h1.size).trans (h3.mono (Nat.le_trans h1.size h2.size)))⟩

end Go.Proofs.Ytenlfjbkfgfcmaa.W
