/-
  Brackets and flags that a law keeps in two blocks of its own, over calls and draws.
-/
import Derived.Test.YtknfiepbibaklaaDoorRAwake
namespace Go.Proofs.YtknfiepbibaklaaDoor.W
open Go.ChangeShapes Go.WideShapes Go.ChangeAt Go.RowKit

/-- two blocks hold brackets and flags, and nothing older than w has changed -/
@[reducible] def Held (w : World) (b f : Nat) (r1 r2 r3 g : Int) (fr fw fe : Bool) (W : World) : Prop := BrAt W b r1 r2 r3 g ∧ FlAt W f fr fw fe ∧ Below w.heap.size w W
theorem held_drew {w : World} {b f : Nat} {r1 r2 r3 g : Int} {fr fw fe : Bool} {W : World} (h : Held w b f r1 r2 r3 g fr fw fe W) : Held w b f r1 r2 r3 g fr fw fe W.drew := ⟨h.1, h.2.1, h.2.2.drew⟩
theorem held_below {w : World} {b f : Nat} {r1 r2 r3 g : Int} {fr fw fe : Bool} {W V : World} (h : Held w b f r1 r2 r3 g fr fw fe W) (hb : Below W.heap.size W V) : Held w b f r1 r2 r3 g fr fw fe V :=
  ⟨br_below hb h.1, fl_below hb h.2.1, bel2 h.2.2 hb⟩
theorem acc_is {m fl : Bool} {r a b : Int} (h : (acc m fl r a b == 0) = true) : inr r 0 7 = true ∧ m = true ∧ fl = true ∧ inr r a b = true := by
  rw [acc_zero] at h
  simp only [Bool.and_eq_true] at h
  exact h
theorem acc_mk {m fl : Bool} {r a b : Int} (h0 : 0 ≤ r) (h7 : r ≤ 7) (hm : m = true) (hf : fl = true) (ha : a ≤ r) (hb : r ≤ b) : (acc m fl r a b == 0) = true := by
  rw [acc_ok (inr_mk h0 h7) hm hf (inr_mk ha hb)]
  rfl

end Go.Proofs.YtknfiepbibaklaaDoor.W
