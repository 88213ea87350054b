/-
  The law's own example of the document (its function awake) answers true, and leaves what was there before as it was. Brackets and flags in memory: a block that holds some keeps them behind draws, new blocks and calls that leave what was there alone.
-/
import Derived.Test.YtknfiepbibaklaaDoorRComes
namespace Go.Proofs.YtknfiepbibaklaaDoor.W
open Go.ChangeShapes Go.WideShapes Go.ChangeAt Go.RowKit

theorem call_one (w : World) :
    Calls Tryd.prog 36 #[BV 1 3 5 1, FV false false true, .int .i64 4, .int .i64 0] w fun e w' => e = .returned (.tuple #[.int .i64 3, .int .i64 0]) ∧ Below w.heap.size w w' := by
  have h := call_any 1 3 5 1 false false true 4 0 w
  rw [show cto (bmay 1 3 5 1) true 4 1 3 5 1 0 = 3 from by decide, show cer (bmay 1 3 5 1) true 4 1 3 5 1 0 = 0 from by decide] at h
  exact h

theorem read_one (w : World) :
    Calls Tryd.prog 38 #[BV 1 3 5 1, FV true false false, .int .i64 3] w fun e w' => e = .returned (.int .i64 0) ∧ Below w.heap.size w w' := by
  have h := read_any 1 3 5 1 true false false 3 w
  rw [show acc (bmay 1 3 5 1) true 3 0 3 = 0 from by decide] at h
  exact h

theorem write_one (w : World) :
    Calls Tryd.prog 39 #[BV 1 3 5 1, FV false true false, .int .i64 2] w fun e w' => e = .returned (.int .i64 10) ∧ Below w.heap.size w w' := by
  have h := write_any 1 3 5 1 false true false 2 w
  rw [show acc (bmay 1 3 5 1) true 2 0 1 = 10 from by decide] at h
  exact h

theorem may_one (w : World) : Calls Tryd.prog 44 #[BV 1 3 5 1] w fun e w' => e = .returned (.bool true) ∧ Below w.heap.size w w' :=
  (may_yes 1 3 5 1 w (by decide)).mono fun _ _ h => ⟨h.1, h.2 ▸ one_new _ _⟩

/-- brackets lie in a block; flags lie in a block -/
@[reducible] def BrAt (W : World) (b : Nat) (r1 r2 r3 g : Int) : Prop := b < W.heap.size ∧ W.cell? ⟨b, 0, none⟩ = some (.int .i64 r1) ∧ W.cell? ⟨b, 1, none⟩ = some (.int .i64 r2) ∧ W.cell? ⟨b, 2, none⟩ = some (.int .i64 r3) ∧ W.cell? ⟨b, 3, none⟩ = some (.int .i64 g)
@[reducible] def FlAt (W : World) (b : Nat) (x y z : Bool) : Prop := b < W.heap.size ∧ W.cell? ⟨b, 0, none⟩ = some (.bool x) ∧ W.cell? ⟨b, 1, none⟩ = some (.bool y) ∧ W.cell? ⟨b, 2, none⟩ = some (.bool z)

theorem br_below {W w1 : World} {b : Nat} {s r t o : Int} (hb : Below W.heap.size W w1) (h : BrAt W b s r t o) : BrAt w1 b s r t o :=
  ⟨Nat.lt_of_lt_of_le h.1 hb.size, (hb.cell (p := ⟨b, 0, none⟩) h.1).trans h.2.1, (hb.cell (p := ⟨b, 1, none⟩) h.1).trans h.2.2.1, (hb.cell (p := ⟨b, 2, none⟩) h.1).trans h.2.2.2.1, (hb.cell (p := ⟨b, 3, none⟩) h.1).trans h.2.2.2.2⟩
theorem fl_below {W w1 : World} {b : Nat} {x y z : Bool} (hb : Below W.heap.size W w1) (h : FlAt W b x y z) : FlAt w1 b x y z :=
  ⟨Nat.lt_of_lt_of_le h.1 hb.size, (hb.cell (p := ⟨b, 0, none⟩) h.1).trans h.2.1, (hb.cell (p := ⟨b, 1, none⟩) h.1).trans h.2.2.1, (hb.cell (p := ⟨b, 2, none⟩) h.1).trans h.2.2.2⟩
theorem br_new (W : World) (s r t o : Int) : BrAt (W.alloc (BO s r t o)) W.heap.size s r t o :=
  ⟨by simp, by simp [World.cell?_alloc_new], by simp [World.cell?_alloc_new], by simp [World.cell?_alloc_new], by simp [World.cell?_alloc_new]⟩
theorem fl_new (W : World) (x y z : Bool) : FlAt (W.alloc (FO x y z)) W.heap.size x y z :=
  ⟨by simp, by simp [World.cell?_alloc_new], by simp [World.cell?_alloc_new], by simp [World.cell?_alloc_new]⟩
/-- one call behind another -/
theorem bel2 {w v u : World} (h : Below w.heap.size w v) (h' : Below v.heap.size v u) : Below w.heap.size w u := h.trans (h'.mono h.size)
theorem of_drew {w v : World} (h : Below w.drew.heap.size w.drew v) : Below w.heap.size w v := ⟨h.os, h.tape, h.output, h.size, h.block⟩
theorem of_drewN {w v : World} {n : Nat} (h : Below (w.drewN n).heap.size (w.drewN n) v) : Below w.heap.size w v := ⟨h.os, h.tape, h.output, h.size, h.block⟩

end Go.Proofs.YtknfiepbibaklaaDoor.W
