/-
  Pointers in memory: a block that holds one keeps it behind draws, new blocks and calls that leave what was there alone.
-/
import Derived.Test.YtenlfjbkfgfcmaaPAwake
import Derived.Deep.RegionHeld3
import Derived.Deep.DeepCutAuto
namespace Go.Proofs.Ytenlfjbkfgfcmaa.W
open Go.ChangeShapes Go.WideShapes Go.ChangeAt Go.RowKit

/-- a pointer lies in a block -/
@[reducible] def PtAt (W : World) (b : Nat) (s r t o : Int) : Prop := b < W.heap.size ∧ W.cell? ⟨b, 0, none⟩ = some (.int .i64 s) ∧ W.cell? ⟨b, 1, none⟩ = some (.int .i64 r) ∧ W.cell? ⟨b, 2, none⟩ = some (.int .i64 t) ∧ W.cell? ⟨b, 3, none⟩ = some (.int .i64 o)

theorem pt_below {W w1 : World} {b : Nat} {s r t o : Int} (hb : Below W.heap.size W w1) (h : PtAt W b s r t o) : PtAt w1 b s r t o :=
  ⟨Nat.lt_of_lt_of_le h.1 hb.size, (hb.cell (p := ⟨b, 0, none⟩) h.1).trans h.2.1, (hb.cell (p := ⟨b, 1, none⟩) h.1).trans h.2.2.1, (hb.cell (p := ⟨b, 2, none⟩) h.1).trans h.2.2.2.1, (hb.cell (p := ⟨b, 3, none⟩) h.1).trans h.2.2.2.2⟩
theorem pt_drew {W : World} {b : Nat} {s r t o : Int} (h : PtAt W b s r t o) : PtAt W.drew b s r t o := h
theorem pt_alloc {W : World} {b : Nat} {s r t o : Int} (x : Obj) (h : PtAt W b s r t o) : PtAt (W.alloc x) b s r t o :=
  pt_below ((Below.refl _ _).alloc (Nat.le_refl _) x) h
theorem pt_new {W : World} {b : Nat} {s r t o : Int} (h : b = W.heap.size) : PtAt (W.alloc (PO s r t o)) b s r t o := by
  subst h
  exact ⟨by simp, by simp [World.cell?_alloc_new], by simp [World.cell?_alloc_new], by simp [World.cell?_alloc_new], by simp [World.cell?_alloc_new]⟩
theorem bel_alloc {a W : World} {B : Nat} (o : Obj) (hB : B ≤ a.heap.size) (h : Below B a W) : Below B a (W.alloc o) := h.alloc (Nat.le_trans hB h.size) o

theorem field_ring (s r t o : Int) (w : World) : (Instr.field 23 (PT s r t o) 1).run Try.prog w = .ok (.int .i64 r) w := by kernel_rfl
theorem field_off (s r t o : Int) (w : World) : (Instr.field 23 (PT s r t o) 3).run Try.prog w = .ok (.int .i64 o) w := by kernel_rfl

end Go.Proofs.Ytenlfjbkfgfcmaa.W
