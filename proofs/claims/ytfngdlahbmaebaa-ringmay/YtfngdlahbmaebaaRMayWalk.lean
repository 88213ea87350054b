/-
  The law RingMay answers true: the program answers as the document does, for any brackets, flags, ring and offset.
-/
import Derived.Test.YtfngdlahbmaebaaRAwake
import Derived.Deep.RegionHeld3
import Derived.Deep.DeepCutAuto
namespace Go.Proofs.Ytfngdlahbmaebaa.W
open Go.ChangeShapes Go.WideShapes Go.ChangeAt Go.RowKit

theorem three_at {w : World} {a b c : Obj} {v : World} (h : Below (((w.alloc a).alloc b).alloc c).heap.size (((w.alloc a).alloc b).alloc c) v) : Below w.heap.size w v := bel2 (three_new0 w a b c) h
theorem may_bel (r1 r2 r3 g : Int) (w : World) : Calls Try.prog 13 #[BV r1 r2 r3 g] w fun e w' => e = .returned (.bool (bmay r1 r2 r3 g)) ∧ Below w.heap.size w w' :=
  (may_any r1 r2 r3 g w).mono fun _ _ h => ⟨h.1, h.2 ▸ one_new _ _⟩
theorem rmay_bel (r1 r2 r3 g : Int) (w : World) : Calls Try.prog 14 #[BV r1 r2 r3 g] w fun e w' => e = .returned (.bool (bmay r1 r2 r3 g)) ∧ Below w.heap.size w w' :=
  (rmay_any r1 r2 r3 g w).mono fun _ _ h => ⟨h.1, h.2 ▸ one_new _ _⟩

theorem valI {k : IntKind} {a b : Int} (h : a = b) : Value.int k a = .int k b := by rw [h]

/-- the bound brackets and flags, and nothing older changed -/
@[reducible] def MayHeld (w : World) (r1 r2 r3 g : Int) (fr fw fe : Bool) (W : World) : Prop := BrAt W w.heap.size r1 r2 r3 g ∧ FlAt W (w.heap.size + 1) fr fw fe ∧ Below w.heap.size w W
theorem mayHeld_drew {w : World} {r1 r2 r3 g : Int} {fr fw fe : Bool} {W : World} (h : MayHeld w r1 r2 r3 g fr fw fe W) : MayHeld w r1 r2 r3 g fr fw fe W.drew := ⟨h.1, h.2.1, h.2.2.drew⟩
theorem mayHeld_below {w : World} {r1 r2 r3 g : Int} {fr fw fe : Bool} {W V : World} (h : MayHeld w r1 r2 r3 g fr fw fe W) (hb : Below W.heap.size W V) : MayHeld w r1 r2 r3 g fr fw fe V :=
  ⟨br_below hb h.1, fl_below hb h.2.1, bel2 h.2.2 hb⟩

set_option maxRecDepth 4000 in
set_option maxHeartbeats 4000000 in
theorem may_walk (r1 r2 r3 g : Int) (fr fw fe : Bool) (r off : Int) (w : World) :
    Calls Try.prog 3 #[BV r1 r2 r3 g, FV fr fw fe, .agg #[.int .i64 r, .int .i64 off]] w fun e w' => e = .returned (.bool true) ∧ Below w.heap.size w w' := by
  go_enter Try.func3, Try.ntmps3
  go_wp2_with (first
    | (go_at_call 10; ((with_reducible refine (awake_any _).mono ?_); rintro e w1 ⟨rfl, h1⟩; have k1 := old_at h1; have y1 : w.heap.size < w1.heap.size := (by have := h1.size; simp at this; omega); have z1 : w.heap.size + 1 < w1.heap.size := (by have := h1.size; simp at this; omega); have x1 : w.heap.size + 1 + 1 < w1.heap.size := (by have := h1.size; simp at this; omega))))
  go_quiet (fail)
  go_upto_region 6 with (first
    | (go_at_call 11; ((with_reducible refine (call_any r1 r2 r3 g fr fw fe r off _).mono ?_); rintro e w2 ⟨rfl, h2'⟩; have h2 := of_drewN h2'; clear h2'; have k2 := old_at h2; have y2 : w.heap.size < w2.heap.size := (by have := h2.size; omega); have z2 : w.heap.size + 1 < w2.heap.size := (by have := h2.size; omega); have x2 : w.heap.size + 1 + 1 < w2.heap.size := (by have := h2.size; omega)))
    | (go_at_call 12; ((with_reducible refine (rcall_any r1 r2 r3 g fr fw fe r off _).mono ?_); rintro e w3 ⟨rfl, h3⟩; have k3 := old_at h3; have y3 : w.heap.size < w3.heap.size := (by have := h3.size; omega); have z3 : w.heap.size + 1 < w3.heap.size := (by have := h3.size; omega); have x3 : w.heap.size + 1 + 1 < w3.heap.size := (by have := h3.size; omega))))
  have B3 : BrAt w3 w.heap.size r1 r2 r3 g := br_below h3 (br_below h2 (br_below h1 ⟨by simp; omega, by simp [go_sem], by simp [go_sem], by simp [go_sem], by simp [go_sem]⟩))
  have F3 : FlAt w3 (w.heap.size + 1) fr fw fe := fl_below h3 (fl_below h2 (fl_below h1 ⟨by simp, by simp [go_sem], by simp [go_sem], by simp [go_sem]⟩))
  have hb : Below w.heap.size w w3 := bel2 (bel2 (three_at h1) h2) h3
  clear k1 k2 k3 h1 h2 h3 y1 z1 x1 y2 z2 x2 y3 z3 x3
  go_cut [13] (fun s13 W => s13 = .int .i64 (rtv r off) ∧ W = w3)
  case first =>
    go_wp2
    all_goals
      go_meet
      exact ⟨valI (by unfold rtv; omega), rfl⟩
  case rest =>
    obtain ⟨rfl, rfl⟩ := hcut
    go_wp2
    have H : MayHeld w r1 r2 r3 g fr fw fe _ := mayHeld_drew ⟨B3, F3, hb⟩
    clear B3 F3 hb
    have e1 : (bmay r1 r2 r3 g == bmay r1 r2 r3 g) = true := beq_self_eq_true _
    go_region_held3 (fun W => BrAt W w.heap.size r1 r2 r3 g ∧ FlAt W (w.heap.size + 1) fr fw fe ∧ Below w.heap.size w W)
      (first
        | exact H
        | exact mayHeld_drew H)
      (first
        | (go_at_call 13; ((with_reducible refine (may_bel r1 r2 r3 g _).mono ?_); rintro e w4 ⟨rfl, h4⟩; have H := mayHeld_below H h4))
        | (go_at_call 14; ((with_reducible refine (rmay_bel r1 r2 r3 g _).mono ?_); rintro e w4 ⟨rfl, h4⟩; have H := mayHeld_below H h4))
        | (go_at_call 15; ((with_reducible refine (read_any r1 r2 r3 g fr fw fe r _).mono ?_); rintro e w4 ⟨rfl, h4⟩; have H := mayHeld_below H h4))
        | (go_at_call 17; ((with_reducible refine (write_any r1 r2 r3 g fr fw fe r _).mono ?_); rintro e w4 ⟨rfl, h4⟩; have H := mayHeld_below H h4))
        | (go_at_call 18; ((with_reducible refine (execute_any r1 r2 r3 g fr fw fe r _).mono ?_); rintro e w4 ⟨rfl, h4⟩; have H := mayHeld_below H h4))
        | (go_at_call 16; ((with_reducible refine (rread_any r1 r2 r3 g fr fw fe r _).mono ?_); rintro e w4 ⟨rfl, h4⟩; have H := mayHeld_below H h4))
        | (go_at_call 16; ((with_reducible refine (rwrite_any r1 r2 r3 g fr fw fe r _).mono ?_); rintro e w4 ⟨rfl, h4⟩; have H := mayHeld_below H h4))
        | (go_at_call 16; ((with_reducible refine (rfetch_any r1 r2 r3 g fr fw fe r _).mono ?_); rintro e w4 ⟨rfl, h4⟩; have H := mayHeld_below H h4))
        | (go_at_call 19; ((with_reducible refine (return_any r off _).mono ?_); rintro e w4 ⟨rfl, rfl⟩)))
    go_wp2
    go_ret
    exact ⟨rfl, H.2.2⟩

end Go.Proofs.Ytfngdlahbmaebaa.W
