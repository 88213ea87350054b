/-
  The law RingBack answers true: a call and its return, whoever made the pointer, never end in a lower ring than the caller's.
-/
import Derived.Test.YtfngdlahbmaebaaRFallsWalk
import Derived.Test.YtfngdlahbmaebaaRHeld
namespace Go.Proofs.Ytfngdlahbmaebaa.W
open Go.ChangeShapes Go.WideShapes Go.ChangeAt Go.RowKit

theorem back_walk (r1 r2 r3 g : Int) (a b c : Int) (w : World) (a0 : 0 ≤ a) (a1 : a ≤ 255) (b0 : 0 ≤ b) (b1 : b ≤ 255) (c0 : 0 ≤ c) (c1 : c ≤ 255) :
    Calls Try.prog 8 #[BV r1 r2 r3 g, .agg #[.int .u8 a, .int .u8 b, .int .u8 c]] w fun e w' => e = .returned (.bool true) ∧ Below w.heap.size w w' := by
  go_enter Try.func8, Try.ntmps8
  go_wp2_with (first
    | (go_at_call 10; ((with_reducible refine (awake_any _).mono ?_); rintro e w1 ⟨rfl, h1⟩; have k1 := old_at h1; have y1 : w.heap.size < w1.heap.size := (by have := h1.size; simp at this; omega); have z1 : w.heap.size + 1 < w1.heap.size := (by have := h1.size; simp at this; omega))))
  go_quiet (fail)
  have p0 : 0 ≤ a % 8 := by omega
  have p7 : a % 8 ≤ 7 := by omega
  generalize a % 8 = p at *
  generalize b % 4 = q at *
  generalize c % 8 = s at *
  clear b0 b1 c0 c1 a0 a1
  have d0 : decide (p < 0) = false := decide_eq_false (by omega)
  have d7 : decide (7 < p) = false := decide_eq_false (by omega)
  have hw := bel2 (two_new _ _ _) h1
  have HC := Lib.hid (fun W => call_any r1 r2 r3 g false false true p q W)
  rcases call_ends r1 r2 r3 g true p q with ⟨e1, e2⟩ | ⟨e1, hm, _, g0, g7, g1, g2, e2⟩ | ⟨e1, hm, _, g0, g7, g2, g3, g4, g5, e2⟩
  · clear e2
    go_wp2_with (go_at_call 11; ((with_reducible refine (HC.out _).mono ?_); rintro e w2 ⟨rfl, h2⟩))
    go_ret
    exact ⟨rfl, bel2 hw (of_drewN h2)⟩
  · have e3 : decide (p ≤ rtv p p) = true := decide_eq_true (by unfold rtv; omega)
    have e4 : decide (p ≤ rtv p s) = true := decide_eq_true (by unfold rtv; omega)
    rw [e1, e2] at HC
    clear e1 e2 hm g0 g7 g1 g2
    go_wp2_with (first
      | (go_at_call 11; ((with_reducible refine (HC.out _).mono ?_); rintro e w2 ⟨rfl, h2⟩))
      | (go_at_call 19; ((with_reducible refine (return_any p p _).mono ?_); rintro e w3 ⟨rfl, rfl⟩))
      | (go_at_call 19; ((with_reducible refine (return_any p s _).mono ?_); rintro e w3 ⟨rfl, rfl⟩)))
    go_ret
    exact ⟨rfl, bel2 hw (of_drewN h2)⟩
  · have m := bmay_yes hm
    have e3 : decide (r2 ≤ rtv r2 p) = true := decide_eq_true (by unfold rtv; omega)
    have e4 : decide (r2 ≤ rtv r2 s) = true := decide_eq_true (by unfold rtv; omega)
    have e5 : decide (p ≤ rtv r2 p) = true := decide_eq_true (by unfold rtv; omega)
    have e6 : decide (r2 ≤ p) = true := decide_eq_true (by omega)
    rw [e1, e2] at HC
    clear e1 e2 hm g0 g7 g2 g3 g4 g5 m
    go_wp2_with (first
      | (go_at_call 11; ((with_reducible refine (HC.out _).mono ?_); rintro e w2 ⟨rfl, h2⟩))
      | (go_at_call 19; ((with_reducible refine (return_any r2 p _).mono ?_); rintro e w3 ⟨rfl, rfl⟩))
      | (go_at_call 19; ((with_reducible refine (return_any r2 s _).mono ?_); rintro e w3 ⟨rfl, rfl⟩)))
    go_ret
    exact ⟨rfl, bel2 hw (of_drewN h2)⟩

end Go.Proofs.Ytfngdlahbmaebaa.W
