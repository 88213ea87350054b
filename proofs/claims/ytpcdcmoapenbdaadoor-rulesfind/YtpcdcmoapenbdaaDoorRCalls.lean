/-
  What each function of package ring, and each of the document's own answers for rings, returns at any arguments: one contract a function.
-/
import Derived.Test.YtpcdcmoapenbdaaDoorProg
import Derived.Test.YtpcdcmoapenbdaaDoorRMath
import Derived.WalkKit
import Derived.ProofKit
import Derived.Below
import Derived.Lib.Hide
namespace Go.Proofs.YtpcdcmoapenbdaaDoor.W
open Go.ChangeShapes Go.WideShapes Go.ChangeAt Go.RowKit

/-- brackets and flags as values, and in blocks of their own -/
@[reducible] def BV (r1 r2 r3 g : Int) : Value := .agg #[.int .i64 r1, .int .i64 r2, .int .i64 r3, .int .i64 g]
@[reducible] def BO (r1 r2 r3 g : Int) : Obj := .cells #[.int .i64 r1, .int .i64 r2, .int .i64 r3, .int .i64 g] 34
@[reducible] def FV (a b c : Bool) : Value := .agg #[.bool a, .bool b, .bool c]
@[reducible] def FO (a b c : Bool) : Obj := .cells #[.bool a, .bool b, .bool c] 89

theorem old_at {W V : World} (h : Below W.heap.size W V) (b i : Nat) (lt : b < W.heap.size) : V.cell? ⟨b, i, none⟩ = W.cell? ⟨b, i, none⟩ := Below.cell h lt
theorem retI {k : IntKind} {a b : Int} (h : a = b) : Ending.returned (.int k a) = .returned (.int k b) := by rw [h]
theorem retB {a b : Bool} (h : a = b) : Ending.returned (.bool a) = .returned (.bool b) := by rw [h]
theorem retT {k l : IntKind} {a b c d : Int} (h : a = b) (h' : c = d) : Ending.returned (.tuple #[.int k a, .int l c]) = .returned (.tuple #[.int k b, .int l d]) := by rw [h, h']

theorem within_yes (n a b : Int) (w : World) (h : inr n a b = true) : Calls Tryd.prog 71 #[.int .i64 n, .int .i64 a, .int .i64 b] w fun e w' => e = .returned (.bool true) ∧ w = w' := by
  obtain ⟨h0, h1⟩ := inr_yes h
  clear h
  go_enter Tryd.func71, Tryd.ntmps71
  go_wp2
  go_ret
  exact ⟨rfl, rfl⟩

theorem within_no (n a b : Int) (w : World) (h : inr n a b = false) : Calls Tryd.prog 71 #[.int .i64 n, .int .i64 a, .int .i64 b] w fun e w' => e = .returned (.bool false) ∧ w = w' := by
  have h' := inr_no h
  by_cases c : a ≤ n
  · have d : decide (n ≤ b) = false := decide_eq_false (by omega)
    clear h h'
    go_enter Tryd.func71, Tryd.ntmps71
    go_wp2
    go_ret
    exact ⟨rfl, rfl⟩
  · have d : decide (a ≤ n) = false := decide_eq_false c
    clear h h' c
    go_enter Tryd.func71, Tryd.ntmps71
    go_wp2
    go_ret
    exact ⟨rfl, rfl⟩

theorem may_yes (r1 r2 r3 g : Int) (w : World) (h : bmay r1 r2 r3 g = true) : Calls Tryd.prog 56 #[BV r1 r2 r3 g] w fun e w' => e = .returned (.bool true) ∧ w' = w.alloc (BO r1 r2 r3 g) := by
  obtain ⟨h1, h2, h3, h4, h5, h6⟩ := bmay_yes h
  have hi := inr_mk h5 h6
  clear h h5 h6
  go_enter Tryd.func56, Tryd.ntmps56
  go_wp2_with (go_at_call 71; ((with_reducible refine (within_yes g 0 1024 _ hi).mono ?_); rintro e w' ⟨rfl, rfl⟩))
  go_ret
  exact ⟨rfl, rfl⟩

theorem may_no (r1 r2 r3 g : Int) (w : World) (h : bmay r1 r2 r3 g = false) : Calls Tryd.prog 56 #[BV r1 r2 r3 g] w fun e w' => e = .returned (.bool false) ∧ w' = w.alloc (BO r1 r2 r3 g) := by
  have K : decide (0 ≤ r1) = false ∨ (0 ≤ r1 ∧ decide (r1 ≤ r2) = false) ∨ (0 ≤ r1 ∧ r1 ≤ r2 ∧ decide (r2 ≤ r3) = false) ∨ (0 ≤ r1 ∧ r1 ≤ r2 ∧ r2 ≤ r3 ∧ decide (r3 ≤ 7) = false) ∨ (0 ≤ r1 ∧ r1 ≤ r2 ∧ r2 ≤ r3 ∧ r3 ≤ 7 ∧ inr g 0 1024 = false) := by
    have h' := bmay_no h
    simp only [decide_eq_false_iff_not]
    by_cases c : 0 ≤ g ∧ g ≤ 1024
    · omega
    · have := inr_mkno (n := g) (a := 0) (b := 1024) (by omega)
      by_cases c1 : 0 ≤ r1 ∧ r1 ≤ r2 ∧ r2 ≤ r3 ∧ r3 ≤ 7
      · exact .inr (.inr (.inr (.inr ⟨c1.1, c1.2.1, c1.2.2.1, c1.2.2.2, this⟩)))
      · omega
  clear h
  rcases K with k1 | ⟨k1, k2⟩ | ⟨k1, k2, k3⟩ | ⟨k1, k2, k3, k4⟩ | ⟨k1, k2, k3, k4, k5⟩
  all_goals
    go_enter Tryd.func56, Tryd.ntmps56
    go_wp2_with (go_at_call 71; ((with_reducible refine (within_no g 0 1024 _ k5).mono ?_); rintro e w' ⟨rfl, rfl⟩))
    go_ret
    exact ⟨rfl, rfl⟩

theorem rmay_yes (r1 r2 r3 g : Int) (w : World) (h : bmay r1 r2 r3 g = true) : Calls Tryd.prog 67 #[BV r1 r2 r3 g] w fun e w' => e = .returned (.bool true) ∧ w' = w.alloc (BO r1 r2 r3 g) := by
  obtain ⟨h1, h2, h3, h4, h5, h6⟩ := bmay_yes h
  clear h
  go_enter Tryd.func67, Tryd.ntmps67
  go_wp2
  go_ret
  exact ⟨rfl, rfl⟩

theorem rmay_no (r1 r2 r3 g : Int) (w : World) (h : bmay r1 r2 r3 g = false) : Calls Tryd.prog 67 #[BV r1 r2 r3 g] w fun e w' => e = .returned (.bool false) ∧ w' = w.alloc (BO r1 r2 r3 g) := by
  have K : decide (0 ≤ r1) = false ∨ (0 ≤ r1 ∧ decide (r1 ≤ r2) = false) ∨ (0 ≤ r1 ∧ r1 ≤ r2 ∧ decide (r2 ≤ r3) = false) ∨ (0 ≤ r1 ∧ r1 ≤ r2 ∧ r2 ≤ r3 ∧ decide (r3 ≤ 7) = false) ∨ (0 ≤ r1 ∧ r1 ≤ r2 ∧ r2 ≤ r3 ∧ r3 ≤ 7 ∧ decide (0 ≤ g) = false) ∨ (0 ≤ r1 ∧ r1 ≤ r2 ∧ r2 ≤ r3 ∧ r3 ≤ 7 ∧ 0 ≤ g ∧ decide (g ≤ 1024) = false) := by
    have h' := bmay_no h
    simp only [decide_eq_false_iff_not]
    omega
  clear h
  rcases K with k1 | ⟨k1, k2⟩ | ⟨k1, k2, k3⟩ | ⟨k1, k2, k3, k4⟩ | ⟨k1, k2, k3, k4, k5⟩ | ⟨k1, k2, k3, k4, k5, k6⟩
  all_goals
    go_enter Tryd.func67, Tryd.ntmps67
    go_wp2
    go_ret
    exact ⟨rfl, rfl⟩

theorem may_any (r1 r2 r3 g : Int) (w : World) : Calls Tryd.prog 56 #[BV r1 r2 r3 g] w fun e w' => e = .returned (.bool (bmay r1 r2 r3 g)) ∧ w' = w.alloc (BO r1 r2 r3 g) := by
  cases h : bmay r1 r2 r3 g with
  | false => exact may_no r1 r2 r3 g w h
  | true => exact may_yes r1 r2 r3 g w h

theorem rmay_any (r1 r2 r3 g : Int) (w : World) : Calls Tryd.prog 67 #[BV r1 r2 r3 g] w fun e w' => e = .returned (.bool (bmay r1 r2 r3 g)) ∧ w' = w.alloc (BO r1 r2 r3 g) := by
  cases h : bmay r1 r2 r3 g with
  | false => exact rmay_no r1 r2 r3 g w h
  | true => exact rmay_yes r1 r2 r3 g w h

theorem one_new (w : World) (a : Obj) : Below w.heap.size w (w.alloc a) := (Below.refl _ _).alloc (Nat.le_refl _) _
theorem two_new (w : World) (a b : Obj) : Below w.heap.size w ((w.alloc a).alloc b) := (one_new w a).alloc (by simp) _
theorem then_new {w v : World} {a b : Obj} (h : Below ((w.alloc a).alloc b).heap.size ((w.alloc a).alloc b) v) : Below w.heap.size w v := (two_new w a b).trans (h.mono (by simp; omega))

end Go.Proofs.YtpcdcmoapenbdaaDoor.W
