/-
  The law WordKnown answers true: the words by hand.
-/
import Derived.Test.YteplnmeknjjljaaAwake
import Derived.Deep.QuietTactic
import Derived.BigQuiet
namespace Go.Proofs.Yteplnmeknjjljaa.W
open Go.ChangeShapes Go.WideShapes Go.ChangeAt Go.RowKit

/-- a call that leaves its world alone, behind some draws, as the quiet walk asks for it -/
theorem still_call {P : Program} {g : FuncId} {xs : Array Value} {W : World} {i j : Nat} {r : Value}
    (c : Calls P g xs (W.drewN (i + j)) fun e u => e = .returned r ∧ W.drewN (i + j) = u) : Calls P g xs (W.drewN (i + j)) fun e u => e = .returned r ∧ ∃ m, u = W.drewN (i + m) := by
  refine c.mono ?_
  rintro e u ⟨he, hu⟩
  exact ⟨he, j, hu.symm⟩

theorem wordKnown_walk (w : World) :
    Calls Try.prog 6 #[] w fun e w' => e = .returned (.bool true) ∧ Below w.heap.size w w' := by
  go_enter Try.func6, Try.ntmps6
  go_wp2_with (first
    | (go_at_call 10; refine (awake_any _).mono ?_; rintro e w' ⟨rfl, rfl⟩))
  have hB : Below w.heap.size w (w.alloc (.cells #[.int .i64 0, .int .i64 3, .int .i64 1, .int .i64 0, .int .i64 12, .int .i64 668, .int .i64 33, .int .i64 3, .int .i64 4, .int .i64 0, .int .i64 36, .int .i64 11219468956, .int .i64 35, .int .i64 1, .int .i64 0] 42)) := (Below.refl _ _).alloc (Nat.le_refl _) _
  have c0 : (w.alloc (.cells #[.int .i64 0, .int .i64 3, .int .i64 1, .int .i64 0, .int .i64 12, .int .i64 668, .int .i64 33, .int .i64 3, .int .i64 4, .int .i64 0, .int .i64 36, .int .i64 11219468956, .int .i64 35, .int .i64 1, .int .i64 0] 42)).cell? ⟨w.heap.size, 0, none⟩ = some (.int .i64 0) := by simp [go_sem]
  have c1 : (w.alloc (.cells #[.int .i64 0, .int .i64 3, .int .i64 1, .int .i64 0, .int .i64 12, .int .i64 668, .int .i64 33, .int .i64 3, .int .i64 4, .int .i64 0, .int .i64 36, .int .i64 11219468956, .int .i64 35, .int .i64 1, .int .i64 0] 42)).cell? ⟨w.heap.size, 1, none⟩ = some (.int .i64 3) := by simp [go_sem]
  have c2 : (w.alloc (.cells #[.int .i64 0, .int .i64 3, .int .i64 1, .int .i64 0, .int .i64 12, .int .i64 668, .int .i64 33, .int .i64 3, .int .i64 4, .int .i64 0, .int .i64 36, .int .i64 11219468956, .int .i64 35, .int .i64 1, .int .i64 0] 42)).cell? ⟨w.heap.size, 2, none⟩ = some (.int .i64 1) := by simp [go_sem]
  have c3 : (w.alloc (.cells #[.int .i64 0, .int .i64 3, .int .i64 1, .int .i64 0, .int .i64 12, .int .i64 668, .int .i64 33, .int .i64 3, .int .i64 4, .int .i64 0, .int .i64 36, .int .i64 11219468956, .int .i64 35, .int .i64 1, .int .i64 0] 42)).cell? ⟨w.heap.size, 3, none⟩ = some (.int .i64 0) := by simp [go_sem]
  have c4 : (w.alloc (.cells #[.int .i64 0, .int .i64 3, .int .i64 1, .int .i64 0, .int .i64 12, .int .i64 668, .int .i64 33, .int .i64 3, .int .i64 4, .int .i64 0, .int .i64 36, .int .i64 11219468956, .int .i64 35, .int .i64 1, .int .i64 0] 42)).cell? ⟨w.heap.size, 4, none⟩ = some (.int .i64 12) := by simp [go_sem]
  have c5 : (w.alloc (.cells #[.int .i64 0, .int .i64 3, .int .i64 1, .int .i64 0, .int .i64 12, .int .i64 668, .int .i64 33, .int .i64 3, .int .i64 4, .int .i64 0, .int .i64 36, .int .i64 11219468956, .int .i64 35, .int .i64 1, .int .i64 0] 42)).cell? ⟨w.heap.size, 5, none⟩ = some (.int .i64 668) := by simp [go_sem]
  have c6 : (w.alloc (.cells #[.int .i64 0, .int .i64 3, .int .i64 1, .int .i64 0, .int .i64 12, .int .i64 668, .int .i64 33, .int .i64 3, .int .i64 4, .int .i64 0, .int .i64 36, .int .i64 11219468956, .int .i64 35, .int .i64 1, .int .i64 0] 42)).cell? ⟨w.heap.size, 6, none⟩ = some (.int .i64 33) := by simp [go_sem]
  have c7 : (w.alloc (.cells #[.int .i64 0, .int .i64 3, .int .i64 1, .int .i64 0, .int .i64 12, .int .i64 668, .int .i64 33, .int .i64 3, .int .i64 4, .int .i64 0, .int .i64 36, .int .i64 11219468956, .int .i64 35, .int .i64 1, .int .i64 0] 42)).cell? ⟨w.heap.size, 7, none⟩ = some (.int .i64 3) := by simp [go_sem]
  have c8 : (w.alloc (.cells #[.int .i64 0, .int .i64 3, .int .i64 1, .int .i64 0, .int .i64 12, .int .i64 668, .int .i64 33, .int .i64 3, .int .i64 4, .int .i64 0, .int .i64 36, .int .i64 11219468956, .int .i64 35, .int .i64 1, .int .i64 0] 42)).cell? ⟨w.heap.size, 8, none⟩ = some (.int .i64 4) := by simp [go_sem]
  have c9 : (w.alloc (.cells #[.int .i64 0, .int .i64 3, .int .i64 1, .int .i64 0, .int .i64 12, .int .i64 668, .int .i64 33, .int .i64 3, .int .i64 4, .int .i64 0, .int .i64 36, .int .i64 11219468956, .int .i64 35, .int .i64 1, .int .i64 0] 42)).cell? ⟨w.heap.size, 9, none⟩ = some (.int .i64 0) := by simp [go_sem]
  have c10 : (w.alloc (.cells #[.int .i64 0, .int .i64 3, .int .i64 1, .int .i64 0, .int .i64 12, .int .i64 668, .int .i64 33, .int .i64 3, .int .i64 4, .int .i64 0, .int .i64 36, .int .i64 11219468956, .int .i64 35, .int .i64 1, .int .i64 0] 42)).cell? ⟨w.heap.size, 10, none⟩ = some (.int .i64 36) := by simp [go_sem]
  have c11 : (w.alloc (.cells #[.int .i64 0, .int .i64 3, .int .i64 1, .int .i64 0, .int .i64 12, .int .i64 668, .int .i64 33, .int .i64 3, .int .i64 4, .int .i64 0, .int .i64 36, .int .i64 11219468956, .int .i64 35, .int .i64 1, .int .i64 0] 42)).cell? ⟨w.heap.size, 11, none⟩ = some (.int .i64 11219468956) := by simp [go_sem]
  have c12 : (w.alloc (.cells #[.int .i64 0, .int .i64 3, .int .i64 1, .int .i64 0, .int .i64 12, .int .i64 668, .int .i64 33, .int .i64 3, .int .i64 4, .int .i64 0, .int .i64 36, .int .i64 11219468956, .int .i64 35, .int .i64 1, .int .i64 0] 42)).cell? ⟨w.heap.size, 12, none⟩ = some (.int .i64 35) := by simp [go_sem]
  have c13 : (w.alloc (.cells #[.int .i64 0, .int .i64 3, .int .i64 1, .int .i64 0, .int .i64 12, .int .i64 668, .int .i64 33, .int .i64 3, .int .i64 4, .int .i64 0, .int .i64 36, .int .i64 11219468956, .int .i64 35, .int .i64 1, .int .i64 0] 42)).cell? ⟨w.heap.size, 13, none⟩ = some (.int .i64 1) := by simp [go_sem]
  have c14 : (w.alloc (.cells #[.int .i64 0, .int .i64 3, .int .i64 1, .int .i64 0, .int .i64 12, .int .i64 668, .int .i64 33, .int .i64 3, .int .i64 4, .int .i64 0, .int .i64 36, .int .i64 11219468956, .int .i64 35, .int .i64 1, .int .i64 0] 42)).cell? ⟨w.heap.size, 14, none⟩ = some (.int .i64 0) := by simp [go_sem]
  generalize w.alloc (.cells #[.int .i64 0, .int .i64 3, .int .i64 1, .int .i64 0, .int .i64 12, .int .i64 668, .int .i64 33, .int .i64 3, .int .i64 4, .int .i64 0, .int .i64 36, .int .i64 11219468956, .int .i64 35, .int .i64 1, .int .i64 0] 42) = W0 at *
  go_loopw [3] (fun i W => ∃ (k : Int) (n : Nat), 0 ≤ k ∧ k ≤ 5 ∧ i = .int .i64 k ∧ W = W0.drewN n) (fun i _ => 5 - (intOf i).toNat)
  case atStart => exact ⟨0, 0, by omega, by omega, rfl, rfl⟩
  case round =>
    obtain ⟨k, n, k0, k5, rfl, rfl⟩ := hrel
    have hk : k = 0 ∨ k = 1 ∨ k = 2 ∨ k = 3 ∨ k = 4 ∨ k = 5 := by omega
    rcases hk with rfl | rfl | rfl | rfl | rfl | rfl
    · have e1 : (wrap64 (gv 11219468956 0 3) != 1) = false := by
        rw [show gv 11219468956 0 3 = 1 from by decide]; simp [wrap64]
      go_wp2
      go_quiet ((go_at_call 11; exact still_call (get_ok _ _ _ _ (u64_of (by omega) (by omega)) (by omega) (by omega) (by omega) (by omega))))
      go_wp2
      go_roundw
      case rel => exact ⟨1, n + nq, by omega, by omega, rfl, rfl⟩
      case measure => simp [intOf]
    · have e1 : (wrap64 (gv 11219468956 0 12) != 668) = false := by
        rw [show gv 11219468956 0 12 = 668 from by decide]; simp [wrap64]
      go_wp2
      go_quiet ((go_at_call 11; exact still_call (get_ok _ _ _ _ (u64_of (by omega) (by omega)) (by omega) (by omega) (by omega) (by omega))))
      go_wp2
      go_roundw
      case rel => exact ⟨2, n + nq, by omega, by omega, rfl, rfl⟩
      case measure => simp [intOf]
    · have e1 : (wrap64 (gv 11219468956 33 3) != 4) = false := by
        rw [show gv 11219468956 33 3 = 4 from by decide]; simp [wrap64]
      go_wp2
      go_quiet ((go_at_call 11; exact still_call (get_ok _ _ _ _ (u64_of (by omega) (by omega)) (by omega) (by omega) (by omega) (by omega))))
      go_wp2
      go_roundw
      case rel => exact ⟨3, n + nq, by omega, by omega, rfl, rfl⟩
      case measure => simp [intOf]
    · have e1 : (wrap64 (gv 11219468956 0 36) != 11219468956) = false := by
        rw [show gv 11219468956 0 36 = 11219468956 from by decide]; simp [wrap64]
      go_wp2
      go_quiet ((go_at_call 11; exact still_call (get_ok _ _ _ _ (u64_of (by omega) (by omega)) (by omega) (by omega) (by omega) (by omega))))
      go_wp2
      go_roundw
      case rel => exact ⟨4, n + nq, by omega, by omega, rfl, rfl⟩
      case measure => simp [intOf]
    · have e1 : (wrap64 (gv 11219468956 35 1) != 0) = false := by
        rw [show gv 11219468956 35 1 = 0 from by decide]; simp [wrap64]
      go_wp2
      go_quiet ((go_at_call 11; exact still_call (get_ok _ _ _ _ (u64_of (by omega) (by omega)) (by omega) (by omega) (by omega) (by omega))))
      go_wp2
      go_roundw
      case rel => exact ⟨5, n + nq, by omega, by omega, rfl, rfl⟩
      case measure => simp [intOf]
    · have e1 : (pv 0 12 3 63 == 14680064) = true := by decide
      have e2 : (sgnv 34359738368 == -34359738368) = true := by decide
      have e3 : (sgnv 68719476736 == 0) = true := by decide
      have e4 : (cutv 68719476741 == 5) = true := by decide
      go_wp2_with (first
        | (go_at_call 11; refine (get_no _ _ _ _ (by omega) (by omega) (by omega)).mono ?_; rintro e w' ⟨rfl, rfl⟩)
        | (go_at_call 13; (first
            | refine (put_no _ _ _ _ _ (by omega) (by omega) (by omega)).mono ?_
            | refine (put_ok _ _ _ _ _ (u64_of (by omega) (by omega)) (u64_of (by omega) (by omega)) (by omega) (by omega) (by omega) (by omega)).mono ?_); rintro e w' ⟨rfl, rfl⟩)
        | (go_at_call 17; refine (of_any _ _).mono ?_; rintro e w' ⟨rfl, rfl⟩)
        | (go_at_call 19; refine (sign_any _ _).mono ?_; rintro e w' ⟨rfl, rfl⟩))
      go_ret
      exact ⟨rfl, ⟨hB.os, hB.tape, hB.output, hB.size, hB.block⟩⟩

end Go.Proofs.Yteplnmeknjjljaa.W
