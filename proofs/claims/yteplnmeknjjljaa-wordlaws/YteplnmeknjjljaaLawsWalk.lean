/-
  The law WordLaws answers true at any three words: sums do not hang on the order, what is added and taken away is as it was, a number below nought goes round.
-/
import Derived.Test.YteplnmeknjjljaaAwake
namespace Go.Proofs.Yteplnmeknjjljaa.W
open Go.ChangeShapes Go.WideShapes Go.ChangeAt Go.RowKit

theorem sgnv_bd (a : Int) : -34359738368 ≤ sgnv a ∧ sgnv a < 34359738368 := by unfold sgnv; omega

theorem wordLaws_walk (a b c : Int) (ha : U64 a) (w : World) :
    Calls Try.prog 7 #[.int .u64 a, .int .u64 b, .int .u64 c] w fun e w' => e = .returned (.bool true) ∧ w = w' := by
  have e1 : (addv (addv a b) c == addv a (addv b c)) = true := by rw [beq_iff_eq]; unfold addv; omega
  have e2 : (subv (addv a b) b == bits .and .u64 a 68719476735) = true := by
    rw [beq_iff_eq, mask_int a ha.1 ha.2]; unfold subv addv; omega
  have e3 : (subv a a == 0) = true := by rw [beq_iff_eq]; unfold subv; omega
  have e4 : (addv a (subv 0 a) == 0) = true := by rw [beq_iff_eq]; unfold addv subv; omega
  have e5 : (cutv (-sgnv a) == subv 0 a) = true := by rw [beq_iff_eq]; unfold cutv sgnv subv; omega
  have e6 : (decide (sgnv a < 0) == (bits .and .u64 (a / 34359738368) 1 == 1)) = true := by
    obtain ⟨h0, h1⟩ := ha
    rw [beq_iff_eq, one_int _ (by omega) (by omega), Bool.eq_iff_iff, decide_eq_true_iff, beq_iff_eq]
    unfold sgnv; omega
  obtain ⟨b0, b1⟩ := sgnv_bd a
  go_enter Try.func7, Try.ntmps7
  go_wp2_with (first
    | (go_at_call 10; refine (awake_any _).mono ?_; rintro e w' ⟨rfl, rfl⟩)
    | (go_at_call 17; refine (of_any _ _).mono ?_; rintro e w' ⟨rfl, rfl⟩)
    | (go_at_call 19; refine (sign_any _ _).mono ?_; rintro e w' ⟨rfl, rfl⟩)
    | (go_at_call 15; refine (add_any _ _ _).mono ?_; rintro e w' ⟨rfl, rfl⟩)
    | (go_at_call 16; refine (sub_any _ _ _).mono ?_; rintro e w' ⟨rfl, rfl⟩))
  go_ret
  exact ⟨rfl, rfl⟩

end Go.Proofs.Yteplnmeknjjljaa.W
