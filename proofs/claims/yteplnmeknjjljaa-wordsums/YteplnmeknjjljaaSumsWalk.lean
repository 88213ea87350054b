/-
  The law WordSums answers true at any two words and any number: sums and differences go round, signs are those of two's complement.
-/
import Derived.Test.YteplnmeknjjljaaAwake
namespace Go.Proofs.Yteplnmeknjjljaa.W
open Go.ChangeShapes Go.WideShapes Go.ChangeAt Go.RowKit

theorem sums_bd (a b : Int) : (0 ≤ addv a b ∧ addv a b ≤ 68719476735) ∧ 0 ≤ subv a b ∧ subv a b ≤ 68719476735 := by unfold addv subv; omega
theorem sgnv_bd' (a : Int) : -34359738368 ≤ sgnv a ∧ sgnv a < 34359738368 := by unfold sgnv; omega

theorem wordSums_walk (a b n : Int) (ha : U64 a) (hb : U64 b) (w : World) :
    Calls Try.prog 4 #[.int .u64 a, .int .u64 b, .int .i64 n] w fun e w' => e = .returned (.bool true) ∧ w = w' := by
  have e1 : decide (addv a b ≤ 68719476735) = true := by have := sums_bd a b; simp; omega
  have e2 : decide (subv a b ≤ 68719476735) = true := by have := sums_bd a b; simp; omega
  have e3 : decide (cutv n ≤ 68719476735) = true := by have := cutv_bd n; simp; omega
  have e4 : (bits .and .u64 (IntKind.u64.wrap (IntKind.u64.wrap (addv a b - cutv a) - cutv b)) 68719476735 == 0) = true := by
    rw [beq_iff_eq, mask_wrap, IntKind.wrap_u64]; unfold addv cutv; omega
  have e5 : (addv (subv a b) b == cutv a) = true := by rw [beq_iff_eq]; unfold addv subv cutv; omega
  have e6 : (cutv (sgnv a) == cutv a) = true := by rw [beq_iff_eq]; unfold cutv sgnv; omega
  have e7 : ((wrap64 (n - sgnv (cutv n))).tmod 68719476736 == 0) = true := by
    rw [beq_iff_eq]
    apply Int.tmod_eq_zero_of_dvd
    unfold wrap64 sgnv cutv
    omega
  have e8 : (addv a b == addv b a) = true := by rw [beq_iff_eq]; unfold addv; omega
  go_enter Try.func4, Try.ntmps4
  go_wp2_with (first
    | (go_at_call 10; refine (awake_any _).mono ?_; rintro e w' ⟨rfl, rfl⟩)
    | (go_at_call 17; refine (of_any _ _).mono ?_; rintro e w' ⟨rfl, rfl⟩)
    | (go_at_call 19; refine (sign_any _ _).mono ?_; rintro e w' ⟨rfl, rfl⟩)
    | (go_at_call 20; refine (rsign_any _ _ ha).mono ?_; rintro e w' ⟨rfl, rfl⟩)
    | (go_at_call 18; refine (cut_any _ _ (by first | exact ha | exact hb)).mono ?_; rintro e w' ⟨rfl, rfl⟩)
    | (go_at_call 15; refine (add_any _ _ _).mono ?_; rintro e w' ⟨rfl, rfl⟩)
    | (go_at_call 16; refine (sub_any _ _ _).mono ?_; rintro e w' ⟨rfl, rfl⟩))
  go_ret
  exact ⟨rfl, rfl⟩

end Go.Proofs.Yteplnmeknjjljaa.W
