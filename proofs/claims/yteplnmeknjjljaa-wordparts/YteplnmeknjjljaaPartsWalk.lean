/-
  The law WordParts answers true at any word and any cut: a word cut in two fields and put together again is the word.
-/
import Derived.Test.YteplnmeknjjljaaAwake
namespace Go.Proofs.Yteplnmeknjjljaa.W
open Go.ChangeShapes Go.WideShapes Go.ChangeAt Go.RowKit

theorem parts_nat (x k : Nat) (h0 : 1 ≤ k) (h1 : k ≤ 35) :
    putN (putN 0 (36 - k) k (fieldN x (36 - k) k)) 0 (36 - k) (fieldN x 0 (36 - k)) = x % 68719476736 := by
  refine Nat.eq_of_testBit_eq fun i => ?_
  have h36 : (68719476736 : Nat) = 2 ^ 36 := by decide
  rw [put_bit _ _ _ _ _ (by omega), put_bit _ _ _ _ _ (by omega), h36, Nat.testBit_mod_two_pow]
  unfold fieldN
  simp only [Nat.testBit_mod_two_pow, Nat.testBit_div_two_pow]
  by_cases c : i < 36
  · by_cases d : i < 36 - k
    · rw [if_pos (by omega)]
      simp [c, d]
    · rw [if_neg (by omega), if_pos (by omega)]
      have e1 : i - (36 - k) < k := by omega
      have e2 : i - (36 - k) + (36 - k) = i := by omega
      simp [c, e1, e2]
  · simp [c]

theorem parts_int (x k : Int) (hx : U64 x) (h0 : 1 ≤ k) (h1 : k ≤ 35) :
    pv (pv 0 0 k (gv x 0 k)) k (36 - k) (gv x k (36 - k)) = bits .and .u64 x 68719476735 := by
  rw [mask_int x hx.1 hx.2]
  obtain ⟨n, rfl⟩ := Int.eq_ofNat_of_zero_le hx.1
  obtain ⟨j, rfl⟩ := Int.eq_ofNat_of_zero_le (show 0 ≤ k by omega)
  have h := parts_nat n j (by omega) (by omega)
  unfold pv gv
  simp only [Int.toNat_natCast]
  have e1 : (36 - 0 - (j : Int)).toNat = 36 - j := by omega
  have e2 : (36 - (j : Int) - (36 - (j : Int))).toNat = 0 := by omega
  have e3 : (36 - (j : Int)).toNat = 36 - j := by omega
  rw [e1, e2, e3]
  rw [show (0 : Int).toNat = 0 from rfl, h]; omega

theorem wordParts_walk (x c : Int) (hx : U64 x) (c0 : 0 ≤ c) (c1 : c ≤ 255) (w : World) :
    Calls Try.prog 8 #[.int .u64 x, .int .u8 c] w fun e w' => e = .returned (.bool true) ∧ w = w' := by
  have k0 : 0 ≤ c % 35 := by omega
  have k1 : c % 35 ≤ 34 := by omega
  have e1 : (pv (pv 0 0 (1 + c % 35) (gv x 0 (1 + c % 35))) (1 + c % 35) (36 - (1 + c % 35)) (gv x (1 + c % 35) (36 - (1 + c % 35))) == bits .and .u64 x 68719476735) = true := by
    rw [beq_iff_eq]; exact parts_int x _ hx (by omega) (by omega)
  have e2 := gv_lt x 0 (1 + c % 35) (by omega)
  have e3 := gv_lt x (1 + c % 35) (36 - (1 + c % 35)) (by omega)
  go_enter Try.func8, Try.ntmps8
  go_wp2_with (first
    | (go_at_call 10; refine (awake_any _).mono ?_; rintro e w' ⟨rfl, rfl⟩)
    | (go_at_call 11; refine (get_ok _ _ _ _ hx (by omega) (by omega) (by omega) (by omega)).mono ?_; rintro e w' ⟨rfl, rfl⟩)
    | (go_at_call 13; refine (put_ok _ _ _ _ _ (by first | exact u64_of (by omega) (by omega) | exact pv_u64 _ _ _ _ (by omega) (by omega) (by omega)) (gv_u64 _ _ _ (by omega)) (by omega) (by omega) (by omega) (by omega)).mono ?_; rintro e w' ⟨rfl, rfl⟩))
  go_ret
  exact ⟨rfl, rfl⟩

end Go.Proofs.Yteplnmeknjjljaa.W
