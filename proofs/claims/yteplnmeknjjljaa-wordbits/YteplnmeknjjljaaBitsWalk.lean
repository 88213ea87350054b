/-
  The law WordBits answers true at any word and any place: bit by bit a word is what it is made of.
-/
import Derived.Test.YteplnmeknjjljaaAwake
namespace Go.Proofs.Yteplnmeknjjljaa.W
open Go.ChangeShapes Go.WideShapes Go.ChangeAt Go.RowKit

/-- the highest k bits of a word, noughts behind -/
def topN (x k : Nat) : Nat := 2 ^ (36 - k) * (x % 68719476736 / 2 ^ (36 - k))
def topv (x k : Int) : Int := ((topN x.toNat k.toNat : Nat) : Int)

theorem top_bit (x k i : Nat) : (topN x k).testBit i = (decide (36 - k ≤ i) && (decide (i < 36) && x.testBit i)) := by
  unfold topN
  have h36 : (68719476736 : Nat) = 2 ^ 36 := by decide
  rw [h36, Nat.testBit_two_pow_mul, Nat.testBit_div_two_pow, Nat.testBit_mod_two_pow]
  by_cases c : 36 - k ≤ i
  · have e : i - (36 - k) + (36 - k) = i := by omega
    rw [e]
  · simp [c]

theorem top_step (x k : Nat) (h : k ≤ 35) : putN (topN x k) (35 - k) 1 (fieldN x (35 - k) 1) = topN x (k + 1) := by
  refine Nat.eq_of_testBit_eq fun i => ?_
  rw [put_bit _ _ _ _ _ (by omega), top_bit, top_bit]
  unfold fieldN
  rw [Nat.testBit_mod_two_pow, Nat.testBit_div_two_pow]
  by_cases c : i < 36
  · by_cases d : i = 35 - k
    · subst d
      rw [if_pos (by omega)]
      simp [c]
    · rw [if_neg (by omega)]
      have e1 : decide (36 - k ≤ i) = decide (36 - (k + 1) ≤ i) := by
        rw [Bool.eq_iff_iff, decide_eq_true_iff, decide_eq_true_iff]; omega
      rw [e1]; simp [c]
  · simp [c]

theorem top_lt (x k : Nat) : topN x k < 68719476736 := by
  have : topN x k ≤ x % 68719476736 := Nat.mul_div_le _ _
  omega

theorem flip_nat (x s : Nat) (h : s ≤ 35) : putN x s 1 (1 - fieldN x s 1) ^^^ (x % 68719476736) = 2 ^ s := by
  refine Nat.eq_of_testBit_eq fun i => ?_
  have h36 : (68719476736 : Nat) = 2 ^ 36 := by decide
  rw [Nat.testBit_xor, put_bit _ _ _ _ _ (by omega), h36, Nat.testBit_mod_two_pow, Nat.testBit_two_pow]
  by_cases c : i < 36
  · by_cases d : i = s
    · subst d
      rw [if_pos (by omega)]
      have e : fieldN x i 1 = (x.testBit i).toNat := by
        unfold fieldN; rw [Nat.pow_one, Nat.testBit_eq_decide_div_mod_eq]
        rcases Nat.mod_two_eq_zero_or_one (x / 2 ^ i) with q | q <;> simp [q]
      rw [e]
      cases hb : x.testBit i <;> simp [c]
    · rw [if_neg (by omega)]
      have e : ¬ s = i := fun q => d q.symm
      simp [e]
  · have e : ¬ s = i := by omega
    simp [c, e]

theorem topv_zero (x : Int) : topv x 0 = 0 := by
  unfold topv topN
  have : x.toNat % 68719476736 / 2 ^ 36 = 0 := Nat.div_eq_of_lt (Nat.mod_lt _ (by decide))
  simp [this]

theorem topv_all (x : Int) (hx : U64 x) : topv x 36 = bits .and .u64 x 68719476735 := by
  rw [mask_int x hx.1 hx.2]
  have := hx.1
  unfold topv topN
  rw [show (36 : Int).toNat = 36 from rfl]
  simp only [Nat.sub_self, Nat.pow_zero, Nat.one_mul, Nat.div_one]
  omega

theorem topv_step (x k : Int) (h0 : 0 ≤ k) (h1 : k ≤ 35) : pv (topv x k) k 1 (gv x k 1) = topv x (k + 1) := by
  obtain ⟨j, rfl⟩ := Int.eq_ofNat_of_zero_le h0
  have h := top_step x.toNat j (by omega)
  unfold pv gv topv
  have e1 : (36 - (j : Int) - 1).toNat = 35 - j := by omega
  have e2 : ((j : Int) + 1).toNat = j + 1 := by omega
  simp only [Int.toNat_natCast, e1, e2, show (1 : Int).toNat = 1 from rfl, h]

theorem topv_u64 (x k : Int) : U64 (topv x k) := by
  have := top_lt x.toNat k.toNat
  unfold topv; exact ⟨by omega, by omega⟩

theorem gv_one (x k : Int) : 0 ≤ gv x k 1 ∧ gv x k 1 ≤ 1 := by
  have h1 := field_lt x.toNat (36 - k - 1).toNat 1
  have e : (1 : Int).toNat = 1 := rfl
  unfold gv; rw [e]; omega

theorem flip_int (x k : Int) (hx : U64 x) (h0 : 0 ≤ k) (h1 : k ≤ 35) :
    bits .xor .u64 (pv x k 1 (1 - gv x k 1)) (topv x 36) = IntKind.u64.wrap (2 ^ (35 - k).toNat) := by
  rw [topv_all x hx, mask_int x hx.1 hx.2]
  obtain ⟨n, rfl⟩ := Int.eq_ofNat_of_zero_le hx.1
  obtain ⟨j, rfl⟩ := Int.eq_ofNat_of_zero_le h0
  have h := flip_nat n (35 - j) (by omega)
  have g := gv_one n j
  have hl := put_lt n (35 - j) 1 (1 - fieldN n (35 - j) 1) (by omega)
  have e1 : (36 - (j : Int) - 1).toNat = 35 - j := by omega
  have e3 : (35 - (j : Int)).toNat = 35 - j := by omega
  have hp : 2 ^ (35 - j) ≤ 2 ^ 35 := Nat.pow_le_pow_right (by omega) (by omega)
  have h3 : (2 : Int) ^ (35 - j) = ((2 ^ (35 - j) : Nat) : Int) := by simp
  unfold pv gv
  unfold gv at g
  simp only [Int.toNat_natCast, e1, e3, show (1 : Int).toNat = 1 from rfl] at g ⊢
  have e4 : (1 - ((fieldN n (35 - j) 1 : Nat) : Int)).toNat = 1 - fieldN n (35 - j) 1 := by omega
  have e5 : (n : Int) % 68719476736 = ((n % 68719476736 : Nat) : Int) := by omega
  rw [e4, e5, bits_xor_u64_nat _ _ (by omega) (by omega), h, h3, wrap_nat]
  omega

theorem u64_flip (x k : Int) : U64 (1 - gv x k 1) := by have := gv_one x k; exact ⟨by omega, by omega⟩

theorem wordBits_walk (x c : Int) (hx : U64 x) (c0 : 0 ≤ c) (c1 : c ≤ 255) (w : World) :
    Calls Try.prog 9 #[.int .u64 x, .int .u8 c] w fun e w' => e = .returned (.bool true) ∧ w = w' := by
  have H0 := Lib.hid (topv_zero x)
  go_enter Try.func9, Try.ntmps9
  go_wp2_with (go_at_call 10; refine (awake_any _).mono ?_; rintro e w' ⟨rfl, rfl⟩)
  go_loop [5, 6] (fun v i => ∃ k : Int, 0 ≤ k ∧ k ≤ 36 ∧ i = .int .i64 k ∧ v = .int .u64 (topv x k)) (fun _ i => (36 - intOf i).toNat)
  case atStart => exact ⟨0, by omega, by omega, rfl, by rw [H0.out]⟩
  case round =>
    obtain ⟨k, k0, k1, rfl, rfl⟩ := hrel
    by_cases hlt : k < 36
    · have g := gv_one x k
      have e1 : decide (1 < gv x k 1) = false := by simp; omega
      have HS := Lib.hid (topv_step x k k0 (by omega))
      go_wp2_with (first
        | (go_at_call 11; refine (get_ok _ _ _ _ hx (by omega) (by omega) (by omega) (by omega)).mono ?_; rintro e w' ⟨rfl, rfl⟩)
        | (go_at_call 13; refine (put_ok _ _ _ _ _ (topv_u64 _ _) (gv_u64 _ _ _ (by omega)) (by omega) (by omega) (by omega) (by omega)).mono ?_; rintro e w' ⟨rfl, rfl⟩))
      go_round
      case rel => exact ⟨k + 1, by omega, by omega, rfl, by rw [HS.out]⟩
      case measure => simp [intOf]; omega
    · obtain rfl : k = 36 := by omega
      have q0 : 0 ≤ c % 36 := by omega
      have q1 : c % 36 ≤ 35 := by omega
      obtain ⟨g0, g1⟩ := gv_one x (c % 36)
      have e1 : (topv x 36 == bits .and .u64 x 68719476735) = true := by rw [beq_iff_eq]; exact topv_all x hx
      have e2 : (bits .xor .u64 (pv x (c % 36) 1 (1 - gv x (c % 36) 1)) (topv x 36) == IntKind.u64.wrap (2 ^ (35 - c % 36).toNat)) = true := by
        rw [beq_iff_eq]; exact flip_int x _ hx q0 q1
      go_wp2_with (first
        | (go_at_call 11; refine (get_ok _ _ _ _ hx (by omega) (by omega) (by omega) (by omega)).mono ?_; rintro e w' ⟨rfl, rfl⟩)
        | (go_at_call 13; refine (put_ok _ _ _ _ _ hx (u64_flip _ _) (by omega) (by omega) (by omega) (by omega)).mono ?_; rintro e w' ⟨rfl, rfl⟩))
      go_ret
      exact ⟨rfl, rfl⟩

end Go.Proofs.Yteplnmeknjjljaa.W
