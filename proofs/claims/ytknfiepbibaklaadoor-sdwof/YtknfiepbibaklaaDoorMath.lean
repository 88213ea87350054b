/-
  Plain facts about words of 36 bits: masks are remainders, a field is a quotient's remainder, and a word with a field put in is made of three parts. No program is named here.
-/
import Derived.Laws.Bits64b
namespace Go.Proofs.YtknfiepbibaklaaDoor.W

theorem ofInt_nat (x : Nat) (hx : x < 18446744073709551616) : (BitVec.ofInt 64 (x : Int)).toNat = x := by
  rw [BitVec.ofInt_natCast, BitVec.toNat_ofNat]; exact Nat.mod_eq_of_lt (by omega)

theorem wrap_nat (x : Nat) : IntKind.u64.wrap (x : Int) = ((x % 18446744073709551616 : Nat) : Int) := by
  rw [IntKind.wrap_u64]; omega

/-- the lowest 36 bits -/
theorem mask_nat (x : Nat) (hx : x < 18446744073709551616) : bits .and .u64 (x : Int) 68719476735 = ((x % 68719476736 : Nat) : Int) := by
  have h := bits_and_u64_nat x 68719476735 hx (by omega)
  have e : x &&& 68719476735 = x % 68719476736 := by
    have := Nat.and_two_pow_sub_one_eq_mod x 36
    simpa using this
  rw [e] at h
  exact h

theorem mask_int (x : Int) (h0 : 0 ≤ x) (h1 : x < 18446744073709551616) : bits .and .u64 x 68719476735 = x % 68719476736 := by
  obtain ⟨n, rfl⟩ := Int.eq_ofNat_of_zero_le h0
  rw [mask_nat n (by omega)]; omega

theorem mask_wrap (x : Int) : bits .and .u64 (IntKind.u64.wrap x) 68719476735 = x % 68719476736 := by
  rw [IntKind.wrap_u64, mask_int _ (by omega) (by omega)]; omega

/-- one bit -/
theorem one_int (x : Int) (h0 : 0 ≤ x) (h1 : x < 18446744073709551616) : bits .and .u64 x 1 = x % 2 := by
  obtain ⟨n, rfl⟩ := Int.eq_ofNat_of_zero_le h0
  have h := bits_and_u64_nat n 1 (by omega) (by omega)
  have e : n &&& 1 = n % 2 := by
    exact Nat.and_two_pow_sub_one_eq_mod n 1
  rw [e] at h
  refine h.trans ?_
  omega

/-- the lowest k bits -/
theorem low_nat (x k : Nat) (hx : x < 18446744073709551616) (hk : k ≤ 63) : bits .and .u64 (x : Int) (((2 ^ k - 1 : Nat) : Int)) = ((x % 2 ^ k : Nat) : Int) := by
  have hp : 2 ^ k ≤ 2 ^ 63 := Nat.pow_le_pow_right (by omega) hk
  have h := bits_and_u64_nat x (2 ^ k - 1) hx (by omega)
  rw [Nat.and_two_pow_sub_one_eq_mod x k] at h
  exact h

theorem andNot_nat (a b : Nat) (ha : a < 18446744073709551616) (hb : b < 18446744073709551616) :
    ∃ r : Nat, bits .andNot .u64 (a : Int) (b : Int) = (r : Int) ∧ r < 18446744073709551616 ∧ ∀ i, r.testBit i = (a.testBit i && !b.testBit i) := by
  refine ⟨(BitVec.ofInt 64 (a : Int) &&& ~~~BitVec.ofInt 64 (b : Int)).toNat, ?_, (BitVec.ofInt 64 (a : Int) &&& ~~~BitVec.ofInt 64 (b : Int)).isLt, fun i => ?_⟩
  · show IntKind.u64.wrap ((BitVec.ofInt 64 (a : Int) &&& ~~~BitVec.ofInt 64 (b : Int)).toNat : Int) = _
    have := (BitVec.ofInt 64 (a : Int) &&& ~~~BitVec.ofInt 64 (b : Int)).isLt
    rw [IntKind.wrap_u64]; omega
  · have ea := ofInt_nat a ha
    have eb := ofInt_nat b hb
    rw [← BitVec.getLsbD, BitVec.getLsbD_and, BitVec.getLsbD_not, BitVec.getLsbD, BitVec.getLsbD, ea, eb]
    by_cases hi : i < 64
    · simp [hi]
    · have : a.testBit i = false := Nat.testBit_lt_two_pow (Nat.lt_of_lt_of_le ha (by
        have := Nat.pow_le_pow_right (n := 2) (by omega) (show 64 ≤ i by omega); simpa using this))
      simp [this]

/-- a field of n bits, s bits to its right -/
def fieldN (x s n : Nat) : Nat := x / 2 ^ s % 2 ^ n
/-- the word with that field put in -/
def putN (x s n v : Nat) : Nat := 2 ^ (s + n) * (x % 68719476736 / 2 ^ (s + n)) + (2 ^ s * (v % 2 ^ n) + x % 2 ^ s)

theorem put_bit (x s n v i : Nat) (h : s + n ≤ 36) :
    (putN x s n v).testBit i = (decide (i < 36) && (if s ≤ i ∧ i < s + n then v.testBit (i - s) else x.testBit i)) := by
  unfold putN
  have hs : x % 2 ^ s < 2 ^ s := Nat.mod_lt _ (Nat.two_pow_pos s)
  have hv : v % 2 ^ n < 2 ^ n := Nat.mod_lt _ (Nat.two_pow_pos n)
  have hl : 2 ^ s * (v % 2 ^ n) + x % 2 ^ s < 2 ^ (s + n) := by
    rw [Nat.pow_add]
    have h1 : 2 ^ s * (v % 2 ^ n + 1) ≤ 2 ^ s * 2 ^ n := Nat.mul_le_mul_left _ hv
    rw [Nat.mul_add] at h1; omega
  have h36 : (68719476736 : Nat) = 2 ^ 36 := by decide
  rw [Nat.testBit_two_pow_mul_add _ hl, Nat.testBit_two_pow_mul_add _ hs, h36]
  simp only [Nat.testBit_mod_two_pow, Nat.testBit_div_two_pow]
  by_cases h1 : i < s + n
  · by_cases h2 : i < s
    · have a1 : ¬ (s ≤ i ∧ i < s + n) := by omega
      have a2 : i < 36 := by omega
      rw [if_pos h1, if_pos h2, if_neg a1]; simp [h2, a2]
    · have a1 : s ≤ i ∧ i < s + n := by omega
      have a2 : i < 36 := by omega
      have a3 : i - s < n := by omega
      simp [h1, h2, a1, a2, a3]
  · have a1 : ¬ (s ≤ i ∧ i < s + n) := by omega
    have a4 : i - (s + n) + (s + n) = i := by omega
    rw [if_neg h1, if_neg a1, a4]

theorem put_lt (x s n v : Nat) (h : s + n ≤ 36) : putN x s n v < 68719476736 := by
  have : putN x s n v < 2 ^ 36 := by
    refine Nat.lt_pow_two_of_testBit _ fun i hi => ?_
    rw [put_bit x s n v i h]
    have : ¬ i < 36 := by omega
    simp [this]
  simpa using this

theorem room_bit (s n i : Nat) : ((2 ^ n - 1) * 2 ^ s).testBit i = (decide (s ≤ i) && decide (i - s < n)) := by
  rw [Nat.mul_comm, Nat.testBit_two_pow_mul, Nat.testBit_two_pow_sub_one]

theorem shl_wrap (x s : Nat) : IntKind.u64.wrap ((x : Int) * 2 ^ s) = ((x * 2 ^ s % 18446744073709551616 : Nat) : Int) := by
  rw [← wrap_nat]; simp

theorem get_int (x : Int) (s n : Nat) (h0 : 0 ≤ x) (h1 : x < 18446744073709551616) (hn : n ≤ 36) :
    bits .and .u64 (x / 2 ^ s) ((2 : Int) ^ n - 1) = ((fieldN x.toNat s n : Nat) : Int) := by
  obtain ⟨k, rfl⟩ := Int.eq_ofNat_of_zero_le h0
  have e : ((2 : Int) ^ n - 1) = (((2 ^ n - 1 : Nat)) : Int) := by
    have := Nat.two_pow_pos n
    rw [Int.natCast_sub (by omega)]; simp
  have e2 : ((k : Int) / 2 ^ s) = ((k / 2 ^ s : Nat) : Int) := by simp
  rw [e, e2, low_nat _ _ (Nat.lt_of_le_of_lt (Nat.div_le_self _ _) (by omega)) (by omega)]
  rfl

theorem put_int (x v : Int) (s n : Nat) (h0 : 0 ≤ x) (h1 : x < 18446744073709551616) (v0 : 0 ≤ v) (v1 : v < 18446744073709551616) (h : s + n ≤ 36) :
    bits .or .u64 (bits .andNot .u64 (bits .and .u64 x 68719476735) (IntKind.u64.wrap (((2 : Int) ^ n - 1) * 2 ^ s))) (bits .and .u64 (IntKind.u64.wrap (v * 2 ^ s)) (IntKind.u64.wrap (((2 : Int) ^ n - 1) * 2 ^ s)))
      = ((putN x.toNat s n v.toNat : Nat) : Int) := by
  obtain ⟨k, rfl⟩ := Int.eq_ofNat_of_zero_le h0
  obtain ⟨y, rfl⟩ := Int.eq_ofNat_of_zero_le v0
  have e : ((2 : Int) ^ n - 1) = (((2 ^ n - 1 : Nat)) : Int) := by
    have := Nat.two_pow_pos n
    rw [Int.natCast_sub (by omega)]; simp
  have hr : (2 ^ n - 1) * 2 ^ s < 18446744073709551616 := by
    have h2 : (2 ^ n - 1) * 2 ^ s ≤ 2 ^ n * 2 ^ s := Nat.mul_le_mul_right _ (Nat.sub_le _ _)
    rw [← Nat.pow_add] at h2
    have h3 : 2 ^ (n + s) ≤ 2 ^ 36 := Nat.pow_le_pow_right (by omega) (by omega)
    omega
  rw [e, shl_wrap, shl_wrap, Nat.mod_eq_of_lt hr, mask_nat k (by omega)]
  obtain ⟨r, er, hrl, hrb⟩ := andNot_nat (k % 68719476736) ((2 ^ n - 1) * 2 ^ s) (by omega) hr
  rw [er, bits_and_u64_nat _ _ (by omega) hr, bits_or_u64_nat _ _ hrl (by
    have : (y * 2 ^ s % 18446744073709551616) &&& ((2 ^ n - 1) * 2 ^ s) < 2 ^ 64 := Nat.and_lt_two_pow _ (by omega)
    omega)]
  congr 1
  refine Nat.eq_of_testBit_eq fun i => ?_
  simp only [Int.toNat_natCast]
  have h36 : (68719476736 : Nat) = 2 ^ 36 := by decide
  have h64 : (18446744073709551616 : Nat) = 2 ^ 64 := by decide
  rw [put_bit _ _ _ _ _ h, Nat.testBit_or, Nat.testBit_and, hrb, room_bit, h36, h64, Nat.testBit_mod_two_pow, Nat.testBit_mod_two_pow, Nat.mul_comm y, Nat.testBit_two_pow_mul]
  by_cases h1 : s ≤ i
  · by_cases h2 : i < s + n
    · have a1 : i - s < n := by omega
      have a2 : i < 64 := by omega
      have a3 : i < 36 := by omega
      simp [h1, h2, a1, a2, a3]
    · have a1 : ¬ i - s < n := by omega
      simp [h1, h2, a1]
  · simp [h1]

end Go.Proofs.YtknfiepbibaklaaDoor.W
