/-
  The law WordTurns answers true at any word, field and value: a field that is put is got again, the rest is as it was.
-/
import Derived.Test.YteplnmeknjjljaaAwake
namespace Go.Proofs.Yteplnmeknjjljaa.W
open Go.ChangeShapes Go.WideShapes Go.ChangeAt Go.RowKit

theorem turn_nat (x s n v : Nat) (h : s + n ≤ 36) : fieldN (putN x s n v) s n = v % 2 ^ n := by
  refine Nat.eq_of_testBit_eq fun i => ?_
  unfold fieldN
  rw [Nat.testBit_mod_two_pow, Nat.testBit_div_two_pow, put_bit _ _ _ _ _ h, Nat.testBit_mod_two_pow]
  by_cases c : i < n
  · rw [if_pos (by omega)]
    have e1 : i + s < 36 := by omega
    have e2 : i + s - s = i := by omega
    simp [c, e1, e2]
  · simp [c]

theorem bit_of (x s : Nat) : fieldN x s 1 = (x.testBit s).toNat := by
  unfold fieldN; rw [Nat.pow_one, Nat.testBit_eq_decide_div_mod_eq]
  rcases Nat.mod_two_eq_zero_or_one (x / 2 ^ s) with q | q <;> simp [q]

theorem rest_nat (x s n v i : Nat) (h : s + n ≤ 36) (hi : i < 36) (ho : i < s ∨ s + n ≤ i) : fieldN (putN x s n v) i 1 = fieldN x i 1 := by
  rw [bit_of, bit_of, put_bit _ _ _ _ _ h, if_neg (by omega)]
  simp [hi]

theorem again_nat (x s n v : Nat) (h : s + n ≤ 36) : putN (putN x s n v) s n 0 = putN x s n 0 := by
  refine Nat.eq_of_testBit_eq fun i => ?_
  rw [put_bit _ _ _ _ _ h, put_bit _ _ _ _ _ h, put_bit _ _ _ _ _ h]
  by_cases c : s ≤ i ∧ i < s + n
  · rw [if_pos c, if_pos c]
  · rw [if_neg c, if_neg c, if_neg c]
    by_cases e : i < 36 <;> simp [e]

theorem turn_int (x a n v : Int) (h0 : 0 ≤ a) (h1 : 1 ≤ n) (h2 : a ≤ 36 - n) : gv (pv x a n v) a n = ((v.toNat % 2 ^ n.toNat : Nat) : Int) := by
  have h := turn_nat x.toNat (36 - a - n).toNat n.toNat v.toNat (by omega)
  unfold gv pv
  rw [Int.toNat_natCast, h]

theorem low_int (v n : Int) (hv : U64 v) (h0 : 0 ≤ n) (h1 : n ≤ 36) :
    bits .and .u64 v (IntKind.u64.wrap (IntKind.u64.wrap (2 ^ n.toNat) - 1)) = ((v.toNat % 2 ^ n.toNat : Nat) : Int) := by
  rw [ones_eq n h0 h1]
  obtain ⟨k, rfl⟩ := Int.eq_ofNat_of_zero_le hv.1
  have hl := hv.2
  have e : ((2 : Int) ^ n.toNat - 1) = (((2 ^ n.toNat - 1 : Nat)) : Int) := by
    have := Nat.two_pow_pos n.toNat
    rw [Int.natCast_sub (by omega)]; simp
  rw [e, low_nat k n.toNat (by omega) (by omega)]
  simp

theorem whole_int (v : Int) (hv : U64 v) : cutv v = ((v.toNat % 2 ^ (36 : Int).toNat : Nat) : Int) := by
  have := hv.1
  rw [show (36 : Int).toNat = 36 from rfl]
  unfold cutv; omega

theorem rest_int (x a n v i : Int) (h0 : 0 ≤ a) (h1 : 1 ≤ n) (h2 : a ≤ 36 - n) (i0 : 0 ≤ i) (i1 : i ≤ 35) (ho : i < a ∨ a + n ≤ i) : gv (pv x a n v) i 1 = gv x i 1 := by
  have h := rest_nat x.toNat (36 - a - n).toNat n.toNat v.toNat (36 - i - 1).toNat (by omega) (by omega) (by omega)
  unfold gv pv
  rw [Int.toNat_natCast, show (1 : Int).toNat = 1 from rfl, h]

theorem again_int (x a n v : Int) (h0 : 0 ≤ a) (h1 : 1 ≤ n) (h2 : a ≤ 36 - n) : pv (pv x a n v) a n 0 = pv x a n 0 := by
  have h := again_nat x.toNat (36 - a - n).toNat n.toNat v.toNat (by omega)
  unfold pv
  rw [Int.toNat_natCast, show (0 : Int).toNat = 0 from rfl, h]

theorem wordTurns_walk (x p q v : Int) (hx : U64 x) (hv : U64 v) (p0 : 0 ≤ p) (p1 : p ≤ 255) (q0 : 0 ≤ q) (q1 : q ≤ 255) (w : World) :
    Calls Try.prog 5 #[.int .u64 x, .agg #[.int .u8 p, .int .u8 q], .int .u64 v] w fun e w' => e = .returned (.bool true) ∧ Below w.heap.size w w' := by
  have a0 : 0 ≤ p % 36 := by omega
  have a1 : p % 36 ≤ 35 := by omega
  generalize hA : p % 36 = A at a0 a1
  have b0 : 0 ≤ q % (36 - A) := Int.emod_nonneg _ (by omega)
  have b1 : q % (36 - A) < 36 - A := Int.emod_lt_of_pos _ (by omega)
  generalize hB : q % (36 - A) = B at b0 b1
  have b2 : B ≤ 35 - A := by omega
  clear b1
  have HT := Lib.hid (turn_int x A (1 + B) v a0 (by omega) (by omega))
  have HL := Lib.hid (low_int v (1 + B) hv (by omega) (by omega))
  have HW := Lib.hid (whole_int v hv)
  have e3 : (pv (pv x A (1 + B) v) A (1 + B) 0 == pv x A (1 + B) 0) = true := by
    rw [beq_iff_eq]; exact again_int x A (1 + B) v a0 (by omega) (by omega)
  have hX := pv_u64 x A (1 + B) v a0 (by omega) (by omega)
  have e1 : (gv (pv x A (1 + B) v) A (1 + B) != bits .and .u64 v (IntKind.u64.wrap (IntKind.u64.wrap (2 ^ (1 + B).toNat) - 1))) = false := by
    rw [HT.out, HL.out]; simp
  have e4 : 1 + B = 36 → (gv (pv x A (1 + B) v) A (1 + B) != cutv v) = false := by
    intro h; rw [HT.out, HW.out, h]; simp
  have hk : (decide (1 + B < 36) = true ∧ (1 + B == 36) = false) ∨ (decide (1 + B < 36) = false ∧ (1 + B == 36) = true ∧ (gv (pv x A (1 + B) v) A (1 + B) != cutv v) = false) := by
    by_cases h : 1 + B < 36
    · exact .inl ⟨by simpa using h, by rw [beq_eq_false_iff_ne]; omega⟩
    · exact .inr ⟨by simpa using h, by rw [beq_iff_eq]; omega, e4 (by omega)⟩
  clear e4 HT HL HW
  rcases hk with ⟨k1, k2⟩ | ⟨k1, k2, k3⟩
  all_goals
    go_enter Try.func5, Try.ntmps5
    go_wp2_with (first
      | (go_at_call 10; refine (awake_any _).mono ?_; rintro e w' ⟨rfl, rfl⟩)
      | (go_at_call 18; refine (cut_any _ _ hv).mono ?_; rintro e w' ⟨rfl, rfl⟩)
      | (go_at_call 11; refine (get_ok _ _ _ _ hX (by omega) (by omega) (by omega) (by omega)).mono ?_; rintro e w' ⟨rfl, rfl⟩)
      | (go_at_call 13; refine (put_ok _ _ _ _ _ hx hv (by omega) (by omega) (by omega) (by omega)).mono ?_; rintro e w' ⟨rfl, rfl⟩))
    go_loop [13] (fun i => ∃ k : Int, 0 ≤ k ∧ k ≤ 36 ∧ i = .int .i64 k) (fun i => (36 - intOf i).toNat)
    case atStart => exact ⟨0, by omega, by omega, rfl⟩
    case round =>
      obtain ⟨i, i0, i1, rfl⟩ := hrel
      by_cases hlt : i < 36
      · have hc : (decide (i < A) = true ∧ (gv (pv x A (1 + B) v) i 1 != gv x i 1) = false) ∨ (decide (i < A) = false ∧ decide (A + (1 + B) ≤ i) = true ∧ (gv (pv x A (1 + B) v) i 1 != gv x i 1) = false) ∨ (decide (i < A) = false ∧ decide (A + (1 + B) ≤ i) = false) := by
          by_cases h1 : i < A
          · exact .inl ⟨by simpa using h1, by rw [rest_int x A (1 + B) v i a0 (by omega) (by omega) i0 (by omega) (.inl h1)]; simp⟩
          · by_cases h2 : A + (1 + B) ≤ i
            · exact .inr (.inl ⟨by simpa using h1, by simpa using h2, by rw [rest_int x A (1 + B) v i a0 (by omega) (by omega) i0 (by omega) (.inr h2)]; simp⟩)
            · exact .inr (.inr ⟨by simpa using h1, by simpa using h2⟩)
        rcases hc with ⟨c1, c2⟩ | ⟨c1, c2, c3⟩ | ⟨c1, c2⟩
        all_goals
          go_wp2_with (go_at_call 11; refine (get_ok _ _ _ _ (by first | exact hX | exact hx) (by omega) (by omega) (by omega) (by omega)).mono ?_; rintro e w' ⟨rfl, rfl⟩)
          go_round
          case rel => exact ⟨i + 1, by omega, by omega, rfl⟩
          case measure => simp [intOf]; omega
      · go_wp2_with (go_at_call 13; refine (put_ok _ _ _ _ _ (by first | exact hX | exact hx) (u64_of (by omega) (by omega)) (by omega) (by omega) (by omega) (by omega)).mono ?_; rintro e w' ⟨rfl, rfl⟩)
        go_ret
        exact ⟨rfl, (Below.refl _ _).alloc (Nat.le_refl _) _⟩

end Go.Proofs.Yteplnmeknjjljaa.W
