/-
  The law WordFields answers true at any word, any two numbers and any value: Get and Put answer as the document's own answers do, bit by bit.
-/
import Derived.Test.YteplnmeknjjljaaAwake
namespace Go.Proofs.Yteplnmeknjjljaa.W
open Go.ChangeShapes Go.WideShapes Go.ChangeAt Go.RowKit

theorem bitN (x s : Nat) (h : s ≤ 35) : x % 68719476736 / 2 ^ s % 2 = (x.testBit s).toNat := by
  have h36 : (68719476736 : Nat) = 2 ^ 36 := by decide
  have e : (x % 2 ^ 36).testBit s = x.testBit s := by
    rw [Nat.testBit_mod_two_pow]; simp [show s < 36 by omega]
  rw [h36, ← e, Nat.testBit_eq_decide_div_mod_eq]
  rcases Nat.mod_two_eq_zero_or_one (x % 2 ^ 36 / 2 ^ s) with q | q <;> simp [q]

theorem fieldN_step (x s m : Nat) (h : s ≤ 35) : fieldN x s (m + 1) = fieldN x (s + 1) m * 2 + x % 68719476736 / 2 ^ s % 2 := by
  rw [bitN x s h]
  unfold fieldN
  rw [Nat.pow_succ 2 m, Nat.mul_comm (2 ^ m) 2, Nat.mod_mul, Nat.pow_succ 2 s, ← Nat.div_div_eq_div_mul, Nat.testBit_eq_decide_div_mod_eq]
  rcases Nat.mod_two_eq_zero_or_one (x / 2 ^ s) with q | q <;> simp [q] <;> omega

theorem gv_step (x a m : Int) (hx : U64 x) (h0 : 0 ≤ a) (h1 : 0 ≤ m) (h2 : a + m ≤ 35) : gv x a (m + 1) = gv x a m * 2 + bitv x (a + m) := by
  obtain ⟨y, rfl⟩ := Int.eq_ofNat_of_zero_le hx.1
  obtain ⟨b, rfl⟩ := Int.eq_ofNat_of_zero_le h0
  obtain ⟨k, rfl⟩ := Int.eq_ofNat_of_zero_le h1
  have h := fieldN_step y (35 - b - k) k (by omega)
  unfold gv bitv
  have e1 : (36 - (b : Int) - ((k : Int) + 1)).toNat = 35 - b - k := by omega
  have e2 : (36 - (b : Int) - (k : Int)).toNat = 35 - b - k + 1 := by omega
  have e3 : ((k : Int) + 1).toNat = k + 1 := by omega
  have e4 : (35 - ((b : Int) + (k : Int))).toNat = 35 - b - k := by omega
  have e5 : (y : Int) % 68719476736 / 2 ^ (35 - b - k) % 2 = ((y % 68719476736 / 2 ^ (35 - b - k) % 2 : Nat) : Int) := by simp
  rw [e1, e2, e3, e4, Int.toNat_natCast, Int.toNat_natCast, e5, h]
  omega

theorem gv_zero (x a : Int) : gv x a 0 = 0 := by unfold gv fieldN; simp

theorem bitv_bd (x k : Int) : 0 ≤ bitv x k ∧ bitv x k ≤ 1 := by unfold bitv; omega

theorem gv_half (x a m : Int) (h1 : 0 ≤ m) (h2 : m ≤ 35) : 0 ≤ gv x a m ∧ gv x a m < 34359738368 := by
  have h3 := field_lt x.toNat (36 - a - m).toNat m.toNat
  have h4 : 2 ^ m.toNat ≤ 2 ^ 35 := Nat.pow_le_pow_right (by omega) (by omega)
  unfold gv; omega

set_option maxHeartbeats 400000 in
theorem rget_ok (x a n : Int) (w : World) (hx : U64 x) (h0 : 0 ≤ a) (h1 : 1 ≤ n) (h2 : n ≤ 36) (h3 : a ≤ 36 - n) :
    Calls Try.prog 12 #[.int .u64 x, .int .i64 a, .int .i64 n] w fun e w' => e = .returned (.tuple #[.int .u64 (gv x a n), .int .i64 0]) ∧ w = w' := by
  have Z := Lib.hid (gv_zero x a)
  go_enter Try.func12, Try.ntmps12
  go_wp2
  go_loop [8, 9] (fun v i => ∃ m : Int, 0 ≤ m ∧ m ≤ n ∧ i = .int .i64 (a + m) ∧ v = .int .u64 (gv x a m)) (fun _ i => (a + n - intOf i).toNat)
  case atStart => exact ⟨0, by omega, by omega, by simp, by rw [Z.out]⟩
  case round =>
    obtain ⟨m, m0, m1, rfl, rfl⟩ := hrel
    by_cases hlt : a + m < a + n
    · have g := gv_half x a m m0 (by omega)
      have b := bitv_bd x (a + m)
      have HS := Lib.hid (gv_step x a m hx h0 m0 (by omega))
      go_wp2_with (go_at_call 24; refine (bit_any _ _ _ hx (by omega) (by omega)).mono ?_; rintro e w' ⟨rfl, rfl⟩)
      go_round
      case rel => exact ⟨m + 1, by omega, by omega, by rw [Int.add_assoc], by rw [HS.out]⟩
      case measure => simp [intOf]; omega
    · obtain rfl : m = n := by omega
      go_wp2
      go_ret2
      exact ⟨rfl, rfl⟩

theorem rget_no (x a n : Int) (w : World) (h : n < 1 ∨ 36 < n ∨ a < 0 ∨ 36 - n < a) (n0 : -9223372036854775808 ≤ n) (n1 : n ≤ 9223372036854775807) :
    Calls Try.prog 12 #[.int .u64 x, .int .i64 a, .int .i64 n] w fun e w' => e = .returned (.tuple #[.int .u64 0, .int .i64 1]) ∧ w = w' := by
  by_cases c1 : n < 1
  · clear h
    go_enter Try.func12, Try.ntmps12
    go_wp2
    go_ret2
    exact ⟨rfl, rfl⟩
  · by_cases c2 : 36 < n
    · clear h
      go_enter Try.func12, Try.ntmps12
      go_wp2
      go_ret2
      exact ⟨rfl, rfl⟩
    · by_cases c3 : a < 0
      · clear h
        go_enter Try.func12, Try.ntmps12
        go_wp2
        go_ret2
        exact ⟨rfl, rfl⟩
      · have c4 : decide (36 - n < a) = true := by simp; omega
        clear h
        go_enter Try.func12, Try.ntmps12
        go_wp2
        go_ret2
        exact ⟨rfl, rfl⟩

theorem rput_no (x a n v : Int) (w : World) (h : n < 1 ∨ 36 < n ∨ a < 0 ∨ 36 - n < a) (n0 : -9223372036854775808 ≤ n) (n1 : n ≤ 9223372036854775807) :
    Calls Try.prog 14 #[.int .u64 x, .int .i64 a, .int .i64 n, .int .u64 v] w fun e w' => e = .returned (.tuple #[.int .u64 0, .int .i64 1]) ∧ w = w' := by
  by_cases c1 : n < 1
  · clear h
    go_enter Try.func14, Try.ntmps14
    go_wp2
    go_ret2
    exact ⟨rfl, rfl⟩
  · by_cases c2 : 36 < n
    · clear h
      go_enter Try.func14, Try.ntmps14
      go_wp2
      go_ret2
      exact ⟨rfl, rfl⟩
    · by_cases c3 : a < 0
      · clear h
        go_enter Try.func14, Try.ntmps14
        go_wp2
        go_ret2
        exact ⟨rfl, rfl⟩
      · have c4 : decide (36 - n < a) = true := by simp; omega
        clear h
        go_enter Try.func14, Try.ntmps14
        go_wp2
        go_ret2
        exact ⟨rfl, rfl⟩

/-- what is reckoned of a word from its highest bit on, k bits of it -/
def headv (P k : Int) : Int := P / 2 ^ (36 - k).toNat

theorem headv_zero (P : Int) (h0 : 0 ≤ P) (h1 : P < 68719476736) : headv P 0 = 0 := by
  unfold headv
  rw [show (36 - (0 : Int)).toNat = 36 from rfl, show (2 : Int) ^ 36 = 68719476736 from rfl]; omega
theorem headv_all (P : Int) : headv P 36 = P := by
  unfold headv
  rw [show (36 - (36 : Int)).toNat = 0 from rfl, show (2 : Int) ^ 0 = 1 from rfl]; omega
theorem headv_step (P k : Int) (h0 : 0 ≤ k) (h1 : k ≤ 35) (p0 : 0 ≤ P) (p1 : P < 68719476736) : headv P (k + 1) = headv P k * 2 + bitv P k := by
  unfold headv bitv
  have e1 : (36 - (k + 1)).toNat = (35 - k).toNat := by omega
  have e2 : (36 - k).toNat = (35 - k).toNat + 1 := by omega
  have hp : (0 : Int) < 2 ^ (35 - k).toNat := Int.pow_pos (by omega)
  rw [e1, e2, Int.pow_succ, ← Int.ediv_ediv_of_nonneg (by omega), Int.emod_eq_of_lt p0 p1]
  omega
theorem headv_bd (P k : Int) (h0 : 0 ≤ k) (h1 : k ≤ 35) (p0 : 0 ≤ P) (p1 : P < 68719476736) : 0 ≤ headv P k ∧ headv P k < 34359738368 := by
  have h := headv_step P k h0 h1 p0 p1
  have b := bitv_bd P k
  have hp : (0 : Int) < 2 ^ (36 - k).toNat := Int.pow_pos (by omega)
  have hq : (0 : Int) < 2 ^ (36 - (k + 1)).toNat := Int.pow_pos (by omega)
  have h3 : headv P (k + 1) ≤ P := Int.ediv_le_self _ p0
  have h4 : 0 ≤ headv P k := Int.ediv_nonneg p0 (by omega)
  omega

theorem bitv_nat (x k : Int) (hx : 0 ≤ x) (h1 : 0 ≤ k) (h2 : k ≤ 35) : bitv x k = ((x.toNat.testBit (35 - k).toNat).toNat : Int) := by
  obtain ⟨y, rfl⟩ := Int.eq_ofNat_of_zero_le hx
  have h := bitN y (35 - k).toNat (by omega)
  unfold bitv
  rw [Int.toNat_natCast, ← h]
  simp

theorem put_bits (x a n v k : Int) (hx : 0 ≤ x) (hv : 0 ≤ v) (h0 : 0 ≤ a) (h1 : 1 ≤ n) (h3 : a ≤ 36 - n) (k0 : 0 ≤ k) (k1 : k ≤ 35) :
    bitv (pv x a n v) k = if a ≤ k ∧ k < a + n then bitv v (36 - n + k - a) else bitv x k := by
  have hb := put_bit x.toNat (36 - a - n).toNat n.toNat v.toNat (35 - k).toNat (by omega)
  have hl := pv_bd x a n v h0 (by omega) h3
  rw [bitv_nat _ k hl.1 k0 k1]
  unfold pv
  rw [Int.toNat_natCast, hb]
  by_cases c : a ≤ k ∧ k < a + n
  · rw [if_pos c, if_pos (by omega), bitv_nat v _ hv (by omega) (by omega)]
    have e1 : (35 - k).toNat - (36 - a - n).toNat = (35 - (36 - n + k - a)).toNat := by omega
    have e2 : (35 - k).toNat < 36 := by omega
    rw [e1]; simp [e2]
  · rw [if_neg c, if_neg (by omega), bitv_nat x k hx k0 k1]
    have e2 : (35 - k).toNat < 36 := by omega
    simp [e2]

set_option maxHeartbeats 400000 in
theorem rput_ok (x a n v : Int) (w : World) (hx : U64 x) (hv : U64 v) (h0 : 0 ≤ a) (h1 : 1 ≤ n) (h2 : n ≤ 36) (h3 : a ≤ 36 - n) :
    Calls Try.prog 14 #[.int .u64 x, .int .i64 a, .int .i64 n, .int .u64 v] w fun e w' => e = .returned (.tuple #[.int .u64 (pv x a n v), .int .i64 0]) ∧ w = w' := by
  obtain ⟨P0, P1⟩ := pv_bd x a n v h0 (by omega) h3
  have PB := Lib.hid (fun k => put_bits x a n v k hx.1 hv.1 h0 h1 h3)
  generalize pv x a n v = P at P0 P1 PB ⊢
  have Z := Lib.hid (headv_zero P P0 P1)
  have A := Lib.hid (headv_all P)
  go_enter Try.func14, Try.ntmps14
  go_wp2
  go_loop [10, 11] (fun v i => ∃ k : Int, 0 ≤ k ∧ k ≤ 36 ∧ i = .int .i64 k ∧ v = .int .u64 (headv P k)) (fun _ i => (36 - intOf i).toNat)
  case atStart => exact ⟨0, by omega, by omega, rfl, by rw [Z.out]⟩
  case round =>
    obtain ⟨k, k0, k1, rfl, rfl⟩ := hrel
    by_cases hlt : k < 36
    · have g := headv_bd P k k0 (by omega) P0 P1
      have b := bitv_bd x k
      have HS := Lib.hid (headv_step P k k0 (by omega) P0 P1)
      by_cases c : a ≤ k ∧ k < a + n
      · have PK := Lib.hid ((PB.out k k0 (by omega)).trans (if_pos c))
        obtain ⟨c1, c2⟩ := c
        have b' := bitv_bd v (36 - n + k - a)
        go_wp2_with (go_at_call 24; refine (bit_any _ _ _ (by first | exact hx | exact hv) (by omega) (by omega)).mono ?_; rintro e w' ⟨rfl, rfl⟩)
        go_round
        case rel => exact ⟨k + 1, by omega, by omega, rfl, by rw [HS.out, PK.out]⟩
        case measure => simp [intOf]; omega
      · have PK := Lib.hid ((PB.out k k0 (by omega)).trans (if_neg c))
        by_cases c1 : a ≤ k
        · have c2 : ¬ k < a + n := by omega
          clear c
          go_wp2_with (go_at_call 24; refine (bit_any _ _ _ hx (by omega) (by omega)).mono ?_; rintro e w' ⟨rfl, rfl⟩)
          go_round
          case rel => exact ⟨k + 1, by omega, by omega, rfl, by rw [HS.out, PK.out]⟩
          case measure => simp [intOf]; omega
        · clear c
          go_wp2_with (go_at_call 24; refine (bit_any _ _ _ hx (by omega) (by omega)).mono ?_; rintro e w' ⟨rfl, rfl⟩)
          go_round
          case rel => exact ⟨k + 1, by omega, by omega, rfl, by rw [HS.out, PK.out]⟩
          case measure => simp [intOf]; omega
    · obtain rfl : k = 36 := by omega
      go_wp2
      go_ret2
      exact ⟨ret2 A.out, rfl⟩

theorem wordFields_walk (x p q v : Int) (hx : U64 x) (hv : U64 v) (q0 : -9223372036854775808 ≤ q) (q1 : q ≤ 9223372036854775807) (w : World) :
    Calls Try.prog 3 #[.int .u64 x, .agg #[.int .i64 p, .int .i64 q], .int .u64 v] w fun e w' => e = .returned (.bool true) ∧ Below w.heap.size w w' := by
  by_cases h : 0 ≤ p ∧ 1 ≤ q ∧ q ≤ 36 ∧ p ≤ 36 - q
  · obtain ⟨h0, h1, h2, h3⟩ := h
    clear q0 q1
    go_enter Try.func3, Try.ntmps3
    go_wp2_with (first
      | (go_at_call 10; refine (awake_any _).mono ?_; rintro e w' ⟨rfl, rfl⟩)
      | (go_at_call 11; refine (get_ok _ _ _ _ hx h0 h1 h2 h3).mono ?_; rintro e w' ⟨rfl, rfl⟩)
      | (go_at_call 12; refine (rget_ok _ _ _ _ hx h0 h1 h2 h3).mono ?_; rintro e w' ⟨rfl, rfl⟩)
      | (go_at_call 13; refine (put_ok _ _ _ _ _ hx hv h0 h1 h2 h3).mono ?_; rintro e w' ⟨rfl, rfl⟩)
      | (go_at_call 14; refine (rput_ok _ _ _ _ _ hx hv h0 h1 h2 h3).mono ?_; rintro e w' ⟨rfl, rfl⟩))
    go_ret
    exact ⟨rfl, (Below.refl _ _).alloc (Nat.le_refl _) _⟩
  · have hn : q < 1 ∨ 36 < q ∨ p < 0 ∨ 36 - q < p := by omega
    have HN := Lib.hid hn
    have Q0 := Lib.hid q0
    have Q1 := Lib.hid q1
    clear h hn q0 q1
    go_enter Try.func3, Try.ntmps3
    go_wp2_with (first
      | (go_at_call 10; refine (awake_any _).mono ?_; rintro e w' ⟨rfl, rfl⟩)
      | (go_at_call 11; refine (get_no _ _ _ _ HN.out Q0.out Q1.out).mono ?_; rintro e w' ⟨rfl, rfl⟩)
      | (go_at_call 12; refine (rget_no _ _ _ _ HN.out Q0.out Q1.out).mono ?_; rintro e w' ⟨rfl, rfl⟩)
      | (go_at_call 13; refine (put_no _ _ _ _ _ HN.out Q0.out Q1.out).mono ?_; rintro e w' ⟨rfl, rfl⟩)
      | (go_at_call 14; refine (rput_no _ _ _ _ _ HN.out Q0.out Q1.out).mono ?_; rintro e w' ⟨rfl, rfl⟩))
    go_ret
    exact ⟨rfl, (Below.refl _ _).alloc (Nat.le_refl _) _⟩

end Go.Proofs.Yteplnmeknjjljaa.W
