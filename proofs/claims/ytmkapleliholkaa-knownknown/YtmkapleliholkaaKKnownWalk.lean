/-
  The law KnownKnown answers true: a table by hand, its refusals.
-/
import Derived.Test.YtmkapleliholkaaKAwake
namespace Go.Proofs.Ytmkapleliholkaa.K
open Go.ChangeShapes Go.WideShapes Go.ChangeAt Go.RowKit

def kU : Int → Int := upU U0 1 1099511627776
def kC : Int → Int → Int := upC C0 1 7 1

theorem count_val {w : World} {b : Nat} {U : Int → Int} {C : Int → Int → Int} (h : KnAt w b U C) {k r n : Int} (k0 : 1 ≤ k) (k1 : k ≤ 63) (hU : U k ≠ 0) (r0 : 0 ≤ r) (r1 : r ≤ 7) (hn : C k r = n) : Calls Try.prog 12 #[KP b, .int .i64 k, .int .i64 r] w fun e w' => e = .returned (.int .i64 n) ∧ w = w' := by
  rw [← hn]
  exact count_yes h k0 k1 hU r0 r1
theorem uid_val {w : World} {b : Nat} {U : Int → Int} {C : Int → Int → Int} (h : KnAt w b U C) {k n : Int} (k0 : 1 ≤ k) (k1 : k ≤ 63) (hU : U k ≠ 0) (hn : U k = n) : Calls Try.prog 15 #[KP b, .int .i64 k] w fun e w' => e = .returned (.tuple #[.int .i64 n, .bool true]) ∧ w = w' := by
  rw [← hn]
  exact uid_yes h k0 k1 hU

set_option maxHeartbeats 1000000 in
theorem known_walk (w : World) : Calls Try.prog 5 #[] w fun e w' => e = .returned (.bool true) ∧ Below w.heap.size w w' := by
  have hu : kU 1 ≠ 0 := by simp [kU, upU]
  have A1 : Hid (∀ X b, KnAt X b U0 C0 → _) := Lib.hid (fun X b (h : KnAt X b U0 C0) => add_new h (x := 1099511627776) (r := 7) (n := 1) (by omega) (by omega) (by omega) (Or.inr ⟨rfl, fun j _ _ => by simp [U0]⟩) (Or.inl ⟨by omega, by omega, rfl, fun j _ _ => by omega⟩) (by omega) rfl)
  have A2 : Hid (∀ X b, KnAt X b kU kC → _) := Lib.hid (fun X b (h : KnAt X b kU kC) => drop_unused h (k := 1) (r := 4) (by omega) (by omega) hu (by omega) (by omega) (by simp [kC, upC, C0]))
  have A3 : Hid (∀ X b, KnAt X b kU kC → _) := Lib.hid (fun X b (h : KnAt X b kU kC) => drop_none h (k := 2) (r := 7) (by omega) (by omega) (Or.inr (Or.inr (by simp [kU, upU, U0]))))
  have A4 : Hid (∀ X b, KnAt X b kU kC → _) := Lib.hid (fun X b (h : KnAt X b kU kC) => uid_val h (k := 1) (n := 1099511627776) (by omega) (by omega) hu (by simp [kU, upU]))
  have A5 : Hid (∀ X b, KnAt X b kU kC → _) := Lib.hid (fun X b (h : KnAt X b kU kC) => uid_no h (k := 0) (Or.inl (by omega)))
  have A6 : Hid (∀ X b, KnAt X b kU kC → _) := Lib.hid (fun X b (h : KnAt X b kU kC) => count_val h (k := 1) (r := 7) (n := 1) (by omega) (by omega) hu (by omega) (by omega) (by simp [kC, upC]))
  have A7 : Hid (∀ X b, KnAt X b kU kC → _) := Lib.hid (fun X b (h : KnAt X b kU kC) => count_val h (k := 1) (r := 4) (n := 0) (by omega) (by omega) hu (by omega) (by omega) (by simp [kC, upC, C0]))
  have A8 : Hid (∀ X b, KnAt X b kU kC → _) := Lib.hid (fun X b (h : KnAt X b kU kC) => count_no h (k := 99) 0 (Or.inr (Or.inl (by omega))))
  have A9 : Hid (∀ X b, KnAt X b kU kC → _) := Lib.hid (fun X b (h : KnAt X b kU kC) => forget_no h (k := 5) (Or.inr (Or.inr (by simp [kU, upU, U0]))))
  have A10 : Hid (∀ X b, KnAt X b kU kC → _) := Lib.hid (fun X b (h : KnAt X b kU kC) => forget_yes h (k := 1) (by omega) (by omega) hu)
  clear hu
  go_enter Try.func5, Try.ntmps5
  go_wp2_with (first
    | (go_at_call 7; ((with_reducible refine (awake_any w).mono ?_); rintro e wa ⟨rfl, ba⟩))
    | (go_at_call 8; ((with_reducible refine (new_any wa).mono ?_); rintro e w1 ⟨rfl, rfl⟩; have K0 := Lib.hid (ky_new ba)))
    | (go_at_call 9; ((with_reducible refine (add_arg wa.heap.size 0 4 _ (by omega)).mono ?_); rintro e w1 ⟨rfl, rfl⟩))
    | (go_at_call 9; ((with_reducible refine (add_arg wa.heap.size 1 8 _ (by omega)).mono ?_); rintro e w1 ⟨rfl, rfl⟩))
    | (go_at_call 9; ((with_reducible refine (add_arg wa.heap.size 1 (-1) _ (by omega)).mono ?_); rintro e w1 ⟨rfl, rfl⟩))
    | (go_at_call 9; ((with_reducible refine (A1.out _ _ K0.out.at_).mono ?_); rintro e w1 ⟨rfl, k1, o1⟩; have K1 := Lib.hid (K0.out.only k1 o1)))
    | (go_at_call 13; ((with_reducible refine (A2.out _ _ K1.out.at_).mono ?_); rintro e w3 ⟨rfl, rfl⟩))
    | (go_at_call 13; ((with_reducible refine (A3.out _ _ K1.out.at_).mono ?_); rintro e w3 ⟨rfl, rfl⟩))
    | (go_at_call 13; ((with_reducible refine (drop_arg wa.heap.size 1 9 _ (by omega)).mono ?_); rintro e w3 ⟨rfl, rfl⟩))
    | (go_at_call 15; ((with_reducible refine (A4.out _ _ K1.out.at_).mono ?_); rintro e w3 ⟨rfl, rfl⟩))
    | (go_at_call 15; ((with_reducible refine (A5.out _ _ K1.out.at_).mono ?_); rintro e w3 ⟨rfl, rfl⟩))
    | (go_at_call 12; ((with_reducible refine (A6.out _ _ K1.out.at_).mono ?_); rintro e w3 ⟨rfl, rfl⟩))
    | (go_at_call 12; ((with_reducible refine (A7.out _ _ K1.out.at_).mono ?_); rintro e w3 ⟨rfl, rfl⟩))
    | (go_at_call 12; ((with_reducible refine (A8.out _ _ K1.out.at_).mono ?_); rintro e w3 ⟨rfl, rfl⟩))
    | (go_at_call 10; ((with_reducible refine (A9.out _ _ K1.out.at_).mono ?_); rintro e w3 ⟨rfl, rfl⟩))
    | (go_at_call 10; ((with_reducible refine (A10.out _ _ K1.out.at_).mono ?_); rintro e w4 ⟨rfl, k4, o4⟩; have K4 := Lib.hid (K1.out.only k4 o4))))
  go_ret
  exact ⟨rfl, K4.out.bel⟩

end Go.Proofs.Ytmkapleliholkaa.K
