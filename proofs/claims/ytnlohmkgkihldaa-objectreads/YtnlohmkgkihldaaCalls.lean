/-
  What each function of package word, and each of the document's own answers for words, returns at any arguments: one contract a function. Conditions: a word handed in is a number from 0 to 2^64 - 1, as its type says.
-/
import Derived.Test.YtnlohmkgkihldaaProg
import Derived.Test.YtnlohmkgkihldaaMath
import Derived.WalkKit
import Derived.ProofKit
namespace Go.Proofs.Ytnlohmkgkihldaa.W
open Go.ChangeShapes Go.WideShapes Go.ChangeAt Go.RowKit

def U64 (x : Int) : Prop := 0 ≤ x ∧ x < 18446744073709551616
def gv (x a n : Int) : Int := ((fieldN x.toNat (36 - a - n).toNat n.toNat : Nat) : Int)
def pv (x a n v : Int) : Int := ((putN x.toNat (36 - a - n).toNat n.toNat v.toNat : Nat) : Int)
def cutv (x : Int) : Int := x % 68719476736
def addv (a b : Int) : Int := (a + b) % 68719476736
def subv (a b : Int) : Int := (a - b) % 68719476736
def sgnv (a : Int) : Int := (a + 34359738368) % 68719476736 - 34359738368
def bitv (x k : Int) : Int := x % 68719476736 / 2 ^ (35 - k).toNat % 2

theorem ret1 {k : IntKind} {a b : Int} (h : a = b) : Ending.returned (.int k a) = .returned (.int k b) := by rw [h]
theorem ret2 {k l : IntKind} {a b c : Int} (h : a = b) : Ending.returned (.tuple #[.int k a, .int l c]) = .returned (.tuple #[.int k b, .int l c]) := by rw [h]

theorem of_any (a : Int) (w : World) : Calls Try.prog 48 #[.int .i64 a] w fun e w' => e = .returned (.int .u64 (cutv a)) ∧ w = w' := by
  go_enter Try.func48, Try.ntmps48
  go_wp2
  go_ret
  exact ⟨ret1 (mask_wrap _), rfl⟩

theorem sign_eq (a : Int) : wrap64 (IntKind.u64.wrap (a * 268435456)) / 268435456 = sgnv a := by
  rw [IntKind.wrap_u64]; unfold wrap64 sgnv; omega

theorem cut_any (a : Int) (w : World) (h : U64 a) : Calls Try.prog 13 #[.int .u64 a] w fun e w' => e = .returned (.int .u64 (cutv a)) ∧ w = w' := by
  go_enter Try.func13, Try.ntmps13
  go_wp2
  go_ret
  exact ⟨ret1 (mask_int _ h.1 h.2), rfl⟩

theorem cutv_bd (a : Int) : 0 ≤ cutv a ∧ cutv a < 68719476736 := by unfold cutv; omega

theorem rsign_eq (a : Int) : sgnv a = if 34359738368 ≤ cutv a then cutv a - 68719476736 else cutv a := by
  unfold sgnv cutv; omega

theorem ones_eq (n : Int) (h0 : 0 ≤ n) (h : n ≤ 36) : IntKind.u64.wrap (IntKind.u64.wrap (2 ^ n.toNat) - 1) = (2 : Int) ^ n.toNat - 1 := by
  have h1 : (2 : Nat) ^ n.toNat ≤ 2 ^ 36 := Nat.pow_le_pow_right (by omega) (by omega)
  have h2 : (2 : Int) ^ n.toNat = ((2 ^ n.toNat : Nat) : Int) := by simp
  have h3 := Nat.two_pow_pos n.toNat
  rw [IntKind.wrap_u64, IntKind.wrap_u64, h2]; omega

theorem bit_eq (x k : Int) : bits .and .u64 (cutv x / 2 ^ (35 - k).toNat) 1 = bitv x k := by
  have hb := cutv_bd x
  have hp : (0 : Int) < 2 ^ (35 - k).toNat := Int.pow_pos (by omega)
  have hd : cutv x / 2 ^ (35 - k).toNat ≤ cutv x := Int.ediv_le_self _ hb.1
  rw [one_int _ (Int.ediv_nonneg hb.1 (by omega)) (by omega)]
  rfl

end Go.Proofs.Ytnlohmkgkihldaa.W
