/-
  The law's own example of the document (its function awake) answers true.
-/
import Derived.Test.YtenlfjbkfgfcmaaCalls
import Derived.OpenShut
import Derived.Lib.Hide
namespace Go.Proofs.Ytenlfjbkfgfcmaa.W
open Go.ChangeShapes Go.WideShapes Go.ChangeAt Go.RowKit

theorem u64_of {x : Int} (h0 : 0 ≤ x) (h1 : x < 18446744073709551616) : U64 x := ⟨h0, h1⟩

theorem u64_wf {x : Int} (h : (Lit.int .u64 x).wf = true) : U64 x := ⟨(bounds_u64 h).1, by have := (bounds_u64 h).2; omega⟩

theorem field_lt (x s n : Nat) : fieldN x s n < 2 ^ n := Nat.mod_lt _ (Nat.two_pow_pos n)
theorem gv_bd (x a n : Int) (h : n ≤ 36) : 0 ≤ gv x a n ∧ gv x a n < 68719476736 := by
  have h1 := field_lt x.toNat (36 - a - n).toNat n.toNat
  have h2 : 2 ^ n.toNat ≤ 2 ^ 36 := Nat.pow_le_pow_right (by omega) (by omega)
  unfold gv; omega
theorem pv_bd (x a n v : Int) (h0 : 0 ≤ a) (h1 : 0 ≤ n) (h : a ≤ 36 - n) : 0 ≤ pv x a n v ∧ pv x a n v < 68719476736 := by
  have h1 := put_lt x.toNat (36 - a - n).toNat n.toNat v.toNat (by omega)
  unfold pv; omega
theorem gv_u64 (x a n : Int) (h : n ≤ 36) : U64 (gv x a n) := by have := gv_bd x a n h; exact ⟨this.1, by omega⟩
theorem pv_u64 (x a n v : Int) (h0 : 0 ≤ a) (h1 : 0 ≤ n) (h : a ≤ 36 - n) : U64 (pv x a n v) := by have := pv_bd x a n v h0 h1 h; exact ⟨this.1, by omega⟩

theorem gv_lt (x a n : Int) (h : n ≤ 36) : decide (gv x a n < IntKind.u64.wrap (2 ^ n.toNat)) = true := by
  have h1 := field_lt x.toNat (36 - a - n).toNat n.toNat
  have h2 : 2 ^ n.toNat ≤ 2 ^ 36 := Nat.pow_le_pow_right (by omega) (by omega)
  have h3 : (2 : Int) ^ n.toNat = ((2 ^ n.toNat : Nat) : Int) := by simp
  rw [h3, wrap_nat, decide_eq_true_iff]
  unfold gv; omega

end Go.Proofs.Ytenlfjbkfgfcmaa.W
