/-
  Plain facts about pointers: the ring raised, the offset moved, the word of a pointer. No program is named here.
-/
import Derived.Test.YtenlfjbkfgfcmaaMath
import Derived.IntWalk
namespace Go.Proofs.Ytenlfjbkfgfcmaa.W

/-- the lowest 18 bits of a signed number are its remainder -/
theorem mask18_any (x : Int) : bits .and .i64 x 262143 = x % 262144 := by
  have e1 : (BitVec.ofInt 64 x).toNat = (x % 18446744073709551616).toNat := by
    rw [BitVec.toNat_ofInt]; rfl
  have e2 : (BitVec.ofInt 64 (262143 : Int)).toNat = 262143 := by decide
  have e3 : (BitVec.ofInt 64 x &&& BitVec.ofInt 64 (262143 : Int)).toNat = (x % 18446744073709551616).toNat % 262144 := by
    rw [BitVec.toNat_and, e1, e2]
    exact Nat.and_two_pow_sub_one_eq_mod _ 18
  show IntKind.i64.wrap ((BitVec.ofInt 64 x &&& BitVec.ofInt 64 (262143 : Int)).toNat : Int) = _
  rw [e3, IntKind.wrap_i64]
  omega

/-- is a number from 0 to m? -/
def inB (n m : Int) : Bool := decide (0 ≤ n) && decide (n ≤ m)
theorem in_yes {n m : Int} (h : inB n m = true) : 0 ≤ n ∧ n ≤ m := by
  unfold inB at h
  rw [Bool.and_eq_true, decide_eq_true_iff, decide_eq_true_iff] at h
  exact h
theorem in_no {n m : Int} (h : inB n m = false) : n < 0 ∨ m < n := by
  unfold inB at h
  rw [Bool.and_eq_false_iff, decide_eq_false_iff_not, decide_eq_false_iff_not] at h
  omega
theorem in_mk {n m : Int} (h0 : 0 ≤ n) (h1 : n ≤ m) : inB n m = true := by
  unfold inB
  rw [Bool.and_eq_true, decide_eq_true_iff, decide_eq_true_iff]
  exact ⟨h0, h1⟩

/-- may such a pointer be? -/
def mayB (s r t o : Int) : Bool := inB s 4095 && inB r 7 && inB t 7 && inB o 262143
/-- the ring raised -/
def rv (r k : Int) : Int := max r (min (max k 0) 7)
/-- the offset moved -/
def mv (o b : Int) : Int := (o + b) % 262144
/-- the word of a pointer that may be -/
def packv (s r t o : Int) : Int := ((s * 8 + r) * 8 + t) * 262144 + o

end Go.Proofs.Ytenlfjbkfgfcmaa.W
