/-
  Texts as lists of bytes: what may be a name. No program stands in this text.
-/
import Derived.Lib.Bytealg
namespace Go.Proofs.Ytglbemdeboaheaa.N

/-- a list of bytes as a text -/
def bs (l : List UInt8) : ByteArray := ⟨l.toArray⟩
theorem bs_data (l : List UInt8) : (bs l).data.toList = l := by simp [bs]
theorem bs_of (s : ByteArray) : bs s.data.toList = s := by cases s; simp [bs]
theorem bs_size (l : List UInt8) : (bs l).size = l.length := by simp [bs, ByteArray.size]
theorem bs_inj {a b : List UInt8} (h : bs a = bs b) : a = b := by rw [← bs_data a, h, bs_data]

/-- a sign of a name -/
def okSign (b : UInt8) : Bool := decide (33 ≤ b.toNat) && decide (b.toNat ≤ 126) && !(b == 62)
/-- a name of at most so many signs -/
def may (most : Nat) (l : List UInt8) : Bool := decide (1 ≤ l.length) && decide (l.length ≤ most) && l.all okSign

theorem may_pos {m : Nat} {l : List UInt8} (h : may m l = true) : 1 ≤ l.length ∧ l.length ≤ m ∧ l.all okSign = true := by
  simp only [may, Bool.and_eq_true, decide_eq_true_eq] at h
  exact ⟨h.1.1, h.1.2, h.2⟩

end Go.Proofs.Ytglbemdeboaheaa.N
