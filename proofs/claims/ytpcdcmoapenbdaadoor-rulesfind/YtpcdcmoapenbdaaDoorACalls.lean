/-
  Terms and flags compared; Small, same, a user's place in a list, what is found.
-/
import Derived.Test.YtpcdcmoapenbdaaDoorARow
import Derived.Deep.LoopGhost
namespace Go.Proofs.YtpcdcmoapenbdaaDoor.A
open Go.ChangeShapes Go.WideShapes Go.ChangeAt Go.RowKit
open Go.Proofs.YtpcdcmoapenbdaaDoor.N
set_option linter.unusedSimpArgs false

theorem term_fields : Tryd.prog.underlying 91 = some (.struct (Tryd.prog.fieldsOf 91)) := by kernel_rfl
theorem flag_fields : Tryd.prog.underlying 89 = some (.struct (Tryd.prog.fieldsOf 89)) := by kernel_rfl
theorem term_held : Tryd.prog.stoodInHeld 91 = false := by kernel_rfl
theorem flag_held : Tryd.prog.stoodInHeld 89 = false := by kernel_rfl
theorem bs_beq (x y : List UInt8) : ((bs x).toList == (bs y).toList) = decide (x = y) := by
  by_cases h : x = y
  · rw [txt_same h]; simp [h]
  · rw [txt_other h]; simp [h]

theorem flags_eq (d : Nat) (a b c a' b' c' : Bool) (w : World) : (Op.equalIn (d + 2) 89 (.agg #[.bool a, .bool b, .bool c]) (.agg #[.bool a', .bool b', .bool c'])).run Tryd.prog w = .ok (decide ((a, b, c) = (a', b', c'))) w := by
  have u := Tryd.underlying4
  have g := Tryd.isAgg4
  have z := Tryd.sizeOf4
  rw [run_equalIn_agg w (d + 1) 89 _ _ flag_fields flag_held]
  simp only [Program.fieldsOf, Tryd.underlying89]
  go_simp
  cases a <;> cases b <;> cases c <;> cases a' <;> cases b' <;> cases c' <;> rfl

theorem neq_flags (f g : Fl) (w : World) : (binOp .neq 89 (.agg #[.bool f.1, .bool f.2.1, .bool f.2.2]) (.agg #[.bool g.1, .bool g.2.1, .bool g.2.2])).run Tryd.prog w = .ok (.bool (decide (f ≠ g))) w := by
  rw [run_neq_struct, show (10000 : Nat) = 9998 + 2 from rfl, flags_eq]
  obtain ⟨a, b, c⟩ := f
  obtain ⟨a', b', c'⟩ := g
  by_cases h : (a, b, c) = (a', b', c') <;> simp [h]
theorem eql_flags (f g : Fl) (w : World) : (binOp .eql 89 (.agg #[.bool f.1, .bool f.2.1, .bool f.2.2]) (.agg #[.bool g.1, .bool g.2.1, .bool g.2.2])).run Tryd.prog w = .ok (.bool (decide (f = g))) w := by
  rw [run_eql_struct, show (10000 : Nat) = 9998 + 2 from rfl, flags_eq]
  rfl
theorem guard_flags : Tryd.prog.eqGuardType Tryd.prog.depth 89 = false := by kernel_rfl
theorem guard_terms : Tryd.prog.eqGuardType Tryd.prog.depth 91 = false := by kernel_rfl

theorem neq_terms (x y : Tm) (w : World) : (binOp .neq 91 (.agg #[.string (bs x.1), .bool x.2.1, .bool x.2.2.1, .bool x.2.2.2]) (.agg #[.string (bs y.1), .bool y.2.1, .bool y.2.2.1, .bool y.2.2.2])).run Tryd.prog w = .ok (.bool (decide (x ≠ y))) w := by
  have u := Tryd.underlying9
  have g := Tryd.isAgg9
  have z := Tryd.sizeOf9
  have g2 := Tryd.isAgg89
  have z2 := Tryd.sizeOf89
  have q := flags_eq 9997
  have hb := bs_beq x.1 y.1
  rw [run_neq_struct, show (10000 : Nat) = 9999 + 1 from rfl, run_equalIn_agg w 9999 91 _ _ term_fields term_held]
  simp only [Program.fieldsOf, Tryd.underlying91]
  go_simp
  obtain ⟨x1, a, b, c⟩ := x
  obtain ⟨y1, a', b', c'⟩ := y
  by_cases h : x1 = y1
  · subst h
    cases a <;> cases b <;> cases c <;> cases a' <;> cases b' <;> cases c' <;> simp
  · simp [h]

/-- the lengths of users added up as int does it -/
def wsum (l : List Tm) : Nat → Int
  | 0 => 0
  | k + 1 => wrap64 (wsum l k + ((l.getD k ([], noFl)).1.length : Nat))

/-- the law's own bound on a list -/
def small (l : List Tm) : Bool := decide (l.length ≤ 100) && decide (wsum l l.length ≤ 5000)

theorem take_eq {l m : List Tm} {k : Nat} (hk : k < l.length) (hk' : k < m.length) (h : l.take k = m.take k) (h1 : l[k] = m[k]) : l.take (k + 1) = m.take (k + 1) := by
  rw [List.take_succ_eq_append_getElem hk, List.take_succ_eq_append_getElem hk', h, h1]
theorem ne_at {l m : List Tm} {k : Nat} (hk : k < l.length) (hk' : k < m.length) (h1 : ¬ l[k] = m[k]) : decide (l = m) = false := by
  rw [decide_eq_false_iff_not]
  rintro rfl
  exact h1 rfl

end Go.Proofs.YtpcdcmoapenbdaaDoor.A
