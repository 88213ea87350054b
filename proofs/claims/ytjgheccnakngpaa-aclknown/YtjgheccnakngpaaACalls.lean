/-
  Terms and flags compared; Small, same, a user's place in a list, what is found.
-/
import Derived.Test.YtjgheccnakngpaaARow
import Derived.Deep.LoopGhost
namespace Go.Proofs.Ytjgheccnakngpaa.A
open Go.ChangeShapes Go.WideShapes Go.ChangeAt Go.RowKit
open Go.Proofs.Ytjgheccnakngpaa.N
set_option linter.unusedSimpArgs false

theorem term_fields : Try.prog.underlying 26 = some (.struct (Try.prog.fieldsOf 26)) := by kernel_rfl
theorem flag_fields : Try.prog.underlying 24 = some (.struct (Try.prog.fieldsOf 24)) := by kernel_rfl
theorem term_held : Try.prog.stoodInHeld 26 = false := by kernel_rfl
theorem flag_held : Try.prog.stoodInHeld 24 = false := by kernel_rfl
theorem bs_beq (x y : List UInt8) : ((bs x).toList == (bs y).toList) = decide (x = y) := by
  by_cases h : x = y
  · rw [txt_same h]; simp [h]
  · rw [txt_other h]; simp [h]

theorem flags_eq (d : Nat) (a b c a' b' c' : Bool) (w : World) : (Op.equalIn (d + 2) 24 (.agg #[.bool a, .bool b, .bool c]) (.agg #[.bool a', .bool b', .bool c'])).run Try.prog w = .ok (decide ((a, b, c) = (a', b', c'))) w := by
  have u := Try.underlying4
  have g := Try.isAgg4
  have z := Try.sizeOf4
  rw [run_equalIn_agg w (d + 1) 24 _ _ flag_fields flag_held]
  simp only [Program.fieldsOf, Try.underlying24]
  go_simp
  cases a <;> cases b <;> cases c <;> cases a' <;> cases b' <;> cases c' <;> rfl

theorem neq_flags (f g : Fl) (w : World) : (binOp .neq 24 (.agg #[.bool f.1, .bool f.2.1, .bool f.2.2]) (.agg #[.bool g.1, .bool g.2.1, .bool g.2.2])).run Try.prog w = .ok (.bool (decide (f ≠ g))) w := by
  rw [run_neq_struct, show (10000 : Nat) = 9998 + 2 from rfl, flags_eq]
  obtain ⟨a, b, c⟩ := f
  obtain ⟨a', b', c'⟩ := g
  by_cases h : (a, b, c) = (a', b', c') <;> simp [h]
theorem eql_flags (f g : Fl) (w : World) : (binOp .eql 24 (.agg #[.bool f.1, .bool f.2.1, .bool f.2.2]) (.agg #[.bool g.1, .bool g.2.1, .bool g.2.2])).run Try.prog w = .ok (.bool (decide (f = g))) w := by
  rw [run_eql_struct, show (10000 : Nat) = 9998 + 2 from rfl, flags_eq]
  rfl
theorem guard_flags : Try.prog.eqGuardType Try.prog.depth 24 = false := by kernel_rfl
theorem guard_terms : Try.prog.eqGuardType Try.prog.depth 26 = false := by kernel_rfl

theorem neq_terms (x y : Tm) (w : World) : (binOp .neq 26 (.agg #[.string (bs x.1), .bool x.2.1, .bool x.2.2.1, .bool x.2.2.2]) (.agg #[.string (bs y.1), .bool y.2.1, .bool y.2.2.1, .bool y.2.2.2])).run Try.prog w = .ok (.bool (decide (x ≠ y))) w := by
  have u := Try.underlying9
  have g := Try.isAgg9
  have z := Try.sizeOf9
  have g2 := Try.isAgg24
  have z2 := Try.sizeOf24
  have q := flags_eq 9997
  have hb := bs_beq x.1 y.1
  rw [run_neq_struct, show (10000 : Nat) = 9999 + 1 from rfl, run_equalIn_agg w 9999 26 _ _ term_fields term_held]
  simp only [Program.fieldsOf, Try.underlying26]
  go_simp
  obtain ⟨x1, a, b, c⟩ := x
  obtain ⟨y1, a', b', c'⟩ := y
  by_cases h : x1 = y1
  · subst h
    cases a <;> cases b <;> cases c <;> cases a' <;> cases b' <;> cases c' <;> simp
  · simp [h]

/-- the lengths of users added up as int does it -/
def wsum (l : List Tm) : Nat → Int
  | 0 => 0
  | k + 1 => wrap64 (wsum l k + ((l.getD k ([], noFl)).1.length : Nat))

/-- the law's own bound on a list -/
def small (l : List Tm) : Bool := decide (l.length ≤ 100) && decide (wsum l l.length ≤ 5000)

set_option maxHeartbeats 1000000 in
theorem small_any (a : Option Addr) (c : Nat) (l : List Tm) (w : World) (hr : TRow w a c l) (hm : l.length ≤ maxLen) :
    Calls Try.prog 9 #[.slice a l.length c] w fun e w' => e = .returned (.bool (small l)) ∧ w' = w := by
  have HR := Lib.hid hr
  clear hr
  unfold maxLen at hm
  go_enter Try.func9, Try.ntmps9
  go_wp2
  go_loop [3, 4] (fun n i => ∃ k : Nat, k ≤ l.length ∧ i = .int .i64 k ∧ n = .int .i64 (wsum l k)) (fun _ i => l.length - (intOf i).toNat)
  case atStart => exact ⟨0, Nat.zero_le _, rfl, rfl⟩
  case round =>
    obtain ⟨k, hk, rfl, rfl⟩ := hrel
    by_cases hlt : k < l.length
    · obtain ⟨bk, o, rfl, hbk, c0, c1, c2, c3⟩ := HR.out.at_ hlt
      have hs := bs_size l[k].1
      go_wp2
      go_round
      case rel => exact ⟨k + 1, by omega, by go_num, by rw [wsum]; simp [List.getD, hlt]⟩
      case measure => simp [intOf]; omega
    · obtain rfl : k = l.length := by omega
      by_cases h100 : l.length ≤ 100
      · go_wp2
        go_ret
        exact ⟨retB (by simp [small, h100]), rfl⟩
      · go_wp2
        go_ret
        exact ⟨retB (by simp [small, h100]), rfl⟩
theorem small_le {l : List Tm} (h : small l = true) : l.length ≤ 100 := by
  simp only [small, Bool.and_eq_true, decide_eq_true_eq] at h
  exact h.1

theorem take_eq {l m : List Tm} {k : Nat} (hk : k < l.length) (hk' : k < m.length) (h : l.take k = m.take k) (h1 : l[k] = m[k]) : l.take (k + 1) = m.take (k + 1) := by
  rw [List.take_succ_eq_append_getElem hk, List.take_succ_eq_append_getElem hk', h, h1]
theorem ne_at {l m : List Tm} {k : Nat} (hk : k < l.length) (hk' : k < m.length) (h1 : ¬ l[k] = m[k]) : decide (l = m) = false := by
  rw [decide_eq_false_iff_not]
  rintro rfl
  exact h1 rfl

set_option maxHeartbeats 1000000 in
theorem same_any (a b : Option Addr) (c d : Nat) (l m : List Tm) (w : World) (hr : TRow w a c l) (hs : TRow w b d m) (hq : l.length ≤ 1000000) (hq' : m.length ≤ 1000000) :
    Calls Try.prog 14 #[.slice a l.length c, .slice b m.length d] w fun e w' => e = .returned (.bool (decide (l = m))) ∧ ∃ n, w' = w.drewN n := by
  by_cases hlen : l.length = m.length
  case neg =>
    have hne : decide (l = m) = false := by rw [decide_eq_false_iff_not]; rintro rfl; exact hlen rfl
    have HN := Lib.hid hne
    clear hne hr hs
    go_enter Try.func14, Try.ntmps14
    go_wp2
    all_goals (go_ret; exact ⟨retB HN.out.symm, 0, rfl⟩)
  have HR := Lib.hid hr
  have HS := Lib.hid hs
  have HE := Lib.hid hlen
  have gt := guard_terms
  clear hr hs
  go_enter Try.func14, Try.ntmps14
  go_wp2
  go_loopw [5] (fun i W => ∃ k n : Nat, k ≤ l.length ∧ i = .int .i64 k ∧ W = w.drewN n ∧ Hid (l.take k = m.take k)) (fun i _ => l.length - (intOf i).toNat)
  case atStart => exact ⟨0, 0, Nat.zero_le _, rfl, rfl, Lib.hid rfl⟩
  case round =>
    obtain ⟨k, n, hk, rfl, rfl, ha⟩ := hrel
    by_cases hlt : k < l.length
    · have hlt' : k < m.length := by have := HE.out; omega
      obtain ⟨bk, o, rfl, hbk, c0, c1, c2, c3⟩ := HR.out.at_ hlt
      obtain ⟨bk', o', rfl, hbk', d0, d1, d2, d3⟩ := HS.out.at_ hlt'
      have hn := neq_terms l[k] m[k]
      by_cases hm : l[k] = m[k]
      · have HM := Lib.hid hm
        rw [show decide (l[k] ≠ m[k]) = false by simp [hm]] at hn
        clear hm
        go_wp2
        go_quiet (fail)
        go_wp2
        go_roundw
        case rel => exact ⟨k + 1, n + nq, by omega, by go_num, by first | rfl | rw [World.drewN_drewN], Lib.hid (take_eq hlt hlt' ha.out HM.out)⟩
        case measure => simp [intOf]; omega
      · have HM := Lib.hid hm
        rw [show decide (l[k] ≠ m[k]) = true by simp [hm]] at hn
        clear hm
        go_wp2
        go_quiet (fail)
        go_wp2
        go_ret
        exact ⟨retB (ne_at hlt hlt' HM.out).symm, n + nq, by first | rfl | rw [World.drewN_drewN]⟩
    · obtain rfl : k = l.length := by omega
      go_wp2
      go_ret
      exact ⟨retB (by have := ha.out; rw [List.take_length, HE.out, List.take_length] at this; simp [this]), _, rfl⟩

end Go.Proofs.Ytjgheccnakngpaa.A
