/-
  Rows of texts: allMay, same, the two Joins. 'Row': the slice holds these texts, whatever it is where it holds none.
-/
import Derived.Test.YtpcdcmoapenbdaaDoorNCalls
namespace Go.Proofs.YtpcdcmoapenbdaaDoor.N
open Go.ChangeShapes Go.WideShapes Go.ChangeAt Go.RowKit

/-- a slice that holds these texts -/
def Row (w : World) (a : Option Addr) (c : Nat) (qs : List (List UInt8)) : Prop :=
  qs.length ≤ c ∧ (0 < qs.length → ∃ bk o, a = some ⟨bk, o, none⟩ ∧ bk < w.heap.size ∧ ∀ (j : Nat) p, qs[j]? = some p → w.cell? ⟨bk, o + j, none⟩ = some (.string (bs p)))

theorem Row.below {w w' : World} {a : Option Addr} {c : Nat} {qs : List (List UInt8)} (h : Row w a c qs) (hb : Below w.heap.size w w') : Row w' a c qs :=
  ⟨h.1, fun h0 => by
    obtain ⟨bk, o, e, hl, hc⟩ := h.2 h0
    exact ⟨bk, o, e, Nat.lt_of_lt_of_le hl hb.size, fun j p hp => (hb.cell (p := ⟨bk, o + j, none⟩) hl).trans (hc j p hp)⟩⟩

theorem Row.nil (w : World) (a : Option Addr) (c : Nat) : Row w a c [] := ⟨Nat.zero_le _, fun h => absurd h (by simp)⟩

theorem Row.drewN {w : World} {a : Option Addr} {c : Nat} {qs : List (List UInt8)} (h : Row w a c qs) (n : Nat) : Row (w.drewN n) a c qs := h

/-- the k-th text: where it lies -/
theorem Row.at_ {w : World} {a : Option Addr} {c : Nat} {qs : List (List UInt8)} (h : Row w a c qs) {k : Nat} (hk : k < qs.length) :
    ∃ bk o, a = some ⟨bk, o, none⟩ ∧ bk < w.heap.size ∧ w.cell? ⟨bk, o + k, none⟩ = some (.string (bs qs[k])) := by
  obtain ⟨bk, o, e, hl, hc⟩ := h.2 (by omega)
  exact ⟨bk, o, e, hl, hc k _ (List.getElem?_eq_getElem hk)⟩

theorem below_drewN (w : World) (n : Nat) : Below w.heap.size w (w.drewN n) := ⟨rfl, rfl, rfl, Nat.le_refl _, fun _ _ => rfl⟩

theorem all_step {qs : List (List UInt8)} {k : Nat} (hk : k < qs.length) (h : (qs.take k).all (may 32) = true) (h1 : may 32 qs[k] = true) : (qs.take (k + 1)).all (may 32) = true := by
  rw [List.take_succ_eq_append_getElem hk, List.all_append, h]
  simp [h1]
theorem all_stop {qs : List (List UInt8)} {k : Nat} (hk : k < qs.length) (h1 : may 32 qs[k] = false) : qs.all (may 32) = false := by
  rw [List.all_eq_false]
  exact ⟨qs[k], List.getElem_mem _, by simp [h1]⟩

set_option maxHeartbeats 400000 in
theorem allMay_any (a : Option Addr) (c : Nat) (qs : List (List UInt8)) (w : World) (hr : Row w a c qs) (hq : qs.length ≤ 1000000) (hl : ∀ p ∈ qs, p.length ≤ 1000000) :
    Calls Tryd.prog 74 #[.slice a qs.length c] w fun e w' => e = .returned (.bool (qs.all (may 32))) ∧ ∃ n, w' = w.drewN n := by
  have HR := Lib.hid hr
  have HL := Lib.hid hl
  clear hr hl
  go_enter Tryd.func74, Tryd.ntmps74
  go_wp2
  go_loopw [7] (fun i W => ∃ k n : Nat, k ≤ qs.length ∧ i = .int .i64 k ∧ W = w.drewN n ∧ Hid ((qs.take k).all (may 32) = true)) (fun i _ => qs.length - (intOf i).toNat)
  case atStart => exact ⟨0, 0, Nat.zero_le _, rfl, rfl, Lib.hid rfl⟩
  case round =>
    obtain ⟨k, n, hk, rfl, rfl, ha⟩ := hrel
    by_cases hlt : k < qs.length
    · obtain ⟨bk, o, rfl, hbk, hc⟩ := HR.out.at_ hlt
      have hsz : (bs qs[k]).size ≤ maxLen := by
        rw [bs_size]; unfold maxLen
        have := HL.out qs[k] (List.getElem_mem _)
        omega
      have HB := Lib.hid (bs_data qs[k])
      cases hm : may 32 qs[k] with
      | false =>
        have e1 : may 32 (bs qs[k]).data.toList = false := by rw [HB.out]; exact hm
        go_wp2_with (go_at_call 33; refine (may_any _ _ hsz).mono ?_; rintro e w' ⟨rfl, n', rfl⟩)
        go_ret
        exact ⟨retB (all_stop hlt hm).symm, n + n', by first | rfl | rw [World.drewN_drewN]⟩
      | true =>
        have e1 : may 32 (bs qs[k]).data.toList = true := by rw [HB.out]; exact hm
        go_wp2_with (go_at_call 33; refine (may_any _ _ hsz).mono ?_; rintro e w' ⟨rfl, n', rfl⟩)
        go_roundw
        case rel => exact ⟨k + 1, n + n', by omega, by go_num, by first | rfl | rw [World.drewN_drewN], Lib.hid (all_step hlt ha.out hm)⟩
        case measure => simp [intOf]; omega
    · obtain rfl : k = qs.length := by omega
      go_wp2
      go_ret
      exact ⟨retB (by have := ha.out; rw [List.take_length] at this; exact this.symm), _, rfl⟩

/-- two texts compared as the model does it -/
theorem txt_same {x y : List UInt8} (h : x = y) : ((bs x).toList == (bs y).toList) = true := by rw [h]; exact beq_self_eq_true _
theorem txt_other {x y : List UInt8} (h : ¬ x = y) : ((bs x).toList == (bs y).toList) = false := by
  rw [Lib.toList_data, Lib.toList_data, bs_data, bs_data]
  exact beq_eq_false_iff_ne.2 h

theorem take_eq {qs rs : List (List UInt8)} {k : Nat} (hk : k < qs.length) (hk' : k < rs.length) (h : qs.take k = rs.take k) (h1 : qs[k] = rs[k]) : qs.take (k + 1) = rs.take (k + 1) := by
  rw [List.take_succ_eq_append_getElem hk, List.take_succ_eq_append_getElem hk', h, h1]
theorem ne_at {qs rs : List (List UInt8)} {k : Nat} (hk : k < qs.length) (hk' : k < rs.length) (h1 : ¬ qs[k] = rs[k]) : decide (qs = rs) = false := by
  rw [decide_eq_false_iff_not]
  rintro rfl
  exact h1 rfl

end Go.Proofs.YtpcdcmoapenbdaaDoor.N
