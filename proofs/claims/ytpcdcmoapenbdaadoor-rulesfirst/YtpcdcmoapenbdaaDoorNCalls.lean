/-
  What the functions on names return, the program's and the document's: one contract a function, for every text.
-/
import Derived.Test.YtpcdcmoapenbdaaDoorProg
import Derived.Test.YtpcdcmoapenbdaaDoorNMath
import Derived.WalkKit
import Derived.ProofKit
import Derived.Below
import Derived.Lib.Hide
import Derived.Deep.QuietTactic
import Derived.BigQuiet
namespace Go.Proofs.YtpcdcmoapenbdaaDoor.N
open Go.ChangeShapes Go.WideShapes Go.ChangeAt Go.RowKit

theorem retB {a b : Bool} (h : a = b) : Ending.returned (.bool a) = .returned (.bool b) := by rw [h]

theorem take_snoc (s : ByteArray) (k : Nat) (h : k < s.size) : s.data.toList.take (k + 1) = s.data.toList.take k ++ [s[k]] := by
  rw [List.take_succ_eq_append_getElem (by simpa using h)]; rfl

theorem all_take (s : ByteArray) (k : Nat) (h : k < s.size) (ht : (s.data.toList.take k).all okSign = true) (hc : okSign s[k] = true) : (s.data.toList.take (k + 1)).all okSign = true := by
  rw [take_snoc s k h, List.all_append, ht]
  simp [hc]

theorem all_not (s : ByteArray) (k : Nat) (h : k < s.size) (hc : okSign s[k] = false) : s.data.toList.all okSign = false := by
  rw [List.all_eq_false]
  exact ⟨s[k], by rw [show s[k] = s.data.toList[k]'(by simpa using h) from rfl]; exact List.getElem_mem _, by simp [hc]⟩

theorem size_len (s : ByteArray) : s.data.toList.length = s.size := Array.length_toList

theorem sign_yes {b : UInt8} (h1 : ¬ (b.toNat : Int) < 33) (h2 : ¬ (b.toNat : Int) > 126) (h3 : ¬ (b.toNat : Int) = 62) : okSign b = true := by
  have : ¬ b = 62 := fun e => h3 (by rw [e]; rfl)
  simp [okSign, this]
  omega
theorem sign_lo {b : UInt8} (h1 : (b.toNat : Int) < 33) : okSign b = false := by
  simp [okSign]; omega
theorem sign_hi {b : UInt8} (h1 : (b.toNat : Int) > 126) : okSign b = false := by
  simp [okSign]; omega
theorem sign_st {b : UInt8} (h1 : (b.toNat : Int) = 62) : okSign b = false := by
  have : b = 62 := UInt8.toNat_inj.1 (by simpa using Int.ofNat.inj h1)
  simp [okSign, this]

theorem may_short {m : Nat} {l : List UInt8} (h : ¬ 1 ≤ l.length) : may m l = false := by simp [may, h]
theorem may_long {m : Nat} {l : List UInt8} (h : ¬ l.length ≤ m) : may m l = false := by simp [may, h]
theorem may_bad {m : Nat} {l : List UInt8} (h : l.all okSign = false) : may m l = false := by rw [may, h, Bool.and_false]
theorem may_good {m : Nat} {l : List UInt8} (h0 : 1 ≤ l.length) (h1 : l.length ≤ m) (h : l.all okSign = true) : may m l = true := by simp [may, h0, h1, h]

theorem may_short' {m : Nat} {s : ByteArray} (h : s.size = 0) : may m s.data.toList = false := may_short (by rw [size_len]; omega)
theorem may_long' {m : Nat} {s : ByteArray} (h : m < s.size) : may m s.data.toList = false := may_long (by rw [size_len]; omega)
theorem may_bad' {m : Nat} {s : ByteArray} {k : Nat} (h : k < s.size) (hc : okSign s[k] = false) : may m s.data.toList = false := may_bad (all_not s k h hc)
theorem may_good' {m : Nat} {s : ByteArray} (h0 : 1 ≤ s.size) (h1 : s.size ≤ m) (h : (s.data.toList.take s.size).all okSign = true) : may m s.data.toList = true :=
  may_good (by rw [size_len]; omega) (by rw [size_len]; omega) (by rw [← size_len, List.take_length] at h; exact h)

set_option maxHeartbeats 400000 in
theorem plain_any (s : ByteArray) (m : Nat) (w : World) (hs : s.size ≤ maxLen) (hm : m ≤ 1000) :
    Calls Tryd.prog 61 #[.string s, .int .i64 m] w fun e w' => e = .returned (.bool (may m s.data.toList)) ∧ w' = w := by
  unfold maxLen at hs
  by_cases h1 : s.size = 0
  · have e1 : decide ((s.size : Int) < 1) = true := by simp; omega
    go_enter Tryd.func61, Tryd.ntmps61
    go_wp2
    all_goals (go_ret; exact ⟨retB (may_short' h1).symm, rfl⟩)
  have h1' : 1 ≤ s.size := by omega
  clear h1
  by_cases h2 : m < s.size
  · go_enter Tryd.func61, Tryd.ntmps61
    go_wp2
    all_goals (go_ret; exact ⟨retB (may_long' h2).symm, rfl⟩)
  have h2' : s.size ≤ m := by omega
  go_enter Tryd.func61, Tryd.ntmps61
  go_wp2
  go_loop [5] (fun i => ∃ k : Nat, k ≤ s.size ∧ i = .int .i64 k ∧ (s.data.toList.take k).all okSign = true) (fun i => s.size - (intOf i).toNat)
  case atStart => exact ⟨0, Nat.zero_le _, rfl, rfl⟩
  case round =>
    obtain ⟨k, hk, rfl, ha⟩ := hrel
    have HA := Lib.hid ha
    clear ha
    by_cases hlt : k < s.size
    · by_cases g1 : (s[k].toNat : Int) < 33
      · go_wp2
        all_goals (go_ret; exact ⟨retB (may_bad' hlt (sign_lo g1)).symm, rfl⟩)
      by_cases g2 : (s[k].toNat : Int) > 126
      · go_wp2
        all_goals (go_ret; exact ⟨retB (may_bad' hlt (sign_hi g2)).symm, rfl⟩)
      by_cases g3 : (s[k].toNat : Int) = 62
      · go_wp2
        all_goals (go_ret; exact ⟨retB (may_bad' hlt (sign_st g3)).symm, rfl⟩)
      go_wp2
      go_round
      case rel => exact ⟨k + 1, by omega, by go_num, all_take s k hlt HA.out (sign_yes g1 g2 g3)⟩
      case measure => simp [intOf]; omega
    · obtain rfl : k = s.size := by omega
      go_wp2
      go_ret
      exact ⟨retB (may_good' h1' h2' HA.out).symm, rfl⟩

set_option maxHeartbeats 400000 in
theorem signs_any (s : ByteArray) (m : Nat) (w : World) (hs : s.size ≤ maxLen) (hm : m ≤ 1000) :
    Calls Tryd.prog 58 #[.string s, .int .i64 m] w fun e w' => e = .returned (.bool (may m s.data.toList)) ∧ ∃ n, w' = w.drewN n := by
  unfold maxLen at hs
  by_cases h1 : s.size = 0
  · have e1 : decide ((s.size : Int) < 1) = true := by simp; omega
    go_enter Tryd.func58, Tryd.ntmps58
    go_wp2
    all_goals (go_ret; exact ⟨retB (may_short' h1).symm, 0, rfl⟩)
  have h1' : 1 ≤ s.size := by omega
  clear h1
  by_cases h2 : m < s.size
  · go_enter Tryd.func58, Tryd.ntmps58
    go_wp2
    all_goals (go_ret; exact ⟨retB (may_long' h2).symm, 0, rfl⟩)
  have h2' : s.size ≤ m := by omega
  go_enter Tryd.func58, Tryd.ntmps58
  go_wp2
  go_loopw [17] (fun i W => ∃ k n : Nat, k ≤ s.size ∧ i = .int .i64 k ∧ W = w.drewN n ∧ (s.data.toList.take k).all okSign = true) (fun i _ => s.size - (intOf i).toNat)
  case atStart => exact ⟨0, 0, Nat.zero_le _, rfl, rfl, rfl⟩
  case round =>
    obtain ⟨k, n, hk, rfl, rfl, ha⟩ := hrel
    have HA := Lib.hid ha
    clear ha
    by_cases hlt : k < s.size
    · by_cases g1 : (s[k].toNat : Int) < 33
      · go_wp2
        go_quiet (fail)
        go_wp2
        all_goals (go_ret; exact ⟨retB (may_bad' hlt (sign_lo g1)).symm, n + nq, by rw [World.drewN_drewN]⟩)
      by_cases g2 : (s[k].toNat : Int) > 126
      · go_wp2
        go_quiet (fail)
        go_wp2
        all_goals (go_ret; exact ⟨retB (may_bad' hlt (sign_hi g2)).symm, n + nq, by rw [World.drewN_drewN]⟩)
      by_cases g3 : (s[k].toNat : Int) = 62
      · go_wp2
        go_quiet (fail)
        go_wp2
        all_goals (go_ret; exact ⟨retB (may_bad' hlt (sign_st g3)).symm, n + nq, by rw [World.drewN_drewN]⟩)
      have HY := Lib.hid (sign_yes g1 g2 g3)
      have e3 : ((s[k].toNat : Int) == (((⟨#[62]⟩ : ByteArray)[0]).toNat : Int)) = false := by
        rw [beq_eq_false_iff_ne]; exact g3
      go_wp2
      go_quiet (fail)
      go_wp2
      go_roundw
      case rel => exact ⟨k + 1, n + nq, by omega, by go_num, rfl, all_take s k hlt HA.out HY.out⟩
      case measure => simp [intOf]; omega
    · obtain rfl : k = s.size := by omega
      go_wp2
      go_ret
      exact ⟨retB (may_good' h1' h2' HA.out).symm, _, rfl⟩

theorem may_any (s : ByteArray) (w : World) (hs : s.size ≤ maxLen) :
    Calls Tryd.prog 33 #[.string s] w fun e w' => e = .returned (.bool (may 32 s.data.toList)) ∧ ∃ n, w' = w.drewN n := by
  go_enter Tryd.func33, Tryd.ntmps33
  go_wp2_with (go_at_call 58; refine (signs_any s 32 _ hs (by omega)).mono ?_; rintro e w' ⟨rfl, n, rfl⟩)
  go_ret
  exact ⟨rfl, _, rfl⟩

theorem user_any (s : ByteArray) (w : World) (hs : s.size ≤ maxLen) :
    Calls Tryd.prog 82 #[.string s] w fun e w' => e = .returned (.bool (may 16 s.data.toList)) ∧ ∃ n, w' = w.drewN n := by
  go_enter Tryd.func82, Tryd.ntmps82
  go_wp2_with (go_at_call 58; refine (signs_any s 16 _ hs (by omega)).mono ?_; rintro e w' ⟨rfl, n, rfl⟩)
  go_ret
  exact ⟨rfl, _, rfl⟩

theorem nameMay_any (s : ByteArray) (w : World) (hs : s.size ≤ maxLen) :
    Calls Tryd.prog 36 #[.string s] w fun e w' => e = .returned (.bool (may 32 s.data.toList)) ∧ w' = w := by
  go_enter Tryd.func36, Tryd.ntmps36
  go_wp2_with (go_at_call 61; refine (plain_any s 32 _ hs (by omega)).mono ?_; rintro e w' ⟨rfl, rfl⟩)
  go_ret
  exact ⟨rfl, rfl⟩

theorem userMay_any (s : ByteArray) (w : World) (hs : s.size ≤ maxLen) :
    Calls Tryd.prog 81 #[.string s] w fun e w' => e = .returned (.bool (may 16 s.data.toList)) ∧ w' = w := by
  go_enter Tryd.func81, Tryd.ntmps81
  go_wp2_with (go_at_call 61; refine (plain_any s 16 _ hs (by omega)).mono ?_; rintro e w' ⟨rfl, rfl⟩)
  go_ret
  exact ⟨rfl, rfl⟩

end Go.Proofs.YtpcdcmoapenbdaaDoor.N
