/-
  The two Joins: the parts with a stroke ahead of each, or a stroke alone.
-/
import Derived.Test.YtipohdaofnhnpaaDoorNRow
namespace Go.Proofs.YtipohdaofnhnpaaDoor.N
open Go.ChangeShapes Go.WideShapes Go.ChangeAt Go.RowKit

theorem retS {x y : ByteArray} (h : x = y) : Ending.returned (.string x) = .returned (.string y) := by rw [h]
theorem bs_app (x y : List UInt8) : bs x ++ bs y = bs (x ++ y) := by
  apply bytes_inj
  rw [bs_data]
  simp [bs]
theorem bs_nil : (⟨#[]⟩ : ByteArray) = bs [] := rfl
theorem bs_stroke : (⟨#[62]⟩ : ByteArray) = bs [62] := rfl

/-- the first k parts, each behind its stroke -/
def flat (qs : List (List UInt8)) : List UInt8 := qs.flatMap (62 :: ·)
theorem flat_step {qs : List (List UInt8)} {k : Nat} (hk : k < qs.length) : flat (qs.take (k + 1)) = flat (qs.take k) ++ [62] ++ qs[k] := by
  rw [List.take_succ_eq_append_getElem hk, flat, flat, List.flatMap_append]
  simp
theorem flat_le (qs : List (List UInt8)) (k : Nat) : (flat (qs.take k)).length ≤ (flat qs).length := by
  have : flat qs = flat (qs.take k) ++ flat (qs.drop k) := by
    rw [flat, flat, flat, ← List.flatMap_append, List.take_append_drop]
  rw [this, List.length_append]
  omega

theorem flat_text {qs : List (List UInt8)} {k : Nat} (hk : k < qs.length) : bs (flat (qs.take k)) ++ ⟨#[62]⟩ ++ bs qs[k] = bs (flat (qs.take (k + 1))) := by
  rw [bs_stroke, bs_app, bs_app, flat_step hk]
theorem flat_room {qs : List (List UInt8)} {k : Nat} (hk : k < qs.length) (hl : (flat qs).length ≤ 1000000000) :
    (¬ 9223372036854775807 < (bs (flat (qs.take k))).size + 1) ∧ ¬ 9223372036854775807 < (bs (flat (qs.take k))).size + 1 + (bs qs[k]).size := by
  have h1 := flat_le qs (k + 1)
  rw [flat_step hk] at h1
  simp only [List.length_append, List.length_cons, List.length_nil] at h1
  rw [bs_size, bs_size]
  omega

set_option maxHeartbeats 400000 in
theorem refJoin_any (a : Option Addr) (c : Nat) (qs : List (List UInt8)) (w : World) (hr : Row w a c qs) (hq : qs.length ≤ 1000000) (hl : (flat qs).length ≤ 1000000000) :
    Calls Tryd.prog 17 #[.slice a qs.length c] w fun e w' => e = .returned (.string (bs (joinOf qs))) ∧ w' = w := by
  by_cases h0 : qs.length = 0
  · obtain rfl : qs = [] := List.eq_nil_of_length_eq_zero h0
    clear hr hl h0
    go_enter Tryd.func17, Tryd.ntmps17
    go_wp2
    all_goals (go_ret; exact ⟨rfl, rfl⟩)
  have HR := Lib.hid hr
  have HL := Lib.hid hl
  clear hr hl
  go_enter Tryd.func17, Tryd.ntmps17
  go_wp2
  go_loop [3, 4] (fun t i => ∃ k : Nat, k ≤ qs.length ∧ i = .int .i64 k ∧ t = .string (bs (flat (qs.take k)))) (fun _ i => qs.length - (intOf i).toNat)
  case atStart => exact ⟨0, Nat.zero_le _, rfl, rfl⟩
  case round =>
    obtain ⟨k, hk, rfl, rfl⟩ := hrel
    by_cases hlt : k < qs.length
    · obtain ⟨bk, o, rfl, hbk, hc⟩ := HR.out.at_ hlt
      have b := flat_room hlt HL.out
      obtain ⟨b1, b2⟩ := b
      have HX := Lib.hid (flat_text hlt)
      go_wp2
      go_round
      case rel => exact ⟨k + 1, by omega, by first | rfl | go_num, by first | exact HX.out | rw [HX.out]⟩
      case measure => simp [intOf]; omega
    · obtain rfl : k = qs.length := by omega
      go_wp2
      go_ret
      refine ⟨retS ?_, rfl⟩
      rw [joinOf, if_neg (fun e => h0 (by rw [e]; rfl))]
      rfl

theorem map_back (qs : List (List UInt8)) : (qs.map bs).map (·.data.toList) = qs := by
  rw [List.map_map]
  conv => rhs; rw [← List.map_id qs]
  exact List.map_congr_left fun x _ => bs_data x
theorem join_len_le (qs : List (List UInt8)) : (Lib.join qs [62]).length + 1 = (joinOf qs).length := by
  rw [← join_lib, List.length_cons]
theorem joinOf_flat_le (qs : List (List UInt8)) : (joinOf qs).length ≤ (flat qs).length + 1 := by
  unfold joinOf flat
  split
  · simp
  · omega

theorem strJoin_any (a : Option Addr) (c : Nat) (qs : List (List UInt8)) (w : World) (hr : Row w a c qs) (hq : qs.length ≤ 100000000000) (hl : (flat qs).length ≤ 100000000000) :
    Calls Tryd.prog 24 #[.slice a qs.length c, .string ⟨#[62]⟩] w fun e w' => e = .returned (.string (bs (Lib.join qs [62]))) ∧ Below w.heap.size w w' := by
  by_cases h0 : qs = []
  · subst h0
    exact (Tryd.strings_Join_none a c ⟨#[62]⟩ w).mono fun e w' ⟨he, hw⟩ => ⟨he, hw ▸ Below.refl _ _⟩
  · obtain ⟨bk, o, rfl, hbk, hc⟩ := hr.2 (List.length_pos_iff.2 h0)
    have h1 := join_len_le qs
    have h2 := joinOf_flat_le qs
    have e1 : (qs.map bs).length = qs.length := by simp
    have e2 : Lib.join ((qs.map bs).map (·.data.toList)) [62] = Lib.join qs [62] := by rw [map_back]
    have c1 := Tryd.strings_Join bk o c (qs.map bs) ⟨#[62]⟩ w (fun j x hx => by
      rw [List.getElem?_map] at hx
      cases hj : qs[j]? with
      | none => rw [hj] at hx; cases hx
      | some p =>
        rw [hj] at hx
        cases hx
        exact hc j p hj) hbk (by rw [e1]; omega) (by rw [e1]; exact hr.1) (by show (Lib.join ((qs.map bs).map (·.data.toList)) [62]).length ≤ _; rw [e2]; omega)
    rw [e1] at c1
    refine c1.mono fun e w' ⟨he, hw⟩ => ⟨?_, hw⟩
    rw [he]
    show Ending.returned (.string (bs (Lib.join ((qs.map bs).map (·.data.toList)) [62]))) = _
    rw [e2]

theorem join_text (qs : List (List UInt8)) : (⟨#[62]⟩ : ByteArray) ++ bs (Lib.join qs [62]) = bs (joinOf qs) := by
  rw [bs_stroke, bs_app, ← join_lib]; rfl

theorem join_any (a : Option Addr) (c : Nat) (qs : List (List UInt8)) (w : World) (hr : Row w a c qs) (hq : qs.length ≤ 100000000000) (hl : (flat qs).length ≤ 100000000000) :
    Calls Tryd.prog 18 #[.slice a qs.length c] w fun e w' => e = .returned (.string (bs (joinOf qs))) ∧ Below w.heap.size w w' := by
  have hx := join_text qs
  have b1 : ¬ 9223372036854775807 < 1 + (bs (Lib.join qs [62])).size := by
    have h1 := join_len_le qs
    have h2 := joinOf_flat_le qs
    rw [bs_size]; omega
  have HC := Lib.hid (strJoin_any a c qs w hr hq hl)
  have HX := Lib.hid hx
  clear hx hr hl hq
  go_enter Tryd.func18, Tryd.ntmps18
  go_wp2_with (go_at_call 24; refine HC.out.mono ?_; rintro e w' ⟨rfl, hb⟩)
  go_ret
  exact ⟨retS HX.out, hb⟩

end Go.Proofs.YtipohdaofnhnpaaDoor.N
