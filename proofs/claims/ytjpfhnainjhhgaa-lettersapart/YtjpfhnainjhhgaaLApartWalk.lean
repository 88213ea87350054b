/-
  The law LettersApart answers true.
-/
import Derived.Test.YtjpfhnainjhhgaaLTurnWalk
namespace Go.Proofs.Ytjpfhnainjhhgaa.W
open Go.ChangeShapes Go.WideShapes Go.ChangeAt Go.RowKit
open Go.Proofs.Ytjpfhnainjhhgaa.N (bs bs_data bs_of bs_size bs_inj)

theorem str_eq (a b : ByteArray) : (a.toList == b.toList) = decide (a.data.toList = b.data.toList) := by
  rw [Lib.toList_data, Lib.toList_data]
  by_cases h : a.data.toList = b.data.toList
  · rw [decide_eq_true h, h]; exact beq_self_eq_true _
  · rw [decide_eq_false h]; exact beq_eq_false_iff_ne.2 h

set_option maxRecDepth 8000 in
set_option maxHeartbeats 2000000 in
theorem apart_walk (a b : ByteArray) (w : World) (ha : a.size ≤ maxLen) (hb : b.size ≤ maxLen) :
    Calls Try.prog 6 #[.string a, .string b] w fun e w' => e = .returned (.bool true) ∧ Below w.heap.size w w' := by
  unfold maxLen at ha hb
  by_cases h1 : 255 < a.size
  · go_enter Try.func6, Try.ntmps6
    go_wp2_with (go_at_call 7; ((with_reducible refine (awake_any w).mono ?_); rintro e wa ⟨rfl, ba⟩))
    all_goals (go_ret; exact ⟨rfl, ba⟩)
  have t1 : decide ((a.size : Int) > 255) = false := decide_eq_false (by omega)
  have t1' : decide (255 < a.size) = false := decide_eq_false h1
  by_cases h2 : 255 < b.size
  · have t2 : decide ((b.size : Int) > 255) = true := decide_eq_true (by omega)
    go_enter Try.func6, Try.ntmps6
    go_wp2_with (go_at_call 7; ((with_reducible refine (awake_any w).mono ?_); rintro e wa ⟨rfl, ba⟩))
    all_goals (go_ret; exact ⟨rfl, ba⟩)
  have t2 : decide ((b.size : Int) > 255) = false := decide_eq_false (by omega)
  have t2' : decide (255 < b.size) = false := decide_eq_false h2
  have hsa : a.data.toList.length = a.size := Array.length_toList
  have hsb : b.data.toList.length = b.size := Array.length_toList
  have hla : (wds a.data.toList).length = nw a.size := by rw [wds_len, hsa]
  have hlb : (wds b.data.toList).length = nw b.size := by rw [wds_len, hsb]
  have hna := nw_le (show a.size ≤ 255 by omega)
  have HW1 : Hid _ := Lib.hid (fun W => words_any a W (by omega))
  have HW2 : Hid _ := Lib.hid (fun W => words_any b W (by omega))
  have HBd : Hid _ := Lib.hid (wds_bd (l := a.data.toList) (by omega))
  have hsm : ∀ (W : World) (g1 o1 g2 o2 c d : Nat), Lie W g1 o1 (wds a.data.toList) → Lie W g2 o2 (wds b.data.toList) → Calls Try.prog 10 #[.slice (some ⟨g1, o1, none⟩) (nw a.size) c, .slice (some ⟨g2, o2, none⟩) (nw b.size) d] W fun e w' => e = .returned (.bool (a.toList == b.toList)) ∧ ∃ n, w' = W.drewN n := fun W g1 o1 g2 o2 c d l1 l2 => by
    have := same_any (c := c) (d := d) _ _ W l1 l2 (by omega)
    rw [hla, hlb] at this
    refine this.mono fun e w' ⟨e1, e2⟩ => ⟨?_, e2⟩
    rw [e1, str_eq]
    congr 2
    exact decide_eq_decide.2 ⟨fun h => wds_inj (by omega) (by omega) h, fun h => by rw [h]⟩
  have HSm := Lib.hid hsm
  have HLa := Lib.hid hla
  clear hsm hla hlb hsa hsb
  go_enter Try.func6, Try.ntmps6
  go_wp2_with (first
    | (go_at_call 7; ((with_reducible refine (awake_any w).mono ?_); rintro e wa ⟨rfl, ba⟩))
    | (go_at_call_of 8 (Value.string a); ((with_reducible refine (HW1.out wa).mono ?_); rintro e wb ⟨rfl, hb1, bb⟩; have HL1 := Lib.hid (row_lie hb1); have B1 := Lib.hid (ba.trans (bb.mono ba.size)); clear hb1))
    | (go_at_call_of 8 (Value.string b); ((with_reducible refine (HW2.out wb).mono ?_); rintro e wc ⟨rfl, hb2, bc⟩; have HL2 := Lib.hid (row_lie hb2); have HL3 := Lib.hid (HL1.out.below bc); have B2 := Lib.hid (B1.out.trans (bc.mono B1.out.size)); clear hb2)))
  go_loopw [9] (fun i W => ∃ k : Nat, k ≤ nw a.size ∧ i = .int .i64 k ∧ W = wc) (fun i _ => nw a.size - (intOf i).toNat)
  case atStart => exact ⟨0, by omega, rfl, rfl⟩
  case round =>
    obtain ⟨k, hk, rfl, rfl⟩ := hrel
    by_cases hlt : k < nw a.size
    · have a1 := HL3.out k (by rw [HLa.out]; exact hlt)
      rw [Nat.zero_add] at a1
      have hm : (wds a.data.toList).getD k 0 ∈ wds a.data.toList := by
        have hkl : k < (wds a.data.toList).length := by rw [HLa.out]; exact hlt
        rw [show (wds a.data.toList).getD k 0 = (wds a.data.toList)[k] by simp [List.getD, hkl]]
        exact List.getElem_mem _
      have hbd := HBd.out _ hm
      generalize (wds a.data.toList).getD k 0 = v at *
      have i0 : (0 : Int) ≤ (k : Int) := by omega
      have i1 : (k : Int) < (nw a.size : Int) := by omega
      have t3 : decide (v > 68719476735) = false := decide_eq_false (by omega)
      go_wp2
      go_roundw
      case rel => exact ⟨k + 1, by omega, by go_num, by first | rfl | trivial⟩
      case measure => simp [intOf]; omega
    · have d : decide ((k : Int) < (nw a.size : Int)) = false := decide_eq_false (by omega)
      generalize hq : (a.toList == b.toList) = q at *
      go_wp2_with (go_at_call 10; ((with_reducible refine (HSm.out _ _ _ _ _ _ _ HL3.out HL2.out).mono ?_); rintro e w5 ⟨rfl, n5, e5⟩; obtain rfl := e5.symm))
      go_ret
      have c4 := B2.out
      refine ⟨?_, ⟨c4.os, c4.tape, c4.output, c4.size, c4.block⟩⟩
      cases q <;> rfl

end Go.Proofs.Ytjpfhnainjhhgaa.W
