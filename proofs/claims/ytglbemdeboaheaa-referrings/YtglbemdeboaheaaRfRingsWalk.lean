/-
  ReferRings walked: one name in some of the rings.
-/
import Derived.Test.YtglbemdeboaheaaRfAwake
import Derived.BigQuiet
namespace Go.Proofs.Ytglbemdeboaheaa.Rf
open Go.ChangeShapes Go.WideShapes Go.ChangeAt Go.RowKit
open Go.Proofs.Ytglbemdeboaheaa.N (bs bs_data bs_size bs_inj may retB)

/-- is the ring among them? -/
def bitB (g : Int) (k : Nat) : Bool := bits BinOp.and IntKind.u8 (g / 2 ^ k) 1 == 1
theorem and_one : ∀ x : Fin 256, bits BinOp.and IntKind.u8 (x.val : Int) 1 = 0 ∨ bits BinOp.and IntKind.u8 (x.val : Int) 1 = 1 := by decide +kernel
def bitN (g : Int) (k : Nat) : Nat := if bitB g k then 1 else 0
theorem bit_val {g : Int} (h0 : 0 ≤ g) (h1 : g ≤ 255) (k : Nat) : bits BinOp.and IntKind.u8 (g / 2 ^ k) 1 = (bitN g k : Nat) := by
  have hp : (0 : Int) < 2 ^ k := Int.pow_pos (by omega)
  have a0 : 0 ≤ g / 2 ^ k := Int.ediv_nonneg h0 (Int.le_of_lt hp)
  have a1 : g / 2 ^ k ≤ g := Int.ediv_le_self _ h0
  have := and_one ⟨(g / 2 ^ k).toNat, by omega⟩
  simp only [Int.toNat_of_nonneg a0] at this
  unfold bitN bitB
  rcases this with e | e <;> rw [e] <;> rfl

def Lk (g z : Int) (nm : Txt) (k : Nat) : List E := ((List.range k).filter (bitB g)).map (fun (r : Nat) => ⟨r, nm, z⟩)
section
variable {g z : Int} {nm : Txt} {k : Nat}
theorem Lk_yes (h : bitB g k = true) : Lk g z nm (k + 1) = Lk g z nm k ++ [⟨k, nm, z⟩] := by
  simp [Lk, List.range_succ, h]
theorem Lk_no (h : bitB g k = false) : Lk g z nm (k + 1) = Lk g z nm k := by
  simp [Lk, List.range_succ, h]
theorem mem_Lk {x : E} (h : x ∈ Lk g z nm k) : ∃ r, r < k ∧ bitB g r = true ∧ x = ⟨r, nm, z⟩ := by
  obtain ⟨r, hr, rfl⟩ := List.mem_map.1 h
  obtain ⟨h1, h2⟩ := List.mem_filter.1 hr
  exact ⟨r, List.mem_range.1 h1, h2, rfl⟩
theorem Lk_new {r : Nat} (h : k ≤ r) : get (Lk g z nm k) r nm = none := get_none.2 (fun x hx e => by
  obtain ⟨r', h1, _, rfl⟩ := mem_Lk hx
  have := e.1
  simp only [] at this
  omega)
theorem Lk_has (hG : Good (Lk g z nm k)) {r : Nat} (hr : r < k) (h : bitB g r = true) : get (Lk g z nm k) r nm = some z :=
  get_eq hG (List.mem_map.2 ⟨r, List.mem_filter.2 ⟨List.mem_range.2 hr, h⟩, rfl⟩)
theorem Lk_hasnt {r : Nat} (h : bitB g r = false) : get (Lk g z nm k) r nm = none := get_none.2 (fun x hx e => by
  obtain ⟨r', h1, h2, rfl⟩ := mem_Lk hx
  have := e.1
  simp only [] at this
  have e2 : r' = r := by omega
  rw [e2, h] at h2
  cases h2)
theorem Lk_forget : forget (Lk g z nm k) z = [] := List.filter_eq_nil_iff.2 (fun x hx => by
  obtain ⟨r', h1, h2, rfl⟩ := mem_Lk hx
  simp)
theorem Lk_of (r : Nat) : ∀ k, (namesOf (Lk g z nm k) r z).length = if r < k then bitN g r else 0
  | 0 => rfl
  | k + 1 => by
    cases h : bitB g k with
    | true =>
      rw [Lk_yes h, namesOf, List.filter_append, List.map_append, List.length_append]
      have ih := Lk_of r k
      rw [namesOf] at ih
      rw [ih]
      by_cases e : r = k
      · subst e
        simp [isOf, bitN, h]
      · have e1 : ¬ (k : Int) = r := by omega
        simp only [isOf, e1, decide_false, Bool.false_and, List.filter_cons, List.filter_nil, Bool.false_eq_true, if_false, List.map_nil, List.length_nil, Nat.add_zero]
        by_cases h2 : r < k
        · rw [if_pos h2, if_pos (by omega)]
        · rw [if_neg h2, if_neg (by omega)]
    | false =>
      rw [Lk_no h, Lk_of r k]
      by_cases e : r = k
      · subst e
        simp [bitN, h]
      · by_cases h2 : r < k
        · rw [if_pos h2, if_pos (by omega)]
        · rw [if_neg h2, if_neg (by omega)]
theorem Lk_of8 {r : Nat} (hr : r < 8) : (ofL (Lk g z nm 8) r z).length = bitN g r := by
  rw [ofL, sortT_len, Lk_of r 8, if_pos hr]
end

set_option maxHeartbeats 8000000 in
set_option maxRecDepth 8000 in
theorem rings_walk (nm : Txt) (g s : Int) (hg0 : 0 ≤ g) (hg1 : g ≤ 255) (hs0 : 0 ≤ s) (hs1 : s ≤ 255) (hl : nm.length ≤ maxLen) (X : World) :
    Calls Try.prog 4 #[.string (bs nm), .int .u8 s, .int .u8 g] X fun e w' => e = .returned (.bool true) ∧ Below X.heap.size X w' := by
  have M := fun w => N.nameMay_any (bs nm) w (by rw [bs_size]; exact hl)
  rw [bs_data] at M
  have hz : ((bs nm).size : Int) = nm.length := by rw [bs_size]
  by_cases h1 : nm.length ≤ 100
  case neg =>
    have e1 : decide (((bs nm).size : Int) > 100) = true := by rw [hz]; simp; omega
    go_enter Try.func4, Try.ntmps4
    go_wp2_with (first
      | (go_at_call 7; ((with_reducible refine (awake_any _).mono ?_); rintro e v1 ⟨rfl, b1⟩; have B1 := Lib.hid b1; clear b1))
      | (go_at_call 8; ((with_reducible refine (new_any _).mono ?_); rintro e w1 ⟨rfl, rfl⟩; have Y0 := Lib.hid (RY.new B1.out))))
    go_ret
    exact ⟨rfl, Y0.out.below⟩
  have e1 : decide (((bs nm).size : Int) > 100) = false := by rw [hz]; simp; omega
  cases hm : may 32 nm with
  | false =>
    rw [hm] at M
    clear hm hz h1 hl
    go_enter Try.func4, Try.ntmps4
    go_wp2_with (first
      | (go_at_call 7; ((with_reducible refine (awake_any _).mono ?_); rintro e v1 ⟨rfl, b1⟩; have B1 := Lib.hid b1; clear b1))
      | (go_at_call 8; ((with_reducible refine (new_any _).mono ?_); rintro e w1 ⟨rfl, rfl⟩; have Y0 := Lib.hid (RY.new B1.out)))
      | (go_at_call 9; (with_reducible refine (M _).mono ?_); rintro e w2 ⟨rfl, rfl⟩))
    go_ret
    exact ⟨rfl, Y0.out.below⟩
  | true =>
    rw [hm] at M
    have HM := Lib.hid hm
    have HL := Lib.hid h1
    clear hm hz h1 hl
    go_enter Try.func4, Try.ntmps4
    go_wp2_with (first
      | (go_at_call 7; ((with_reducible refine (awake_any _).mono ?_); rintro e v1 ⟨rfl, b1⟩; have B1 := Lib.hid b1; clear b1))
      | (go_at_call 8; ((with_reducible refine (new_any _).mono ?_); rintro e w1 ⟨rfl, rfl⟩; have Y0 := Lib.hid (RY.new B1.out)))
      | (go_at_call 9; (with_reducible refine (M _).mono ?_); rintro e w2 ⟨rfl, rfl⟩))
    have hz1 : 1 ≤ 1 + s % 63 ∧ 1 + s % 63 ≤ 63 := by omega
    generalize 1 + s % 63 = z at hz1 ⊢
    clear e1 M hs0 hs1 B1
    have hp : v1.heap.size = v1.heap.size := rfl
    generalize hb : v1.heap.size = b at Y0 ⊢
    clear hp hb
    have BV := Lib.hid (fun k => bit_val hg0 hg1 k)
    go_loopw [10, 9] (fun i m V => ∃ (k : Nat) (q : Nat) (F : Nat → Prop) (c : Nat), k ≤ 8 ∧ i = .int .i64 k ∧ m = .int .i64 q ∧ q ≤ k ∧ c ≤ 2 * k ∧ Hid ((Lk g z nm k).length = q) ∧ Hid (RY X V b F c (Lk g z nm k))) (fun i _ _ => 8 - (intOf i).toNat)
    case atStart => exact ⟨0, 0, _, 0, by omega, rfl, rfl, by omega, by omega, Lib.hid rfl, Lib.hid Y0.out⟩
    case round =>
      clear Y0
      obtain ⟨k, q, F, c, hk, rfl, rfl, hq, hc, HQ, HY⟩ := hrel
      by_cases hlt : k < 8
      · have bv := BV.out k
        cases hbit : bitB g k with
        | false =>
          have e0 : (bits BinOp.and IntKind.u8 (g / 2 ^ k) 1 == 1) = false := hbit
          have HQ2 : Hid ((Lk g z nm (k + 1)).length = q) := Lib.hid (by rw [Lk_no hbit]; exact HQ.out)
          have HY2 : Hid (RY X wr b F c (Lk g z nm (k + 1))) := Lib.hid (by rw [Lk_no hbit]; exact HY.out)
          clear hbit bv
          go_wp2
          go_roundw
          case rel => exact ⟨k + 1, q, F, c, by omega, by go_num, rfl, by omega, by omega, HQ2, HY2⟩
          case measure => simp [intOf]; omega
        | true =>
          have e0 : (bits BinOp.and IntKind.u8 (g / 2 ^ k) 1 == 1) = true := hbit
          have C1 := Lib.hid (y_bind HY.out (r := k) (s := z) (n := nm) (by omega) hz1 (short (by have := HL.out; omega)) HM.out (Or.inl (Lk_new (Nat.le_refl k))) (by unfold maxLen; omega) (L' := Lk g z nm (k + 1)) (by rw [Lk_yes hbit]; exact bound_new (Lk_new (Nat.le_refl k))))
          have HQ2 : Hid ((Lk g z nm (k + 1)).length = q + 1) := Lib.hid (by rw [Lk_yes hbit]; simpa using HQ.out)
          have HBT := Lib.hid hbit
          clear hbit bv
          go_wp2_with (go_at_call 10; first
            | ((with_reducible refine C1.out.mono ?_); rintro e w2 ⟨rfl, F2, y, _⟩; have Y2 := Lib.hid y; clear y; have G2 := Lib.hid (Lk_has Y2.out.at_.good (Nat.lt_succ_self k) HBT.out); have C2 := Lib.hid (y_bind Y2.out (r := k) (s := z) (n := nm) (by omega) hz1 (short (by have := HL.out; omega)) HM.out (Or.inr G2.out) (by unfold maxLen; omega) (bound_old G2.out)))
            | ((with_reducible refine C2.out.mono ?_); rintro e w3 ⟨rfl, F3, y, _⟩; have Y3 := Lib.hid y; clear y))
          go_roundw
          case rel => exact ⟨k + 1, q + 1, F3, c + 1 + 1, by omega, by go_num, by go_num, by omega, by omega, HQ2, Y3⟩
          case measure => simp [intOf]; omega
      · obtain rfl : k = 8 := by omega
        rw [show ((8 : Nat) : Int) = 8 from rfl]
        go_wp2
        go_loopw [11] (fun i V => ∃ k : Nat, k ≤ 8 ∧ i = .int .i64 k ∧ Hid (RY X V b F c (Lk g z nm 8))) (fun i _ => 8 - (intOf i).toNat)
        case atStart => exact ⟨0, by omega, rfl, HY⟩
        case round =>
          clear HY
          obtain ⟨k, hk, rfl, HY⟩ := hrel
          by_cases hlt : k < 8
          · have bv := BV.out k
            have hkk : ok k nm := ok_of (by omega) (by omega) (by have := HL.out; omega)
            have CO := Lib.hid (y_of HY.out k z (by omega) rfl (Lk_of8 hlt))
            cases hbit : bitB g k with
            | false =>
              have b0 : bits BinOp.and IntKind.u8 (g / 2 ^ k) 1 = 0 := by rw [bv]; simp [bitN, hbit]
              have n0 : bitN g k = 0 := by simp [bitN, hbit]
              rw [n0] at CO
              have CF := Lib.hid (find_no HY.out.at_ hkk (Lk_hasnt hbit))
              clear hbit bv n0
              go_wp2_with (first
                | (go_at_call 13; (with_reducible refine CF.out.mono ?_); rintro e w2 ⟨rfl, rfl⟩)
                | (go_at_call 14; (with_reducible refine CO.out.mono ?_); rintro e w3 ⟨a3, c3, rfl, _, y, _⟩; have Y3 := Lib.hid y; clear y))
              go_roundw
              case rel => exact ⟨k + 1, by omega, by go_num, Y3⟩
              case measure => simp [intOf]; omega
            | true =>
              have b0 : bits BinOp.and IntKind.u8 (g / 2 ^ k) 1 = 1 := by rw [bv]; simp [bitN, hbit]
              have n0 : bitN g k = 1 := by simp [bitN, hbit]
              rw [n0] at CO
              have CF := Lib.hid (find_yes HY.out.at_ hkk (Lk_has HY.out.at_.good hlt hbit))
              clear hbit bv n0
              go_wp2_with (first
                | (go_at_call 13; (with_reducible refine CF.out.mono ?_); rintro e w2 ⟨rfl, rfl⟩)
                | (go_at_call 14; (with_reducible refine CO.out.mono ?_); rintro e w3 ⟨a3, c3, rfl, _, y, _⟩; have Y3 := Lib.hid y; clear y))
              go_roundw
              case rel => exact ⟨k + 1, by omega, by go_num, Y3⟩
              case measure => simp [intOf]; omega
          · obtain rfl : k = 8 := by omega
            have CL := Lib.hid (len_any HY.out.at_ (k := q) (by rw [HQ.out]))
            have CG := Lib.hid (y_forget HY.out z (k := q) (by unfold maxLen; omega) (by rw [HQ.out, Lk_forget]; simp) Lk_forget)
            go_wp2_with (first
              | (go_at_call 15; first
                | ((with_reducible refine CL.out.mono ?_); rintro e w2 ⟨rfl, rfl⟩)
                | ((with_reducible refine CL2.out.mono ?_); rintro e w4 ⟨rfl, rfl⟩))
              | (go_at_call 12; first
                | ((with_reducible refine CG.out.mono ?_); rintro e w3 ⟨rfl, y, _⟩; have CL2 := Lib.hid (len_any y.at_ (k := 0) rfl); have CG2 := Lib.hid (y_forget y z (k := 0) (by unfold maxLen; omega) rfl rfl); clear y)
                | ((with_reducible refine CG2.out.mono ?_); rintro e w5 ⟨rfl, y, _⟩; have Y5 := Lib.hid y; clear y)))
            go_ret
            exact ⟨rfl, Y5.out.below⟩

end Go.Proofs.Ytglbemdeboaheaa.Rf
