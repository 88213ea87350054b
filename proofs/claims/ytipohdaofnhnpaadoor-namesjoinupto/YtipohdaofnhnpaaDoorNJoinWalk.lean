/-
  The law NamesJoin answers true where all texts together are of some million signs at most.
-/
import Derived.Test.YtipohdaofnhnpaaDoorNSplitWalk
import Derived.Test.YtipohdaofnhnpaaDoorRows
import Derived.SliceStrings
namespace Go.Proofs.YtipohdaofnhnpaaDoor.N
open Go.ChangeShapes Go.WideShapes Go.ChangeAt Go.RowKit

theorem flat_len_step {qs : List (List UInt8)} {k : Nat} (hk : k < qs.length) : (flat (qs.take (k + 1))).length = (flat (qs.take k)).length + 1 + (qs[k]).length := by
  rw [flat_step hk]; simp only [List.length_append, List.length_cons, List.length_nil]
theorem len_flat (qs : List (List UInt8)) : qs.length ≤ (flat qs).length := by
  induction qs with
  | nil => simp
  | cons p r ih =>
    have : flat (p :: r) = 62 :: (p ++ flat r) := by simp [flat]
    rw [this, List.length_cons, List.length_cons, List.length_append]
    omega
theorem joinOf_pos {qs : List (List UInt8)} (h : qs ≠ []) : joinOf qs = flat qs := by rw [joinOf, if_neg h]; rfl
theorem long_of {qs : List (List UInt8)} (h : 16 < qs.length ∨ 168 < (flat qs).length) : 16 < qs.length ∨ 168 < (joinOf qs).length := by
  rcases h with h | h
  · exact Or.inl h
  · right
    rw [joinOf_pos (by rintro rfl; simp [flat] at h)]
    exact h
theorem short_of {qs : List (List UInt8)} (h : (flat qs).length ≤ 168) : (joinOf qs).length ≤ 168 := by
  by_cases h0 : qs = []
  · subst h0; decide
  · rw [joinOf_pos h0]; exact h

set_option maxHeartbeats 2000000 in
theorem namesJoin_walk (a : Option Addr) (c : Nat) (qs : List (List UInt8)) (w : World) (hr : Row w a c qs) (hl : (flat qs).length ≤ 1048576) (hg : Glob w) :
    Calls Tryd.prog 4 #[.slice a qs.length c] w fun e w' => e = .returned (.bool true) ∧ Below w.heap.size w w' := by
  have HG := Lib.hid hg
  have HR := Lib.hid hr
  have hq : qs.length ≤ 1048576 := Nat.le_trans (len_flat qs) hl
  have HL := Lib.hid hl
  clear hg hr hl
  go_enter Tryd.func4, Tryd.ntmps4
  go_wp2_with (go_at_call 8; refine (awake_any _ HG.out).mono ?_; rintro e w0 ⟨rfl, hb0⟩)
  have HR0 := Lib.hid (HR.out.below hb0)
  clear HR
  go_loop [3, 4] (fun t i => ∃ k m : Nat, k ≤ qs.length ∧ i = .int .i64 k ∧ t = .int .i64 m ∧ m ≤ 1048576 ∧ Hid (m = (flat (qs.take k)).length) ∧ Hid ((qs.take k).all (may 32) = true)) (fun _ i => qs.length - (intOf i).toNat)
  case atStart => exact ⟨0, 0, Nat.zero_le _, rfl, rfl, by omega, Lib.hid rfl, Lib.hid rfl⟩
  case round =>
    obtain ⟨k, m, hk, rfl, rfl, hm, HM, ha⟩ := hrel
    by_cases hlt : k < qs.length
    · obtain ⟨bk, o, rfl, hbk, hc⟩ := HR0.out.at_ hlt
      have hfl := flat_len_step hlt
      have hfm : (flat (qs.take (k + 1))).length ≤ 1048576 := Nat.le_trans (flat_le qs (k + 1)) HL.out
      have hzl : qs[k].length ≤ 1048576 := by omega
      have hms : m + 1 + (bs qs[k]).size ≤ 1048576 := by rw [bs_size, HM.out]; omega
      have HM1 : Hid (m + 1 + (bs qs[k]).size = (flat (qs.take (k + 1))).length) := Lib.hid (by rw [bs_size, HM.out]; omega)
      have hsz : (bs qs[k]).size ≤ maxLen := by rw [bs_size]; unfold maxLen; omega
      have HB := Lib.hid (bs_data qs[k])
      clear hfl hfm hzl
      cases hx : may 32 qs[k] with
      | false =>
        have e1 : may 32 (bs qs[k]).data.toList = false := by rw [HB.out]; exact hx
        go_wp2_with (go_at_call 13; refine (nameMay_any _ _ hsz).mono ?_; rintro e w' ⟨rfl, rfl⟩)
        go_ret
        exact ⟨rfl, hb0⟩
      | true =>
        have e1 : may 32 (bs qs[k]).data.toList = true := by rw [HB.out]; exact hx
        go_wp2_with (go_at_call 13; refine (nameMay_any _ _ hsz).mono ?_; rintro e w' ⟨rfl, rfl⟩)
        go_round
        case rel => exact ⟨k + 1, m + 1 + (bs qs[k]).size, by omega, by go_num, by go_num, hms, HM1, Lib.hid (all_step hlt ha.out hx)⟩
        case measure => simp [intOf]; omega
    · obtain rfl : k = qs.length := by omega
      have HA : Hid (∀ p ∈ qs, may 32 p = true) := Lib.hid (by have := ha.out; rw [List.take_length] at this; exact List.all_eq_true.1 this)
      have HF : Hid (m = (flat qs).length) := Lib.hid (by have := HM.out; rwa [List.take_length] at this)
      have hsJ : (bs (joinOf qs)).size ≤ maxLen := by
        rw [bs_size]; unfold maxLen
        have h1 := joinOf_flat_le qs
        have h2 := HL.out
        omega
      have HD := Lib.hid (bs_data (joinOf qs))
      clear HM ha
      by_cases hlong : 16 < qs.length ∨ 168 < m
      · have hn := partsOf_long HA.out (long_of (by rw [HF.out] at hlong; exact hlong))
        obtain ⟨hp, he⟩ := ps_none hn
        have HP : Hid (ps (bs (joinOf qs)).data.toList = []) := Lib.hid (by rw [HD.out]; exact hp)
        have HE : Hid (er (bs (joinOf qs)).data.toList = 3) := Lib.hid (by rw [HD.out]; exact he)
        clear hn hp he
        have hlong' : (decide ((16 : Int) < (qs.length : Int)) || decide ((168 : Int) < (m : Int))) = true := by simp; omega
        rcases hlong with h16 | h168
        all_goals
          go_wp2_with (first
            | (go_at_call 18; refine (join_any _ _ qs _ HR0.out (by omega) (by have := HL.out; omega)).mono ?_; rintro e w1 ⟨rfl, hb1⟩)
            | (go_at_call 9; refine (split_at _ _ hsJ (HG.out.below (below2 hb0 hb1)) HP.out rfl HE.out).mono ?_; rintro e w2 ⟨b, d, rfl, -, hb2⟩))
          all_goals
            go_ret
            exact ⟨rfl, below2 (below2 hb0 hb1) hb2⟩
      · have hn := partsOf_join HA.out (by omega) (short_of (by rw [HF.out] at hlong; omega))
        obtain ⟨hp, he⟩ := ps_some hn
        have HP : Hid (ps (bs (joinOf qs)).data.toList = qs) := Lib.hid (by rw [HD.out]; exact hp)
        have HE : Hid (er (bs (joinOf qs)).data.toList = 0) := Lib.hid (by rw [HD.out]; exact he)
        clear hn hp he
        have z1 : decide ((16 : Int) < (qs.length : Int)) = false := by simp; omega
        have z2 : decide ((168 : Int) < (m : Int)) = false := by simp; omega
        have z3 : ((qs.length : Int) == 0) = ((bs (joinOf qs)).toList == [62]) := by
          rw [Lib.toList_data, bs_data]
          by_cases h0 : qs = []
          · subst h0; rfl
          · have h1 : ¬ (joinOf qs = [62]) := fun e => h0 ((joinOf_one HA.out).1 e)
            have h2 : 0 < qs.length := List.length_pos_iff.2 h0
            rw [beq_eq_false_iff_ne.2 h1, beq_eq_false_iff_ne]
            omega
        go_wp2_with (first
          | (go_at_call 18; refine (join_any _ _ qs _ HR0.out (by omega) (by have := HL.out; omega)).mono ?_; rintro e w1 ⟨rfl, hb1⟩; have HR1 := Lib.hid (HR0.out.below hb1))
          | (go_at_call 9; refine (split_at _ _ hsJ (HG.out.below (below2 hb0 hb1)) HP.out rfl HE.out).mono ?_; rintro e w2 ⟨b, d, rfl, hr2, hb2⟩; have HR2 := Lib.hid hr2; have HR3 := Lib.hid (HR1.out.below hb2); clear hr2)
          | (go_at_call 11; refine (same_eq _ _ _ _ qs _ _ rfl HR3.out HR2.out (by omega)).mono ?_; rintro e w3 ⟨rfl, n3, rfl⟩))
        go_ret
        exact ⟨rfl, belowN (below2 (below2 hb0 hb1) hb2) _⟩

theorem bulk_strs {H : Type} (ss : List ByteArray) : Rows.uptoBulkAll (strs ss : List (DataW H)) = (flat (ss.map (·.data.toList))).length := by
  induction ss with
  | nil => rfl
  | cons s r ih =>
    have e : (strs (s :: r) : List (DataW H)) = .lit (.string s.data.toList) :: strs r := rfl
    have e2 : flat ((s :: r).map (·.data.toList)) = 62 :: (s.data.toList ++ flat (r.map (·.data.toList))) := by simp [flat]
    rw [e, e2, Rows.uptoBulkAll, Rows.uptoBulk, ih, List.length_cons, List.length_append]
    omega

/-- a slice of texts that came in, of bounded bulk: the texts that it holds -/
theorem row_in {H : Type} {X : World} {s : Option Addr} {n c : Nat} {d : DataW H} {p : List MemPlace} {spare : Nat → Bool}
    (ho : (Value.cells (.slice s n c)).toList = [.slice none 0 0] ∧ (d, p) = (.nil, []) ∨
      ∃ (a : Addr) (len cap : Nat) (ss : List ByteArray), (Value.cells (.slice s n c)).toList = [.slice (some a) len cap] ∧ 0 ≤ a.block ∧ len ≤ cap ∧ cap ≤ maxLen ∧ ss.length = (if spare a.block then cap else len) ∧
        (d, p) = (.slice (strs (ss.take len)) (strs (ss.drop len)), MemPlace.row a ss.length) ∧
        (∀ i, i < ss.length → X.cell? (a.add i) = some (.string (ss.getD i ByteArray.empty))) ∧ (∀ s ∈ ss, s.size ≤ maxLen))
    (hb : Rows.uptoBulkAll [d] ≤ 1048576) : ∃ qs, n = qs.length ∧ Row X s c qs ∧ (flat qs).length ≤ 1048576 := by
  rcases ho with ⟨h1, h2⟩ | ⟨a, len, cap, ss, h1, _, hlc, _, hss, hd, hcell, _⟩
  · simp [Value.cells] at h1
    obtain ⟨rfl, rfl, rfl⟩ := h1
    exact ⟨[], rfl, Row.nil _ _ _, by simp [flat]⟩
  · simp [Value.cells] at h1
    obtain ⟨rfl, rfl, rfl⟩ := h1
    have hlen : n ≤ ss.length := by rw [hss]; split <;> omega
    have ed : d = .slice (strs (ss.take n)) (strs (ss.drop n)) := (Prod.mk.inj hd).1
    subst ed
    refine ⟨(ss.take n).map (·.data.toList), by simp; omega, ⟨by simp; omega, fun h0 => ?_⟩, ?_⟩
    · have hn : 0 < n := by simp at h0; omega
      have h00 := hcell 0 (by omega)
      have hadd0 : a.add 0 = a := by simp [Addr.add]
      rw [hadd0] at h00
      have hs := World.cell?_spot h00
      have hblk := World.block_lt_of_cell? X _ h00
      obtain ⟨bk, o, sp⟩ := a
      simp only at hs
      subst hs
      refine ⟨bk, o, rfl, hblk, fun j q hq => ?_⟩
      rw [List.getElem?_map] at hq
      cases hj : (ss.take n)[j]? with
      | none => rw [hj] at hq; cases hq
      | some y =>
        rw [hj] at hq
        cases hq
        have hjl := (List.getElem?_eq_some_iff.1 hj).1
        rw [List.length_take] at hjl
        have hjs : j < ss.length := by omega
        have e := hcell j hjs
        have hadd : (⟨bk, o, none⟩ : Addr).add j = ⟨bk, o + j, none⟩ := by unfold Addr.add; split <;> simp_all
        rw [hadd] at e
        rw [e]
        have hy : ss[j]? = some y := by
          rw [List.getElem?_take] at hj
          rw [if_pos (by omega)] at hj
          exact hj
        rw [List.getD, hy, bs_of]
        rfl
    · have hb' : Rows.uptoBulk (.slice (strs (ss.take n)) (strs (ss.drop n)) : DataW H) + 0 ≤ 1048576 := hb
      rw [Rows.uptoBulk, bulk_strs] at hb'
      omega

end Go.Proofs.YtipohdaofnhnpaaDoor.N
