/-
  Terms in memory: a slice that holds these terms, four cells a term.
-/
import Derived.Test.YtpcdcmoapenbdaaDoorNCalls
import Derived.Test.YtpcdcmoapenbdaaDoorAMath
import Derived.WalkLawsBesides
import Derived.Laws.StructEq
namespace Go.Proofs.YtpcdcmoapenbdaaDoor.A
open Go.ChangeShapes Go.WideShapes Go.ChangeAt Go.RowKit
open Go.Proofs.YtpcdcmoapenbdaaDoor.N

/-- a term, flags as values -/
@[reducible] def TV (t : Tm) : Value := .agg #[.string (bs t.1), .bool t.2.1, .bool t.2.2.1, .bool t.2.2.2]
@[reducible] def FV (f : Fl) : Value := .agg #[.bool f.1, .bool f.2.1, .bool f.2.2]
/-- a term lies there -/
def TAt (w : World) (b o : Nat) (t : Tm) : Prop := w.cell? ⟨b, o, none⟩ = some (.string (bs t.1)) ∧ w.cell? ⟨b, o + 1, none⟩ = some (.bool t.2.1) ∧ w.cell? ⟨b, o + 2, none⟩ = some (.bool t.2.2.1) ∧ w.cell? ⟨b, o + 3, none⟩ = some (.bool t.2.2.2)

/-- a slice that holds these terms -/
def TRow (w : World) (a : Option Addr) (c : Nat) (l : List Tm) : Prop :=
  l.length ≤ c ∧ (a = none → c = 0) ∧ (0 < l.length → ∃ bk o, a = some ⟨bk, o, none⟩ ∧ bk < w.heap.size ∧ ∀ j (h : j < l.length), TAt w bk (o + j * 4) l[j])

theorem TAt.below {w w' : World} {b o : Nat} {t : Tm} (h : TAt w b o t) (hl : b < w.heap.size) (hb : Below w.heap.size w w') : TAt w' b o t :=
  ⟨(hb.cell (p := ⟨b, o, none⟩) hl).trans h.1, (hb.cell (p := ⟨b, o + 1, none⟩) hl).trans h.2.1, (hb.cell (p := ⟨b, o + 2, none⟩) hl).trans h.2.2.1, (hb.cell (p := ⟨b, o + 3, none⟩) hl).trans h.2.2.2⟩

theorem TRow.below {w w' : World} {a : Option Addr} {c : Nat} {l : List Tm} (h : TRow w a c l) (hb : Below w.heap.size w w') : TRow w' a c l :=
  ⟨h.1, h.2.1, fun h0 => by
    obtain ⟨bk, o, e, hl, hc⟩ := h.2.2 h0
    exact ⟨bk, o, e, Nat.lt_of_lt_of_le hl hb.size, fun j hj => (hc j hj).below hl hb⟩⟩

theorem TRow.nil (w : World) : TRow w none 0 [] := ⟨Nat.zero_le _, fun _ => rfl, fun h => absurd h (by simp)⟩
theorem TRow.drewN {w : World} {a : Option Addr} {c : Nat} {l : List Tm} (h : TRow w a c l) (n : Nat) : TRow (w.drewN n) a c l := h
theorem TRow.alloc {w : World} {a : Option Addr} {c : Nat} {l : List Tm} (h : TRow w a c l) (o : Obj) : TRow (w.alloc o) a c l := h.below ((Below.refl _ _).alloc (Nat.le_refl _) o)

theorem TRow.at_ {w : World} {a : Option Addr} {c : Nat} {l : List Tm} (h : TRow w a c l) {k : Nat} (hk : k < l.length) :
    ∃ bk o, a = some ⟨bk, o, none⟩ ∧ bk < w.heap.size ∧ TAt w bk (o + k * 4) l[k] := by
  obtain ⟨bk, o, e, hl, hc⟩ := h.2.2 (by omega)
  exact ⟨bk, o, e, hl, hc k hk⟩

theorem below_drewN (w : World) (n : Nat) : Below w.heap.size w (w.drewN n) := ⟨rfl, rfl, rfl, Nat.le_refl _, fun _ _ => rfl⟩
theorem bel2 {w v u : World} (h : Below w.heap.size w v) (h' : Below v.heap.size v u) : Below w.heap.size w u := h.trans (h'.mono h.size)
theorem one_new (w : World) (o : Obj) : Below w.heap.size w (w.alloc o) := (Below.refl _ _).alloc (Nat.le_refl _) o

/-- two texts compared as the model does it -/
theorem txt_same {x y : List UInt8} (h : x = y) : ((bs x).toList == (bs y).toList) = true := by rw [h]; exact beq_self_eq_true _
theorem txt_other {x y : List UInt8} (h : ¬ x = y) : ((bs x).toList == (bs y).toList) = false := by
  rw [Lib.toList_data, Lib.toList_data, bs_data, bs_data]
  exact beq_eq_false_iff_ne.2 h
theorem txt_less (x y : List UInt8) : Op.bytesLess (bs x).toList (bs y).toList = lt x y := by
  rw [Lib.toList_data, Lib.toList_data, bs_data, bs_data]; rfl
theorem bs_toList (x : List UInt8) : (bs x).toList = x := by rw [Lib.toList_data, bs_data]

theorem star_may : may 16 [42] = true := by decide

set_option maxHeartbeats 400000 in
theorem isUser_any (u : List UInt8) (w : World) (hu : u.length ≤ maxLen) :
    Calls Tryd.prog 70 #[.string (bs u)] w fun e w' => e = .returned (.bool (may 16 u)) ∧ ∃ n, w' = w.drewN n := by
  have hs : (bs u).size ≤ maxLen := by rw [bs_size]; exact hu
  have ht := bs_toList u
  by_cases h : u = [42]
  · subst h
    go_enter Tryd.func70, Tryd.ntmps70
    go_wp2
    go_ret
    exact ⟨retB star_may.symm, 0, rfl⟩
  · have h1 : (u == [42]) = false := by simpa using h
    go_enter Tryd.func70, Tryd.ntmps70
    go_wp2_with (go_at_call 82; refine (user_any _ _ hs).mono ?_; rintro e w' ⟨rfl, n, rfl⟩)
    go_ret
    exact ⟨retB (by rw [bs_data]), _, rfl⟩

set_option maxHeartbeats 1000000 in
theorem may_any (a : Option Addr) (c : Nat) (l : List Tm) (w : World) (hr : TRow w a c l) (hl : ∀ t ∈ l, t.1.length ≤ maxLen) :
    Calls Tryd.prog 53 #[.slice a l.length c] w fun e w' => e = .returned (.bool (lmay l)) ∧ Below w.heap.size w w' := by
  have HR := Lib.hid hr
  have HL := Lib.hid hl
  clear hr hl
  by_cases hlen : 16 < l.length
  · go_enter Tryd.func53, Tryd.ntmps53
    go_wp2
    go_ret
    exact ⟨retB (lmay_long hlen).symm, Below.refl _ _⟩
  go_enter Tryd.func53, Tryd.ntmps53
  go_wp2
  go_loopw [10] (fun i W => ∃ k : Nat, k ≤ l.length ∧ i = .int .i64 k ∧ Hid (Below w.heap.size w W) ∧ Hid (upTo l k)) (fun i _ => l.length - (intOf i).toNat)
  case atStart => exact ⟨0, Nat.zero_le _, rfl, Lib.hid (Below.refl _ _), Lib.hid (upTo_zero l)⟩
  case round =>
    obtain ⟨k, hk, rfl, hB, hU⟩ := hrel
    by_cases hlt : k < l.length
    · obtain ⟨bk, o, rfl, hbk, c0, c1, c2, c3⟩ := (HR.out.below hB.out).at_ hlt
      have hsz : l[k].1.length ≤ maxLen := HL.out _ (List.getElem_mem _)
      cases hm : may 16 l[k].1 with
      | false =>
        go_wp2_with (go_at_call 70; refine (isUser_any _ _ hsz).mono ?_; rintro e w' ⟨rfl, n', rfl⟩)
        go_ret
        exact ⟨retB (lmay_user hlt hm).symm, bel2 (bel2 hB.out (one_new _ _)) (below_drewN _ _)⟩
      | true =>
        have HM := Lib.hid hm
        by_cases hk0 : k = 0
        · have H0 := Lib.hid hk0
          have e0 : decide (0 < k) = false := by simp [hk0]
          clear hk0
          go_wp2_with (go_at_call 70; refine (isUser_any _ _ hsz).mono ?_; rintro e w' ⟨rfl, n', rfl⟩)
          go_quiet (fail)
          go_wp2
          go_roundw
          case rel => exact ⟨k + 1, by omega, by go_num, Lib.hid (bel2 (bel2 hB.out (one_new _ _)) (below_drewN _ _)), Lib.hid (upTo_step hlt hU.out HM.out (fun j hj => by have := H0.out; omega))⟩
          case measure => simp [intOf]; omega
        · have hk1 : k - 1 < l.length := by omega
          obtain ⟨bk', o', h', hbk', d0, d1, d2, d3⟩ := (HR.out.below hB.out).at_ hk1
          cases h'
          have e0 : decide (0 < k) = true := by simp; omega
          cases hlt1 : lt l[k - 1].1 l[k].1 with
          | true => 
            have e1 := (txt_less l[k - 1].1 l[k].1).trans hlt1
            go_wp2_with (go_at_call 70; refine (isUser_any _ _ hsz).mono ?_; rintro e w' ⟨rfl, n', rfl⟩)
            go_quiet (fail)
            go_wp2
            go_roundw
            case rel => exact ⟨k + 1, by omega, by go_num, Lib.hid (bel2 (bel2 hB.out (one_new _ _)) (below_drewN _ _)), Lib.hid (upTo_step hlt hU.out HM.out (fun j hj => by subst hj; exact hlt1))⟩
            case measure => simp [intOf]; omega
          | false =>
            have e1 := (txt_less l[k - 1].1 l[k].1).trans hlt1
            go_wp2_with (go_at_call 70; refine (isUser_any _ _ hsz).mono ?_; rintro e w' ⟨rfl, n', rfl⟩)
            go_quiet (fail)
            go_wp2
            go_ret
            exact ⟨retB (lmay_order hlt (show k - 1 < k by omega) hlt1).symm, bel2 (bel2 (bel2 hB.out (one_new _ _)) (below_drewN _ n')) (below_drewN _ nq)⟩
    · obtain rfl : k = l.length := by omega
      go_wp2
      go_ret
      exact ⟨retB (lmay_all (by omega) hU.out).symm, hB.out⟩

theorem leq_no {x y : List UInt8} (h : lt y x = true) : (Op.bytesLess (bs x).toList (bs y).toList || (bs x).toList == (bs y).toList) = false := by
  rw [txt_less, lt_asymm h, txt_other (lt_ne h).symm]; rfl
theorem leq_yes {x y : List UInt8} (h : lt y x = false) : (Op.bytesLess (bs x).toList (bs y).toList || (bs x).toList == (bs y).toList) = true := by
  rw [txt_less]
  cases k : lt x y with
  | true => rfl
  | false => rw [txt_same (lt_tri _ _ k h)]; rfl

/-- the document's own test of a user, by its two ways -/
theorem user_ways (u : List UInt8) : (((bs u).toList == [42]) = true ∧ may 16 u = true) ∨ (((bs u).toList == [42]) = false ∧ may 16 (bs u).data.toList = may 16 u) := by
  by_cases h : u = [42]
  · subst h; exact Or.inl ⟨by rw [bs_toList]; rfl, by decide⟩
  · exact Or.inr ⟨by rw [bs_toList]; simpa using h, by rw [bs_data]⟩

set_option maxHeartbeats 2000000 in
theorem listMay_any (a : Option Addr) (c : Nat) (l : List Tm) (w : World) (hr : TRow w a c l) (hl : ∀ t ∈ l, t.1.length ≤ maxLen) :
    Calls Tryd.prog 66 #[.slice a l.length c] w fun e w' => e = .returned (.bool (lmay l)) ∧ ∃ n, w' = w.drewN n := by
  have HR := Lib.hid hr
  have HL := Lib.hid hl
  clear hr hl
  by_cases hlen : 16 < l.length
  · go_enter Tryd.func66, Tryd.ntmps66
    go_wp2
    go_ret
    exact ⟨retB (lmay_long hlen).symm, 0, rfl⟩
  go_enter Tryd.func66, Tryd.ntmps66
  go_wp2
  go_loopw [3] (fun i W => ∃ k n : Nat, k ≤ l.length ∧ i = .int .i64 k ∧ Hid (W = w.drewN n) ∧ Hid (upTo l k)) (fun i _ => l.length - (intOf i).toNat)
  case atStart => exact ⟨0, 0, Nat.zero_le _, rfl, Lib.hid rfl, Lib.hid (upTo_zero l)⟩
  case round =>
    obtain ⟨k, n, hk, rfl, hW, hU⟩ := hrel
    have HR' := Lib.hid (show TRow wr a c l by rw [hW.out]; exact HR.out)
    clear HR
    by_cases hlt : k < l.length
    · obtain ⟨bk, o, rfl, hbk, c0, c1, c2, c3⟩ := HR'.out.at_ hlt
      have hsz : (bs l[k].1).size ≤ maxLen := by rw [bs_size]; exact HL.out _ (List.getElem_mem _)
      rcases user_ways l[k].1 with ⟨s1, s2⟩ | ⟨s1, s2⟩
      · have HM := Lib.hid s2
        clear s2
        by_cases hk0 : k = 0
        · have H0 := Lib.hid hk0
          have e0 : decide (0 < k) = false := by simp [hk0]
          clear hk0
          go_wp2
          go_quiet (fail)
          go_wp2
          go_roundw
          case rel => exact ⟨k + 1, n + nq, by omega, by go_num, Lib.hid (by rw [hW.out, World.drewN_drewN]), Lib.hid (upTo_step hlt hU.out HM.out (fun j hj => by have := H0.out; omega))⟩
          case measure => simp [intOf]; omega
        · have hk1 : k - 1 < l.length := by omega
          obtain ⟨bk', o', h', hbk', d0, d1, d2, d3⟩ := HR'.out.at_ hk1
          cases h'
          have e0 : decide (0 < k) = true := by simp; omega
          cases hlt1 : lt l[k - 1].1 l[k].1 with
          | true =>
            have e1 := leq_no hlt1
            go_wp2
            go_quiet (fail)
            go_wp2
            go_roundw
            case rel => exact ⟨k + 1, n + nq, by omega, by go_num, Lib.hid (by rw [hW.out, World.drewN_drewN]), Lib.hid (upTo_step hlt hU.out HM.out (fun j hj => by subst hj; exact hlt1))⟩
            case measure => simp [intOf]; omega
          | false =>
            have e1 := leq_yes hlt1
            go_wp2
            go_quiet (fail)
            go_wp2
            go_ret
            exact ⟨retB (lmay_order hlt (show k - 1 < k by omega) hlt1).symm, n + nq, by rw [hW.out, World.drewN_drewN]⟩
      · cases hm : may 16 l[k].1 with
        | false =>
          have hcall : ∀ W, Calls Tryd.prog 81 #[.string (bs l[k].1)] W fun e w' => e = .returned (.bool false) ∧ w' = W := fun W => by
            have := userMay_any _ W hsz
            rw [s2, hm] at this
            exact this
          clear s2
          go_wp2
          go_quiet ((go_at_call 81; exact Calls.quiet_of_same (hcall _)))
          go_wp2
          go_ret
          exact ⟨retB (lmay_user hlt hm).symm, n + nq, by rw [hW.out, World.drewN_drewN]⟩
        | true =>
          have hcall : ∀ W, Calls Tryd.prog 81 #[.string (bs l[k].1)] W fun e w' => e = .returned (.bool true) ∧ w' = W := fun W => by
            have := userMay_any _ W hsz
            rw [s2, hm] at this
            exact this
          clear s2
          have HM := Lib.hid hm
          clear hm
          by_cases hk0 : k = 0
          · have H0 := Lib.hid hk0
            have e0 : decide (0 < k) = false := by simp [hk0]
            clear hk0
            go_wp2
            go_quiet ((go_at_call 81; exact Calls.quiet_of_same (hcall _)))
            go_wp2
            go_roundw
            case rel => exact ⟨k + 1, n + nq, by omega, by go_num, Lib.hid (by rw [hW.out, World.drewN_drewN]), Lib.hid (upTo_step hlt hU.out HM.out (fun j hj => by have := H0.out; omega))⟩
            case measure => simp [intOf]; omega
          · have hk1 : k - 1 < l.length := by omega
            obtain ⟨bk', o', h', hbk', d0, d1, d2, d3⟩ := HR'.out.at_ hk1
            cases h'
            have e0 : decide (0 < k) = true := by simp; omega
            cases hlt1 : lt l[k - 1].1 l[k].1 with
            | true =>
              have e1 := leq_no hlt1
              go_wp2
              go_quiet ((go_at_call 81; exact Calls.quiet_of_same (hcall _)))
              go_wp2
              go_roundw
              case rel => exact ⟨k + 1, n + nq, by omega, by go_num, Lib.hid (by rw [hW.out, World.drewN_drewN]), Lib.hid (upTo_step hlt hU.out HM.out (fun j hj => by subst hj; exact hlt1))⟩
              case measure => simp [intOf]; omega
            | false =>
              have e1 := leq_yes hlt1
              go_wp2
              go_quiet ((go_at_call 81; exact Calls.quiet_of_same (hcall _)))
              go_wp2
              go_ret
              exact ⟨retB (lmay_order hlt (show k - 1 < k by omega) hlt1).symm, n + nq, by rw [hW.out, World.drewN_drewN]⟩
    · obtain rfl : k = l.length := by omega
      go_wp2
      go_ret
      exact ⟨retB (lmay_all (by omega) hU.out).symm, n, hW.out⟩

end Go.Proofs.YtpcdcmoapenbdaaDoor.A
