/-
  Where the term of a user stands in a list that rises: the search by halves.
-/
import Derived.Test.YtknfiepbibaklaaDoorACalls
namespace Go.Proofs.YtknfiepbibaklaaDoor.A
open Go.ChangeShapes Go.WideShapes Go.ChangeAt Go.RowKit
open Go.Proofs.YtknfiepbibaklaaDoor.N

set_option maxHeartbeats 1000000 in
theorem cmpString_any (a b : List UInt8) (w : World) :
    Calls Tryd.prog 73 #[.string (bs a), .string (bs b)] w fun e w' => e = .returned (.int .i64 (Lib.compareBytes a b)) ∧ w' = w := by
  go_enter Tryd.func73, Tryd.ntmps73
  go_wp2
  rw [run_callFunc_extern Tryd.func78 (by kernel_rfl) (by kernel_rfl) (by kernel_rfl) (e := Extern.BytealgCompare.compare) (by kernel_rfl), Lib.run_compareString]
  simp only [Result.andThen]
  rw [Oper.upon_value]
  go_wp2
  go_ret
  exact ⟨by rw [bs_data, bs_data]; rfl, rfl⟩

theorem compare_any (a b : List UInt8) (w : World) :
    Calls Tryd.prog 69 #[.string (bs a), .string (bs b)] w fun e w' => e = .returned (.int .i64 (Lib.compareBytes a b)) ∧ w' = w := by
  go_enter Tryd.func69, Tryd.ntmps69
  go_wp2_with (go_at_call 73; refine (cmpString_any _ _ _).mono ?_; rintro e w' ⟨rfl, rfl⟩)
  go_ret
  exact ⟨rfl, rfl⟩

theorem closure_any (t : Tm) (u : List UInt8) (w : World) :
    Calls Tryd.prog 68 #[TV t, .string (bs u)] w fun e w' => e = .returned (.int .i64 (Lib.compareBytes t.1 u)) ∧ Below w.heap.size w w' := by
  go_enter Tryd.func68, Tryd.ntmps68
  go_wp2_with (go_at_call 69; refine (compare_any _ _ _).mono ?_; rintro e w' ⟨rfl, rfl⟩)
  go_ret
  exact ⟨rfl, one_new _ _⟩

theorem cmp_lt {t : Tm} {u : List UInt8} (h : lt t.1 u = true) : Lib.compareBytes t.1 u < 0 := by have := cmp_neg t.1 u; rw [h] at this; simpa using this
theorem cmp_ge {t : Tm} {u : List UInt8} (h : lt t.1 u = false) : ¬ Lib.compareBytes t.1 u < 0 := by have := cmp_neg t.1 u; rw [h] at this; simpa using this

/-- what is known of the two halves -/
def Halves (l : List Tm) (u : List UInt8) (lo hi : Nat) : Prop := (∀ j (_ : j < l.length), j < lo → lt l[j].1 u = true) ∧ (∀ j (_ : j < l.length), hi ≤ j → lt l[j].1 u = false)

set_option maxHeartbeats 2000000 in
theorem search_any (a : Option Addr) (c : Nat) (l : List Tm) (u : List UInt8) (w : World) (hr : TRow w a c l) (hu : Up l) (hq : l.length ≤ 1000000) :
    Calls Tryd.prog 67 #[.slice a l.length c, .string (bs u), .func (.func 68) #[] #[]] w fun e w' => e = .returned (.tuple #[.int .i64 (ahead l u), .bool (there l u)]) ∧ Below w.heap.size w w' := by
  have HR := Lib.hid hr
  have HU := Lib.hid hu
  clear hr hu
  generalize hcnt : ahead l u = cnt
  have CN := Lib.hid hcnt
  clear hcnt
  generalize hfin : there l u = fin
  have FIN := Lib.hid hfin
  clear hfin
  go_enter Tryd.func67, Tryd.ntmps67
  go_wp2
  go_loopg [9, 10] l.length (fun kx s9 s10 wr => ∃ lo hi : Nat, s9 = .int .i64 lo ∧ s10 = .int .i64 hi ∧ lo ≤ hi ∧ hi ≤ l.length ∧ hi - lo ≤ kx ∧ Hid (Below w.heap.size w wr) ∧ Hid (Halves l u lo hi))
  case atStart => exact ⟨0, l.length, rfl, rfl, Nat.zero_le _, Nat.le_refl _, by omega, Lib.hid (Below.refl _ _), Lib.hid ⟨fun j _ h => by omega, fun j h h' => by omega⟩⟩
  case round =>
    obtain ⟨lo, hi, rfl, rfl, hlh, hin, hg, hB, hH⟩ := hrel
    by_cases hlt : lo < hi
    · have hm : (lo + hi) / 2 < l.length := by omega
      obtain ⟨bk, o, rfl, hbk, c0, c1, c2, c3⟩ := (HR.out.below hB.out).at_ hm
      cases hyx : lt l[(lo + hi) / 2].1 u with
      | true =>
        have hneg := cmp_lt hyx
        go_wp2_with (go_at_call 68; refine (closure_any _ _ _).mono ?_; rintro e w' ⟨rfl, hb⟩)
        go_roundg (hi - ((lo + hi) / 2 + 1))
        case measure => omega
        case rel =>
          exact ⟨(lo + hi) / 2 + 1, hi, by rw [show ((lo : Int) + (hi : Int)) / 2 + 1 = (((lo + hi) / 2 + 1 : Nat) : Int) by omega], rfl, by omega, hin, Nat.le_refl _, Lib.hid (bel2 hB.out hb), Lib.hid ⟨fun j hj h => up_mono HU.out (by omega) hm hyx, hH.out.2⟩⟩
      | false =>
        have hneg := cmp_ge hyx
        go_wp2_with (go_at_call 68; refine (closure_any _ _ _).mono ?_; rintro e w' ⟨rfl, hb⟩)
        go_roundg ((lo + hi) / 2 - lo)
        case measure => omega
        case rel =>
          exact ⟨lo, (lo + hi) / 2, rfl, by rw [show ((lo : Int) + (hi : Int)) / 2 = (((lo + hi) / 2 : Nat) : Int) by omega], by omega, by omega, Nat.le_refl _, Lib.hid (bel2 hB.out hb), Lib.hid ⟨hH.out.1, fun j hj h => by
            cases hj2 : lt l[j].1 u with
            | false => rfl
            | true => rw [up_mono HU.out h hj hj2] at hyx; cases hyx⟩⟩
    · obtain rfl : hi = lo := by omega
      have ecnt : cnt = hi := by rw [← CN.out]; exact ahead_is hin hH.out.1 hH.out.2
      subst ecnt
      by_cases hn : cnt < l.length
      · obtain ⟨bk, o, rfl, hbk, c0, c1, c2, c3⟩ := (HR.out.below hB.out).at_ hn
        have hz := cmp_zero l[cnt].1 u
        have hth : decide (l[cnt].1 = u) = fin := by
          rw [← FIN.out]
          have e := CN.out
          have := (there_at (u := u) HU.out).1 (by omega)
          simpa only [e] using this
        rw [hth] at hz
        have HZ := Lib.hid hz
        clear hz hth
        go_wp2_with (go_at_call 68; refine (closure_any _ _ _).mono ?_; rintro e w' ⟨rfl, hb⟩)
        have e : (Lib.compareBytes l[cnt].1 u == 0) = fin := by rw [← HZ.out]; rfl
        go_ret2
        exact ⟨by rw [← e]; rfl, bel2 hB.out hb⟩
      · have hth : false = fin := by
          rw [← FIN.out]
          have e := CN.out
          exact ((there_at (u := u) HU.out).2 (by omega)).symm
        subst hth
        go_wp2
        go_ret2
        exact ⟨rfl, hB.out⟩

theorem place_any (a : Option Addr) (c : Nat) (l : List Tm) (u : List UInt8) (w : World) (hr : TRow w a c l) (hu : Up l) (hq : l.length ≤ 1000000) :
    Calls Tryd.prog 62 #[.slice a l.length c, .string (bs u)] w fun e w' => e = .returned (.tuple #[.int .i64 (ahead l u), .bool (there l u)]) ∧ Below w.heap.size w w' := by
  go_enter Tryd.func62, Tryd.ntmps62
  go_wp2_with (go_at_call 67; refine (search_any _ _ _ _ _ hr hu hq).mono ?_; rintro e w' ⟨rfl, hb⟩)
  go_ret2
  exact ⟨rfl, hb⟩

theorem findR_bad {l : List Tm} {u : List UInt8} (h : lmay l = false) : findR l u = noFl := by simp [findR, h]
theorem findR_none {l : List Tm} {u : List UInt8} (h : lmay l = true) (h1 : there l u = false) (h2 : there l [42] = false) : findR l u = noFl := by simp [findR, h, look_none h1, look_none h2]
theorem findR_star {l : List Tm} {u : List UInt8} (h : lmay l = true) (h1 : there l u = false) (h2 : there l [42] = true) : findR l u = (l[ahead l [42]]'(drop_yes (lmay_parts h).2.2 h2).1).2 := by
  simp [findR, h, look_none h1, look_at (lmay_parts h).2.2 h2]
theorem findR_user {l : List Tm} {u : List UInt8} (h : lmay l = true) (h1 : there l u = true) : findR l u = (l[ahead l u]'(drop_yes (lmay_parts h).2.2 h1).1).2 := by
  simp [findR, h, look_at (lmay_parts h).2.2 h1]

/-- three flags in a block of their own -/
@[reducible] def FO (f : Fl) : Obj := .cells #[.bool f.1, .bool f.2.1, .bool f.2.2] 39
def FlAt (W : World) (b : Nat) (f : Fl) : Prop := W.heap[b]? = some (FO f)
theorem FlAt.facts {W : World} {b : Nat} {f : Fl} (h : FlAt W b f) : b < W.heap.size ∧ W.cell? ⟨b, 0, none⟩ = some (.bool f.1) ∧ W.cell? ⟨b, 1, none⟩ = some (.bool f.2.1) ∧ W.cell? ⟨b, 2, none⟩ = some (.bool f.2.2) ∧ W.frozen? ⟨b, 0, none⟩ = false ∧ W.frozen? ⟨b, 1, none⟩ = false ∧ W.frozen? ⟨b, 2, none⟩ = false :=
  ⟨lt_of_block h, by rw [cell_of_row _ _ _ _ _ _ h]; rfl, by rw [cell_of_row _ _ _ _ _ _ h]; rfl, by rw [cell_of_row _ _ _ _ _ _ h]; rfl, frozen_of_row _ _ _ _ _ h, frozen_of_row _ _ _ _ _ h, frozen_of_row _ _ _ _ _ h⟩
theorem FlAt.below {W V : World} {b : Nat} {f : Fl} (h : FlAt W b f) (hb : Below W.heap.size W V) : FlAt V b f := (hb.block b (lt_of_block h)).trans h
theorem FlAt.new (W : World) (f : Fl) : FlAt (W.alloc (FO f)) W.heap.size f := heap_alloc_new _ _
theorem FlAt.drewN {W : World} {b : Nat} {f : Fl} (h : FlAt W b f) (n : Nat) : FlAt (W.drewN n) b f := h

/-- a result's block written -/
theorem wrote {w v : World} {b : Nat} (h : Below w.heap.size w v) (hb : w.heap.size ≤ b) (x y z : Value) : Below w.heap.size w (((v.setCell ⟨b, 0, none⟩ x).setCell ⟨b, 1, none⟩ y).setCell ⟨b, 2, none⟩ z) :=
  ((h.setCell (p := ⟨b, 0, none⟩) hb x).setCell (p := ⟨b, 1, none⟩) hb y).setCell (p := ⟨b, 2, none⟩) hb z

set_option maxHeartbeats 2000000 in
theorem find_bad (a : Option Addr) (c : Nat) (l : List Tm) (u : List UInt8) (w : World) (hr : TRow w a c l) (hl : ∀ t ∈ l, t.1.length ≤ maxLen) (hm : lmay l = false) :
    Calls Tryd.prog 52 #[.slice a l.length c, .string (bs u)] w fun e w' => e = .returned (FV noFl) ∧ Below w.heap.size w w' := by
  have HL := Lib.hid hl
  have HR := Lib.hid (hr.alloc (FO noFl))
  clear hl hr
  have HF := Lib.hid (FlAt.new w noFl)
  go_enter Tryd.func52, Tryd.ntmps52
  go_wp2_with (first
    | (go_at_call 42; refine (may_any _ _ _ _ HR.out HL.out).mono ?_; rintro e w1 ⟨rfl, h1⟩; obtain ⟨k0, k1, k2, k3, k4, k5, k6⟩ := (HF.out.below h1).facts))
  exact bodyPost_ret (v := FV noFl) (by simp [results, Tryd.results52, go_sem, noFl, k1, k2, k3]) rfl ⟨rfl, wrote (bel2 (one_new _ _) h1) (Nat.le_refl _) _ _ _⟩

set_option maxHeartbeats 2000000 in
theorem find_none (a : Option Addr) (c : Nat) (l : List Tm) (u : List UInt8) (w : World) (hr : TRow w a c l) (hl : ∀ t ∈ l, t.1.length ≤ maxLen) (hm : lmay l = true) (h1 : there l u = false) (h2 : there l [42] = false) :
    Calls Tryd.prog 52 #[.slice a l.length c, .string (bs u)] w fun e w' => e = .returned (FV noFl) ∧ Below w.heap.size w w' := by
  have HL := Lib.hid hl
  have HR := Lib.hid (hr.alloc (FO noFl))
  have HU := Lib.hid (lmay_parts hm).2.2
  have hq : l.length ≤ 1000000 := Nat.le_trans (lmay_parts hm).1 (by omega)
  clear hl hr
  have HF := Lib.hid (FlAt.new w noFl)
  go_enter Tryd.func52, Tryd.ntmps52
  go_wp2_with (first
    | (go_at_call 42; refine (may_any _ _ _ _ HR.out HL.out).mono ?_; rintro e w1 ⟨rfl, h1⟩; have HR1 := Lib.hid (HR.out.below h1); have HF1 := Lib.hid (HF.out.below h1))
    | (go_at_call 62; ((with_reducible refine (place_any a c l u w1 HR1.out HU.out hq).mono ?_); rintro e w2 ⟨rfl, h2⟩; have HR2 := Lib.hid (HR1.out.below h2); have HF2 := Lib.hid (HF1.out.below h2)))
    | (go_at_call 62; refine (place_any a c l [42] w2 HR2.out HU.out hq).mono ?_; rintro e w3 ⟨rfl, h3⟩; obtain ⟨k0, k1, k2, k3, k4, k5, k6⟩ := (HF2.out.below h3).facts))
  exact bodyPost_ret (v := FV noFl) (by simp [results, Tryd.results52, go_sem, noFl, k1, k2, k3]) rfl ⟨rfl, wrote (bel2 (bel2 (bel2 (one_new _ _) h1) h2) h3) (Nat.le_refl _) _ _ _⟩

theorem TRow.here {w : World} {bk o c : Nat} {l : List Tm} (h : TRow w (some ⟨bk, o, none⟩) c l) {k : Nat} (hk : k < l.length) : bk < w.heap.size ∧ TAt w bk (o + k * 4) l[k] := by
  obtain ⟨bk', o', e, h1, h2⟩ := h.at_ hk
  cases e
  exact ⟨h1, h2⟩

set_option maxHeartbeats 2000000 in
theorem find_star (a : Option Addr) (c : Nat) (l : List Tm) (u : List UInt8) (w : World) (hr : TRow w a c l) (hl : ∀ t ∈ l, t.1.length ≤ maxLen) (hm : lmay l = true) (h1 : there l u = false) (h2 : there l [42] = true) (hlt : ahead l [42] < l.length) :
    Calls Tryd.prog 52 #[.slice a l.length c, .string (bs u)] w fun e w' => e = .returned (FV l[ahead l [42]].2) ∧ Below w.heap.size w w' := by
  obtain ⟨bk, o, rfl, hbk, _⟩ := hr.at_ hlt
  have HL := Lib.hid hl
  have HR := Lib.hid (hr.alloc (FO noFl))
  have HU := Lib.hid (lmay_parts hm).2.2
  have hq : l.length ≤ 1000000 := Nat.le_trans (lmay_parts hm).1 (by omega)
  clear hl hr
  have HF := Lib.hid (FlAt.new w noFl)
  go_enter Tryd.func52, Tryd.ntmps52
  go_wp2_with (first
    | (go_at_call 42; refine (may_any _ _ _ _ HR.out HL.out).mono ?_; rintro e w1 ⟨rfl, h1⟩; have HR1 := Lib.hid (HR.out.below h1); have HF1 := Lib.hid (HF.out.below h1))
    | (go_at_call 62; ((with_reducible refine (place_any _ c l u w1 HR1.out HU.out hq).mono ?_); rintro e w2 ⟨rfl, h2⟩; have HR2 := Lib.hid (HR1.out.below h2); have HF2 := Lib.hid (HF1.out.below h2)))
    | (go_at_call 62; refine (place_any _ c l [42] w2 HR2.out HU.out hq).mono ?_; rintro e w3 ⟨rfl, h3⟩; obtain ⟨k0, k1, k2, k3, k4, k5, k6⟩ := (HF2.out.below h3).facts; obtain ⟨hbk3, c0, c1, c2, c3⟩ := (HR2.out.below h3).here hlt))
  exact bodyPost_ret (v := FV l[ahead l [42]].2) (by simp [results, Tryd.results52, go_sem, k1, k2, k3]) rfl ⟨rfl, wrote (bel2 (bel2 (bel2 (one_new _ _) h1) h2) h3) (Nat.le_refl _) _ _ _⟩

set_option maxHeartbeats 2000000 in
theorem find_user (a : Option Addr) (c : Nat) (l : List Tm) (u : List UInt8) (w : World) (hr : TRow w a c l) (hl : ∀ t ∈ l, t.1.length ≤ maxLen) (hm : lmay l = true) (h1 : there l u = true) (hlt : ahead l u < l.length) :
    Calls Tryd.prog 52 #[.slice a l.length c, .string (bs u)] w fun e w' => e = .returned (FV l[ahead l u].2) ∧ Below w.heap.size w w' := by
  obtain ⟨bk, o, rfl, hbk, _⟩ := hr.at_ hlt
  have HL := Lib.hid hl
  have HR := Lib.hid (hr.alloc (FO noFl))
  have HU := Lib.hid (lmay_parts hm).2.2
  have hq : l.length ≤ 1000000 := Nat.le_trans (lmay_parts hm).1 (by omega)
  clear hl hr
  have HF := Lib.hid (FlAt.new w noFl)
  go_enter Tryd.func52, Tryd.ntmps52
  go_wp2_with (first
    | (go_at_call 42; refine (may_any _ _ _ _ HR.out HL.out).mono ?_; rintro e w1 ⟨rfl, h1⟩; have HR1 := Lib.hid (HR.out.below h1); have HF1 := Lib.hid (HF.out.below h1))
    | (go_at_call 62; ((with_reducible refine (place_any _ c l u w1 HR1.out HU.out hq).mono ?_); rintro e w2 ⟨rfl, h2⟩; obtain ⟨k0, k1, k2, k3, k4, k5, k6⟩ := (HF1.out.below h2).facts; obtain ⟨hbk3, c0, c1, c2, c3⟩ := (HR1.out.below h2).here hlt)))
  exact bodyPost_ret (v := FV l[ahead l u].2) (by simp [results, Tryd.results52, go_sem, k1, k2, k3]) rfl ⟨rfl, wrote (bel2 (bel2 (one_new _ _) h1) h2) (Nat.le_refl _) _ _ _⟩

theorem find_any (a : Option Addr) (c : Nat) (l : List Tm) (u : List UInt8) (w : World) (hr : TRow w a c l) (hl : ∀ t ∈ l, t.1.length ≤ maxLen) :
    Calls Tryd.prog 52 #[.slice a l.length c, .string (bs u)] w fun e w' => e = .returned (FV (findR l u)) ∧ Below w.heap.size w w' := by
  cases hm : lmay l with
  | false => rw [findR_bad hm]; exact find_bad a c l u w hr hl hm
  | true =>
    cases h1 : there l u with
    | true => rw [findR_user hm h1]; exact find_user a c l u w hr hl hm h1 _
    | false =>
      cases h2 : there l [42] with
      | true => rw [findR_star hm h1 h2]; exact find_star a c l u w hr hl hm h1 h2 _
      | false => rw [findR_none hm h1 h2]; exact find_none a c l u w hr hl hm h1 h2

end Go.Proofs.YtknfiepbibaklaaDoor.A
