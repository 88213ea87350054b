/-
  The document's own Find: what it answers at any list and any user.
-/
import Derived.Test.YtknfiepbibaklaaDoorAPlace
namespace Go.Proofs.YtknfiepbibaklaaDoor.A
open Go.ChangeShapes Go.WideShapes Go.ChangeAt Go.RowKit
open Go.Proofs.YtknfiepbibaklaaDoor.N

theorem FlAt.other {W : World} {b b' i : Nat} {f : Fl} (h : FlAt W b f) (hne : b ≠ b') (x : Value) : FlAt (W.setCell ⟨b', i, none⟩ x) b f := (Below.heap_setCell W ⟨b', i, none⟩ x b hne).trans h
theorem FlAt.put {W : World} {b : Nat} {f : Fl} (h : FlAt W b f) (g : Fl) : FlAt (((W.setCell ⟨b, 0, none⟩ (.bool g.1)).setCell ⟨b, 1, none⟩ (.bool g.2.1)).setCell ⟨b, 2, none⟩ (.bool g.2.2)) b g := by
  unfold FlAt at h ⊢
  simp [World.setCell, Array.getElem?_modify, h]

theorem look_step {l : List Tm} (hu : Up l) {k : Nat} (hk : k < l.length) (u : List UInt8) : look (l.take (k + 1)) u = if l[k].1 = u then some l[k].2 else look (l.take k) u := by
  have hu1 : Up (l.take (k + 1)) := List.Pairwise.sublist (List.take_sublist _ _) hu
  have e := List.take_succ_eq_append_getElem hk
  by_cases h : l[k].1 = u
  · rw [if_pos h, ← h]
    exact look_mem hu1 (e ▸ List.mem_append_right _ (List.mem_singleton.2 rfl))
  · rw [if_neg h]
    unfold look
    rw [e, List.find?_append]
    have : [l[k]].find? (fun t => decide (t.1 = u)) = none := by simp [h]
    rw [this]
    simp
theorem look_zero (l : List Tm) (u : List UInt8) : look (l.take 0) u = none := by simp [look]

/-- the two blocks of the call: the result, the flags so far -/
structure Two (w W : World) (f : Fl) : Prop where
  bel : Below w.heap.size w W
  res : FlAt W w.heap.size noFl
  cur : FlAt W (w.heap.size + 1) f

theorem Two.start (w : World) : Two w ((w.alloc (FO noFl)).alloc (FO noFl)) noFl :=
  ⟨bel2 (one_new _ _) (one_new _ _), (FlAt.new w noFl).below (one_new _ _), by simpa using FlAt.new (w.alloc (FO noFl)) noFl⟩
theorem Two.go {w W V : World} {f : Fl} (h : Two w W f) (hb : Below W.heap.size W V) : Two w V f := ⟨bel2 h.bel hb, h.res.below hb, h.cur.below hb⟩
theorem Two.put {w W : World} {f : Fl} (h : Two w W f) (g : Fl) : Two w (((W.setCell ⟨w.heap.size + 1, 0, none⟩ (.bool g.1)).setCell ⟨w.heap.size + 1, 1, none⟩ (.bool g.2.1)).setCell ⟨w.heap.size + 1, 2, none⟩ (.bool g.2.2)) g :=
  ⟨wrote h.bel (by omega) _ _ _, ((h.res.other (by omega) _).other (by omega) _).other (by omega) _, h.cur.put g⟩

set_option maxHeartbeats 2000000 in
theorem refFind_any (a : Option Addr) (c : Nat) (l : List Tm) (u : List UInt8) (w : World) (hr : TRow w a c l) (hl : ∀ t ∈ l, t.1.length ≤ maxLen) :
    Calls Tryd.prog 13 #[.slice a l.length c, .string (bs u)] w fun e w' => e = .returned (FV (findR l u)) ∧ Below w.heap.size w w' := by
  have HL := Lib.hid hl
  have HR := Lib.hid hr
  have HT := Lib.hid (Two.start w)
  clear hl hr
  cases hm : lmay l with
  | false =>
    rw [findR_bad hm]
    go_enter Tryd.func13, Tryd.ntmps13
    go_wp2_with (first
      | (go_at_call 35; refine (listMay_any _ _ _ _ (HR.out.below HT.out.bel) HL.out).mono ?_; rintro e w1 ⟨rfl, n, rfl⟩))
    exact bodyPost_ret (v := FV noFl) (by simp [results, Tryd.results13, go_sem, noFl]) rfl ⟨rfl, wrote (bel2 HT.out.bel (below_drewN _ n)) (Nat.le_refl _) _ _ _⟩
  | true =>
    have HM := Lib.hid hm
    have HU := Lib.hid (lmay_parts hm).2.2
    have hq : l.length ≤ 16 := (lmay_parts hm).1
    go_enter Tryd.func13, Tryd.ntmps13
    go_wp2_with (first
      | (go_at_call 35; refine (listMay_any _ _ _ _ (HR.out.below HT.out.bel) HL.out).mono ?_; rintro e w1 ⟨rfl, n, rfl⟩))
    go_loopw [6] (fun i W => ∃ k : Nat, k ≤ l.length ∧ i = .int .i64 k ∧ Hid (Two w W ((look (l.take k) [42]).getD noFl))) (fun i _ => l.length - (intOf i).toNat)
    case atStart => exact ⟨0, Nat.zero_le _, rfl, Lib.hid (by rw [look_zero]; exact HT.out.go (below_drewN _ _))⟩
    case round =>
      obtain ⟨k, hk, rfl, hW⟩ := hrel
      by_cases hlt : k < l.length
      · obtain ⟨bk, o, rfl, hbk, c0, c1, c2, c3⟩ := (HR.out.below hW.out.bel).at_ hlt
        obtain ⟨k0, k1, k2, k3, k4, k5, k6⟩ := hW.out.cur.facts
        have hs := look_step HU.out hlt [42]
        have ht := bs_toList l[k].1
        by_cases he : l[k].1 = [42]
        · rw [if_pos he] at hs
          have e1 : (l[k].1 == [42]) = true := by simp [he]
          have HS := Lib.hid hs
          clear hs he
          go_wp2
          go_roundw
          case rel => exact ⟨k + 1, by omega, by go_num, Lib.hid (by rw [HS.out]; exact hW.out.put l[k].2)⟩
          case measure => simp [intOf]; omega
        · rw [if_neg he] at hs
          have e1 : (l[k].1 == [42]) = false := by simp [he]
          have HS := Lib.hid hs
          clear hs he
          go_wp2
          go_roundw
          case rel => exact ⟨k + 1, by omega, by go_num, Lib.hid (by rw [HS.out]; exact hW.out)⟩
          case measure => simp [intOf]; omega
      · obtain rfl : k = l.length := by omega
        rw [List.take_length] at hW
        go_wp2
        go_loopw [7] (fun i W => ∃ k : Nat, k ≤ l.length ∧ i = .int .i64 k ∧ Hid (Two w W ((look (l.take k) u).getD ((look l [42]).getD noFl)))) (fun i _ => l.length - (intOf i).toNat)
        case atStart => exact ⟨0, Nat.zero_le _, rfl, Lib.hid (by rw [look_zero]; exact hW.out)⟩
        case round =>
          clear hW
          obtain ⟨k, hk, rfl, hV⟩ := hrel
          by_cases hlt : k < l.length
          · obtain ⟨bk, o, rfl, hbk, c0, c1, c2, c3⟩ := (HR.out.below hV.out.bel).at_ hlt
            obtain ⟨k0, k1, k2, k3, k4, k5, k6⟩ := hV.out.cur.facts
            have hs := look_step HU.out hlt u
            have e1 := bs_beq l[k].1 u
            by_cases he : l[k].1 = u
            · rw [if_pos he] at hs
              rw [decide_eq_true he] at e1
              have HS := Lib.hid hs
              clear hs he
              go_wp2
              go_roundw
              case rel => exact ⟨k + 1, by omega, by go_num, Lib.hid (by rw [HS.out]; exact hV.out.put l[k].2)⟩
              case measure => simp [intOf]; omega
            · rw [if_neg he] at hs
              rw [decide_eq_false he] at e1
              have HS := Lib.hid hs
              clear hs he
              go_wp2
              go_roundw
              case rel => exact ⟨k + 1, by omega, by go_num, Lib.hid (by rw [HS.out]; exact hV.out)⟩
              case measure => simp [intOf]; omega
          · obtain rfl : k = l.length := by omega
            rw [List.take_length] at hV
            have hF : (look l u).getD ((look l [42]).getD noFl) = findR l u := by simp [findR, HM.out]
            rw [hF] at hV
            have HF := Lib.hid hF
            clear hF
            obtain ⟨k0, k1, k2, k3, k4, k5, k6⟩ := hV.out.cur.facts
            obtain ⟨r0, r1, r2, r3, r4, r5, r6⟩ := hV.out.res.facts
            go_wp2
            exact bodyPost_ret (v := FV (findR l u)) (by simp [results, Tryd.results13, go_sem, r1, r2, r3]) rfl ⟨rfl, wrote hV.out.bel (Nat.le_refl _) _ _ _⟩

end Go.Proofs.YtknfiepbibaklaaDoor.A
