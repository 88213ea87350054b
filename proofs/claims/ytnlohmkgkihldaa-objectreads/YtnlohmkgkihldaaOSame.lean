/-
  What SameWords answers of any two slices; what SameObject answers; Small answers something.
-/
import Derived.Test.YtnlohmkgkihldaaOParts
import Derived.Test.YtnlohmkgkihldaaLAwake
namespace Go.Proofs.Ytnlohmkgkihldaa.W
open Go.ChangeShapes Go.WideShapes Go.ChangeAt Go.RowKit
open Go.Proofs.Ytnlohmkgkihldaa.N (bs bs_data bs_of bs_size may may_pos retB)

theorem same_empty (a b : Option Addr) (c d : Nat) (w : World) : Calls Try.prog 15 #[.slice a 0 c, .slice b 0 d] w fun e w' => e = .returned (.bool true) ∧ ∃ n, w' = w.drewN n := by
  go_enter Try.func15, Try.ntmps15
  go_wp2
  go_loopw [5] (fun i W => i = .int .i64 0 ∧ W = w) (fun _ _ => 0)
  case atStart => exact ⟨rfl, rfl⟩
  case round =>
    obtain ⟨rfl, rfl⟩ := hrel
    go_wp2
    go_ret
    exact ⟨rfl, 0, rfl⟩

theorem same_nums {w : World} {a b : Option Addr} {c d : Nat} {xs ys : List Int} (h1 : NumsIn .u64 w a xs) (h2 : NumsIn .u64 w b ys) (hx : xs.length ≤ 1024) {n m : Nat} (hn : xs.length = n) (hm : ys.length = m) :
    Calls Try.prog 15 #[.slice a n c, .slice b m d] w fun e w' => e = .returned (.bool (decide (xs = ys))) ∧ ∃ n, w' = w.drewN n := by
  subst hn hm
  by_cases hl : xs.length = ys.length
  case neg => exact same_diff xs ys a b c d w hl
  by_cases h0 : 0 < xs.length
  · obtain ⟨g1, o1, rfl, l1⟩ := h1 h0
    obtain ⟨g2, o2, rfl, l2⟩ := h2 (by omega)
    exact same_any xs ys w l1 l2 hx
  · obtain rfl : xs = [] := List.length_eq_zero_iff.1 (by omega)
    obtain rfl : ys = [] := List.length_eq_zero_iff.1 (by simp at hl; omega)
    exact same_empty a b c d w

/-- are two objects one? -/
def sameB (a b : Ob) : Bool := decide (a.text = b.text) && (decide (a.stat = b.stat) && (decide (a.defs = b.defs) && decide (a.links = b.links)))
theorem sameB_yes {a b : Ob} : sameB a b = true ↔ a = b := by
  cases a; cases b
  simp [sameB]
theorem sameB_no {a b : Ob} (h : a ≠ b) : sameB a b = false := by
  cases hb : sameB a b with
  | true => exact absurd (sameB_yes.1 hb) h
  | false => rfl
/-- what an object's bounds are here -/
structure Few (o : Ob) : Prop where
  t : o.text.length ≤ 1024
  s : o.stat.length ≤ 1024
  d : o.defs.length ≤ 1000000
  l : o.links.length ≤ 1000000

theorem drewN_below {w : World} {W : World} {n : Nat} (h : W = w.drewN n) : Below w.heap.size w W := h ▸ below_drewN w n
theorem take_more {α : Type} {xs ys : List α} {k : Nat} (h : xs.take k = ys.take k) (hx : k < xs.length) (hy : k < ys.length) (e : xs[k] = ys[k]) : xs.take (k + 1) = ys.take (k + 1) := by
  rw [List.take_succ_eq_append_getElem hx, List.take_succ_eq_append_getElem hy, h, e]

set_option maxRecDepth 8000 in
set_option maxHeartbeats 4000000 in
theorem sameOb_any {w : World} {qa qb : Pl} {a b : Ob} (ha : ObIn w qa a) (hb : ObIn w qb b) (fa : Few a) (fb : Few b) : Calls Try.prog 11 #[OV qa a, OV qb b] w fun e w' => e = .returned (.bool (sameB a b)) ∧ Below w.heap.size w w' := by
  have hbel := bel2 (one_new w (OO qa a)) (one_new _ (OO qb b))
  have hA := ha.below hbel
  have hB := hb.below hbel
  have h1 : Calls Try.prog 15 #[.slice qa.ta a.text.length qa.tc, .slice qb.ta b.text.length qb.tc] ((w.alloc (OO qa a)).alloc (OO qb b)) fun e w' => e = .returned (.bool (decide (a.text = b.text))) ∧ ∃ n, w' = ((w.alloc (OO qa a)).alloc (OO qb b)).drewN n := same_nums hA.t hB.t fa.t rfl rfl
  have h2 : ∀ n, Calls Try.prog 15 #[.slice qa.sa a.stat.length qa.sc, .slice qb.sa b.stat.length qb.sc] (((w.alloc (OO qa a)).alloc (OO qb b)).drewN n) fun e w' => e = .returned (.bool (decide (a.stat = b.stat))) ∧ ∃ n, w' = ((w.alloc (OO qa a)).alloc (OO qb b)).drewN n := fun n => (same_nums (hA.s.below (below_drewN _ n)) (hB.s.below (below_drewN _ n)) fa.s rfl rfl).mono fun e w' ⟨h, k, hk⟩ => ⟨h, n + k, by rw [hk, World.drewN_drewN]⟩
  have hbs : sameB a b = (decide (a.text = b.text) && (decide (a.stat = b.stat) && (decide (a.defs = b.defs) && decide (a.links = b.links)))) := rfl
  have H1 := Lib.hid h1
  have H2 := Lib.hid h2
  have HD := Lib.hid hA.d
  have HD2 := Lib.hid hB.d
  have HK := Lib.hid hA.l
  have HK2 := Lib.hid hB.l
  obtain ⟨-, -, fd, fl⟩ := fa
  obtain ⟨-, -, fd2, fl2⟩ := fb
  obtain ⟨ta, tc, sa, sc, da, dc, la, lc⟩ := qa
  obtain ⟨tb, tcb, sb, scb, db, dcb, lb, lcb⟩ := qb
  have HB := Lib.hid hbel
  have HC := Lib.hid (show ∀ V : World, Below ((w.alloc (OO ⟨ta, tc, sa, sc, da, dc, la, lc⟩ a)).alloc (OO ⟨tb, tcb, sb, scb, db, dcb, lb, lcb⟩ b)).heap.size ((w.alloc (OO ⟨ta, tc, sa, sc, da, dc, la, lc⟩ a)).alloc (OO ⟨tb, tcb, sb, scb, db, dcb, lb, lcb⟩ b)) V → V.cell? ⟨w.heap.size, 2, none⟩ = some (.slice da a.defs.length dc) ∧ V.cell? ⟨w.heap.size + 1, 2, none⟩ = some (.slice db b.defs.length dcb) ∧ V.cell? ⟨w.heap.size, 3, none⟩ = some (.slice la a.links.length lc) ∧ V.cell? ⟨w.heap.size + 1, 3, none⟩ = some (.slice lb b.links.length lcb) from fun V hV => by
    have e1 := (heap_alloc_old (w.alloc (OO ⟨ta, tc, sa, sc, da, dc, la, lc⟩ a)) (OO ⟨tb, tcb, sb, scb, db, dcb, lb, lcb⟩ b) (r := w.heap.size) (by simp)).trans (heap_alloc_new w _)
    have e2 := heap_alloc_new (w.alloc (OO ⟨ta, tc, sa, sc, da, dc, la, lc⟩ a)) (OO ⟨tb, tcb, sb, scb, db, dcb, lb, lcb⟩ b)
    have e3 : (w.alloc (OO ⟨ta, tc, sa, sc, da, dc, la, lc⟩ a)).heap.size = w.heap.size + 1 := by simp
    rw [e3] at e2
    have f1 := (hV.block w.heap.size (by simp; omega)).trans e1
    have f2 := (hV.block (w.heap.size + 1) (by simp)).trans e2
    refine ⟨?_, ?_, ?_, ?_⟩
    · rw [cell_of_row _ _ _ _ _ _ f1]; rfl
    · rw [cell_of_row _ _ _ _ _ _ f2]; rfl
    · rw [cell_of_row _ _ _ _ _ _ f1]; rfl
    · rw [cell_of_row _ _ _ _ _ _ f2]; rfl)
  rw [hbs]
  clear ha hb hA hB h1 h2 hbel hbs
  cases ht : decide (a.text = b.text) with
  | false =>
    rw [ht] at H1
    clear ht
    go_enter Try.func11, Try.ntmps11
    go_wp2_with (go_at_call 15; (refine H1.out.mono ?_); rintro e w1 ⟨rfl, n1, hn1⟩; have B1 := Lib.hid (drewN_below hn1); clear hn1)
    go_ret
    exact ⟨rfl, bel2 HB.out B1.out⟩
  | true =>
  rw [ht] at H1
  clear ht
  cases hs : decide (a.stat = b.stat) with
  | false =>
    rw [hs] at H2
    clear hs
    go_enter Try.func11, Try.ntmps11
    go_wp2_with (first
      | (go_at_call 15; (with_reducible refine H1.out.mono ?_); rintro e w1 ⟨rfl, n1, rfl⟩)
      | (go_at_call 15; (with_reducible refine (H2.out n1).mono ?_); rintro e w2 ⟨rfl, n2, hn2⟩; have B2 := Lib.hid (drewN_below hn2); clear hn2))
    go_ret
    exact ⟨rfl, bel2 HB.out B2.out⟩
  | true =>
  rw [hs] at H2
  have HT := Lib.hid hs
  clear hs
  by_cases hdl : a.defs.length = b.defs.length
  case neg =>
    have hne : decide (a.defs = b.defs) = false := decide_eq_false (fun e => hdl (by rw [e]))
    have HN := Lib.hid hne
    have t1 : ((a.defs.length : Int) != (b.defs.length : Int)) = true := bne_iff_ne.2 (by omega)
    clear hne
    go_enter Try.func11, Try.ntmps11
    go_wp2_with (first
      | (go_at_call 15; (with_reducible refine H1.out.mono ?_); rintro e w1 ⟨rfl, n1, rfl⟩)
      | (go_at_call 15; (with_reducible refine (H2.out n1).mono ?_); rintro e w2 ⟨rfl, n2, hn2⟩; have B2 := Lib.hid (drewN_below hn2); obtain ⟨c2, c3, c4, c5⟩ := HC.out w2 B2.out; clear hn2))
    go_ret
    rw [HN.out]
    exact ⟨rfl, bel2 HB.out B2.out⟩
  by_cases hkl : a.links.length = b.links.length
  case neg =>
    have hne : decide (a.links = b.links) = false := decide_eq_false (fun e => hkl (by rw [e]))
    have HN := Lib.hid hne
    have t0 : ((a.defs.length : Int) != (b.defs.length : Int)) = false := by rw [hdl]; exact bne_self_eq_false _
    have t1 : ((a.links.length : Int) != (b.links.length : Int)) = true := bne_iff_ne.2 (by omega)
    clear hne hdl
    go_enter Try.func11, Try.ntmps11
    go_wp2_with (first
      | (go_at_call 15; (with_reducible refine H1.out.mono ?_); rintro e w1 ⟨rfl, n1, rfl⟩)
      | (go_at_call 15; (with_reducible refine (H2.out n1).mono ?_); rintro e w2 ⟨rfl, n2, hn2⟩; have B2 := Lib.hid (drewN_below hn2); obtain ⟨c2, c3, c4, c5⟩ := HC.out w2 B2.out; clear hn2))
    go_ret
    rw [HN.out]
    exact ⟨by simp, bel2 HB.out B2.out⟩
  have t0 : ((a.defs.length : Int) != (b.defs.length : Int)) = false := by rw [hdl]; exact bne_self_eq_false _
  have t1 : ((a.links.length : Int) != (b.links.length : Int)) = false := by rw [hkl]; exact bne_self_eq_false _
  have HDL := Lib.hid hdl
  have HKL := Lib.hid hkl
  clear hdl hkl
  go_enter Try.func11, Try.ntmps11
  go_upto_region 3 with (first
      | (go_at_call 15; (with_reducible refine H1.out.mono ?_); rintro e w1 ⟨rfl, n1, rfl⟩)
      | (go_at_call 15; (with_reducible refine (H2.out n1).mono ?_); rintro e w2 ⟨rfl, n2, hn2⟩; have B2 := Lib.hid (drewN_below hn2); obtain ⟨c2, c3, c4, c5⟩ := HC.out w2 B2.out; clear hn2))
  have HDw := Lib.hid (HD.out.below B2.out)
  have HDw2 := Lib.hid (HD2.out.below B2.out)
  have HKw := Lib.hid (HK.out.below B2.out)
  have HKw2 := Lib.hid (HK2.out.below B2.out)
  have HBB := Lib.hid (bel2 HB.out B2.out)
  clear H1 H2 HD HD2 HK HK2 HB HC B2
  go_wp2
  go_loopw [5] (fun i W => ∃ k n : Nat, k ≤ a.defs.length ∧ i = .int .i64 k ∧ W = w2.drewN n ∧ Hid (a.defs.take k = b.defs.take k)) (fun i _ => a.defs.length - (intOf i).toNat)
  case atStart => exact ⟨0, 0, Nat.zero_le _, rfl, rfl, Lib.hid rfl⟩
  case round =>
    obtain ⟨k, n, hk, rfl, rfl, hT⟩ := hrel
    by_cases hlt : k < a.defs.length
    · have hlt2 : k < b.defs.length := by have := HDL.out; omega
      obtain ⟨g1, f1, rfl, -, x0, x1⟩ := HDw.out.at_ hlt
      obtain ⟨g2, f2, rfl, -, y0, y1⟩ := HDw2.out.at_ hlt2
      have i0 : (0 : Int) ≤ (k : Int) := by omega
      have i1 : (k : Int) < (a.defs.length : Int) := by omega
      have i2 : (k : Int) < (b.defs.length : Int) := by omega
      by_cases he : a.defs[k] = b.defs[k]
      · have HT := Lib.hid (take_more hT.out hlt hlt2 he)
        rw [← he] at y0 y1
        clear he
        have hstr := txt_same (x := a.defs[k].1) rfl
        generalize a.defs[k].1 = t at *
        generalize a.defs[k].2 = z at *
        go_wp2
        go_quiet (fail)
        go_wp2
        go_roundw
        case rel => exact ⟨k + 1, n + nq, by omega, by go_num, by first | rfl | rw [World.drewN_drewN], HT⟩
        case measure => simp [intOf]; omega
      · have hne : decide (a.defs = b.defs) = false := decide_eq_false (fun e => he (by simp only [e]))
        have HN := Lib.hid hne
        clear hne
        by_cases ht : a.defs[k].1 = b.defs[k].1
        · have hz : (a.defs[k].2 == b.defs[k].2) = false := beq_eq_false_iff_ne.2 (fun e => he (Prod.ext ht e))
          rw [← ht] at y0
          have hstr := txt_same (x := a.defs[k].1) rfl
          clear he ht
          generalize a.defs[k].1 = t at *
          generalize a.defs[k].2 = z at *
          generalize b.defs[k].2 = u at *
          go_wp2
          go_quiet (fail)
          go_wp2
          go_ret
          rw [HN.out]
          exact ⟨by simp, HBB.out.trans ((bel2 (below_drewN w2 n) (below_drewN _ _)).mono HBB.out.size)⟩
        · have hstr := txt_other ht
          clear he ht
          generalize a.defs[k].1 = t at *
          generalize a.defs[k].2 = z at *
          generalize b.defs[k].1 = t2 at *
          generalize b.defs[k].2 = u at *
          go_wp2
          go_quiet (fail)
          go_wp2
          go_ret
          rw [HN.out]
          exact ⟨by simp, HBB.out.trans ((bel2 (below_drewN w2 n) (below_drewN _ _)).mono HBB.out.size)⟩
    · obtain rfl : k = a.defs.length := by omega
      have hye : decide (a.defs = b.defs) = true := decide_eq_true (by
        have e1 := hT.out
        rw [List.take_of_length_le (Nat.le_refl _), List.take_of_length_le (by have := HDL.out; omega)] at e1
        exact e1)
      have HY := Lib.hid hye
      have HBn := Lib.hid (HBB.out.trans ((below_drewN w2 n).mono HBB.out.size))
      have HKn := Lib.hid (HKw.out.below (below_drewN w2 n))
      have HKn2 := Lib.hid (HKw2.out.below (below_drewN w2 n))
      have m4 : (w2.drewN n).cell? ⟨w.heap.size, 3, none⟩ = some (.slice la a.links.length lc) := c4
      have m5 : (w2.drewN n).cell? ⟨w.heap.size + 1, 3, none⟩ = some (.slice lb b.links.length lcb) := c5
      clear hye hT HBB HKw HKw2 c4 c5
      go_wp2
      clear c2 c3 HDw HDw2
      generalize w2.drewN n = w3 at *
      go_loopw [6] (fun i W => ∃ k n : Nat, k ≤ a.links.length ∧ i = .int .i64 k ∧ W = w3.drewN n ∧ Hid (a.links.take k = b.links.take k)) (fun i _ => a.links.length - (intOf i).toNat)
      case atStart => exact ⟨0, 0, Nat.zero_le _, rfl, rfl, Lib.hid rfl⟩
      case round =>
        obtain ⟨k, n, hk, rfl, rfl, hT⟩ := hrel
        by_cases hlt : k < a.links.length
        · have hlt2 : k < b.links.length := by have := HKL.out; omega
          obtain ⟨g1, f1, rfl, -, x0, x1, x2⟩ := HKn.out.at_ hlt
          obtain ⟨g2, f2, rfl, -, y0, y1, y2⟩ := HKn2.out.at_ hlt2
          have i0 : (0 : Int) ≤ (k : Int) := by omega
          have i1 : (k : Int) < (a.links.length : Int) := by omega
          have i2 : (k : Int) < (b.links.length : Int) := by omega
          by_cases he : a.links[k] = b.links[k]
          · have HT := Lib.hid (take_more hT.out hlt hlt2 he)
            rw [← he] at y0 y1 y2
            clear he
            have hstr := txt_same (x := a.links[k].1) rfl
            have hstr2 := txt_same (x := a.links[k].2.1) rfl
            generalize a.links[k].1 = t at *
            generalize a.links[k].2.1 = t' at *
            generalize a.links[k].2.2 = z at *
            go_wp2
            go_quiet (fail)
            go_wp2
            go_roundw
            case rel => exact ⟨k + 1, n + nq, by omega, by go_num, by first | rfl | rw [World.drewN_drewN], HT⟩
            case measure => simp [intOf]; omega
          · have hne : decide (a.links = b.links) = false := decide_eq_false (fun e => he (by simp only [e]))
            have HN := Lib.hid hne
            clear hne
            by_cases ht : a.links[k].1 = b.links[k].1
            · rw [← ht] at y0
              have hstr := txt_same (x := a.links[k].1) rfl
              by_cases ht2 : a.links[k].2.1 = b.links[k].2.1
              · have hz : (a.links[k].2.2 == b.links[k].2.2) = false := beq_eq_false_iff_ne.2 (fun e => he (Prod.ext ht (Prod.ext ht2 e)))
                rw [← ht2] at y1
                have hstr2 := txt_same (x := a.links[k].2.1) rfl
                clear he ht ht2
                generalize a.links[k].1 = t at *
                generalize a.links[k].2.1 = t' at *
                generalize a.links[k].2.2 = z at *
                generalize b.links[k].2.2 = u at *
                go_wp2
                go_quiet (fail)
                go_wp2
                go_ret
                rw [HN.out]
                exact ⟨by simp, HBn.out.trans ((bel2 (below_drewN w3 n) (below_drewN _ _)).mono HBn.out.size)⟩
              · have hstr2 := txt_other ht2
                clear he ht ht2
                generalize a.links[k].1 = t at *
                generalize a.links[k].2.1 = t' at *
                generalize a.links[k].2.2 = z at *
                generalize b.links[k].2.1 = u' at *
                generalize b.links[k].2.2 = u at *
                go_wp2
                go_quiet (fail)
                go_wp2
                go_ret
                rw [HN.out]
                exact ⟨by simp, HBn.out.trans ((bel2 (below_drewN w3 n) (below_drewN _ _)).mono HBn.out.size)⟩
            · have hstr := txt_other ht
              clear he ht
              generalize a.links[k].1 = t at *
              generalize a.links[k].2.1 = t' at *
              generalize a.links[k].2.2 = z at *
              generalize b.links[k].1 = v at *
              generalize b.links[k].2.1 = u' at *
              generalize b.links[k].2.2 = u at *
              go_wp2
              go_quiet (fail)
              go_wp2
              go_ret
              rw [HN.out]
              exact ⟨by simp, HBn.out.trans ((bel2 (below_drewN w3 n) (below_drewN _ _)).mono HBn.out.size)⟩
        · obtain rfl : k = a.links.length := by omega
          have hye2 : decide (a.links = b.links) = true := decide_eq_true (by
            have e1 := hT.out
            rw [List.take_of_length_le (Nat.le_refl _), List.take_of_length_le (by have := HKL.out; omega)] at e1
            exact e1)
          have HY2 := Lib.hid hye2
          clear hye2
          go_wp2
          go_ret
          rw [HY.out, HY2.out]
          exact ⟨rfl, HBn.out.trans ((below_drewN w3 _).mono HBn.out.size)⟩

end Go.Proofs.Ytnlohmkgkihldaa.W
