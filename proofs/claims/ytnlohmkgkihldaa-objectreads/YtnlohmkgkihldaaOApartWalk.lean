/-
  The law ObjectApart answers true.
-/
import Derived.Test.YtnlohmkgkihldaaOAwake
import Derived.Test.YtnlohmkgkihldaaOSmall
import Derived.Deep.RegionHeld3
namespace Go.Proofs.Ytnlohmkgkihldaa.W
open Go.ChangeShapes Go.WideShapes Go.ChangeAt Go.RowKit
open Go.Proofs.Ytnlohmkgkihldaa.N (bs bs_data bs_of bs_size may may_pos retB)

theorem may_few {o : Ob} (h : mayOb o = true) : Few o := by
  have h := (may_iff o).1 h
  have a := h.nt; have b := h.ns; have c := h.nd; have d := h.nl
  exact ⟨by omega, by omega, by omega, by omega⟩
/-- two objects in boxes that a law made -/
theorem boxes {w : World} {qa qb : Pl} {a b : Ob} {V : World} (h : Below ((w.alloc (OO qa a)).alloc (OO qb b)).heap.size ((w.alloc (OO qa a)).alloc (OO qb b)) V) :
    (V.cell? ⟨w.heap.size, 0, none⟩ = some (.slice qa.ta a.text.length qa.tc) ∧ V.cell? ⟨w.heap.size, 1, none⟩ = some (.slice qa.sa a.stat.length qa.sc) ∧ V.cell? ⟨w.heap.size, 2, none⟩ = some (.slice qa.da a.defs.length qa.dc) ∧ V.cell? ⟨w.heap.size, 3, none⟩ = some (.slice qa.la a.links.length qa.lc)) ∧
    (V.cell? ⟨w.heap.size + 1, 0, none⟩ = some (.slice qb.ta b.text.length qb.tc) ∧ V.cell? ⟨w.heap.size + 1, 1, none⟩ = some (.slice qb.sa b.stat.length qb.sc) ∧ V.cell? ⟨w.heap.size + 1, 2, none⟩ = some (.slice qb.da b.defs.length qb.dc) ∧ V.cell? ⟨w.heap.size + 1, 3, none⟩ = some (.slice qb.la b.links.length qb.lc)) := by
  have e1 := (heap_alloc_old (w.alloc (OO qa a)) (OO qb b) (r := w.heap.size) (by simp)).trans (heap_alloc_new w _)
  have e2 := heap_alloc_new (w.alloc (OO qa a)) (OO qb b)
  have e3 : (w.alloc (OO qa a)).heap.size = w.heap.size + 1 := by simp
  rw [e3] at e2
  have f1 := (h.block w.heap.size (by simp; omega)).trans e1
  have f2 := (h.block (w.heap.size + 1) (by simp)).trans e2
  obtain ⟨r0, r1, r2, r3, -⟩ := four_cells f1
  obtain ⟨s0, s1, s2, s3, -⟩ := four_cells f2
  exact ⟨⟨r0, r1, r2, r3⟩, s0, s1, s2, s3⟩

set_option maxRecDepth 8000 in
set_option maxHeartbeats 4000000 in
theorem apart_walk (qa : Pl) (a : Ob) (qb : Pl) (b : Ob) (w : World) (ha : ObIn w qa a) (fa : Fit a) (hb : ObIn w qb b) (fb : Fit b) :
    Calls Try.prog 6 #[OV qa a, OV qb b] w fun e w' => e = .returned (.bool true) ∧ Below w.heap.size w w' := by
  have h0 := bel2 (one_new w (OO qa a)) (one_new _ (OO qb b))
  have hsa := fun (V : World) (h : Below ((w.alloc (OO qa a)).alloc (OO qb b)).heap.size ((w.alloc (OO qa a)).alloc (OO qb b)) V) => small_any ((ha.below h0).below h) fa
  have hsb := fun (V : World) (h : Below ((w.alloc (OO qa a)).alloc (OO qb b)).heap.size ((w.alloc (OO qa a)).alloc (OO qb b)) V) => small_any ((hb.below h0).below h) fb
  have H0 := Lib.hid h0
  have HA := Lib.hid (fun (V : World) (h : Below ((w.alloc (OO qa a)).alloc (OO qb b)).heap.size ((w.alloc (OO qa a)).alloc (OO qb b)) V) => (ha.below h0).below h)
  have HBb := Lib.hid (fun (V : World) (h : Below ((w.alloc (OO qa a)).alloc (OO qb b)).heap.size ((w.alloc (OO qa a)).alloc (OO qb b)) V) => (hb.below h0).below h)
  have FA := Lib.hid fa
  have FB := Lib.hid fb
  clear h0 ha hb fa fb
  go_enter Try.func6, Try.ntmps6
  go_upto_region 5 with (first
    | (go_at_call 8; (refine (awake_any _).mono ?_); rintro e w1 ⟨rfl, b1⟩; have B1 := Lib.hid b1; obtain ⟨⟨x0, x1, x2, x3⟩, y0, y1, y2, y3⟩ := boxes b1; clear b1)
    | (go_at_call 17; (with_reducible refine (hsa _ B1.out).mono ?_); rintro e w2 ⟨(rfl | rfl), b2⟩ <;> (have B2 := Lib.hid (bel2 B1.out b2); obtain ⟨⟨u0, u1, u2, u3⟩, v0, v1, v2, v3⟩ := boxes B2.out; clear b2))
    | (go_at_call 17; (with_reducible refine (hsb _ B2.out).mono ?_); rintro e w3 ⟨(rfl | rfl), b3⟩ <;> (have B3 := Lib.hid (bel2 B2.out b3); clear b3)))
  rotate_left
  · go_ret
    exact ⟨rfl, bel2 H0.out B3.out⟩
  · go_ret
    exact ⟨rfl, bel2 H0.out B2.out⟩
  clear hsa hsb x0 x1 x2 x3 y0 y1 y2 y3 u0 u1 u2 u3 v0 v1 v2 v3
  obtain ⟨⟨x0, x1, x2, x3⟩, y0, y1, y2, y3⟩ := boxes B3.out
  cases hma : mayOb a with
  | false =>
    cases hmb : mayOb b with
    | false =>
      go_wp2_with (first
        | (go_at_call 14; have q := obWords_no qa a _ (HA.out _ B3.out) FA.out hma; (with_reducible refine q.mono ?_); clear q; unfold wNo; rintro e w4 ⟨rfl, b4⟩; have B4 := Lib.hid (bel2 B3.out b4); obtain ⟨⟨u0, u1, u2, u3⟩, v0, v1, v2, v3⟩ := boxes B4.out; clear b4)
        | (go_at_call 14; have q := obWords_no qb b _ (HBb.out _ B4.out) FB.out hmb; (with_reducible refine q.mono ?_); clear q; unfold wNo; rintro e w5 ⟨rfl, b5⟩; have B5 := Lib.hid (bel2 B4.out b5); clear b5))
      go_quiet (fail)
      go_wp2
      go_ret
      exact ⟨rfl, bel2 H0.out (bel2 B5.out (below_drewN _ _))⟩
    | true =>
      go_wp2_with (first
        | (go_at_call 14; have q := obWords_no qa a _ (HA.out _ B3.out) FA.out hma; (with_reducible refine q.mono ?_); clear q; unfold wNo; rintro e w4 ⟨rfl, b4⟩; have B4 := Lib.hid (bel2 B3.out b4); obtain ⟨⟨u0, u1, u2, u3⟩, v0, v1, v2, v3⟩ := boxes B4.out; clear b4)
        | (go_at_call 14; have q := obWords_yes qb b _ (HBb.out _ B4.out) FB.out hmb; (with_reducible refine q.mono ?_); clear q; rintro e w5 ⟨y, rfl, o5, b5⟩; obtain ⟨py, cy, rfl, ny, -⟩ := own_slice o5; have NY := Lib.hid ny; clear o5 ny; have B5 := Lib.hid (bel2 B4.out b5); clear b5))
      go_quiet (fail)
      go_wp2
      go_ret
      exact ⟨rfl, bel2 H0.out (bel2 B5.out (below_drewN _ _))⟩
  | true =>
    cases hmb : mayOb b with
    | false =>
      go_wp2_with (first
        | (go_at_call 14; have q := obWords_yes qa a _ (HA.out _ B3.out) FA.out hma; (with_reducible refine q.mono ?_); clear q; rintro e w4 ⟨x, rfl, o4, b4⟩; obtain ⟨px, cx, rfl, nx, -⟩ := own_slice o4; have NX := Lib.hid nx; clear o4 nx; have B4 := Lib.hid (bel2 B3.out b4); obtain ⟨⟨u0, u1, u2, u3⟩, v0, v1, v2, v3⟩ := boxes B4.out; clear b4)
        | (go_at_call 14; have q := obWords_no qb b _ (HBb.out _ B4.out) FB.out hmb; (with_reducible refine q.mono ?_); clear q; unfold wNo; rintro e w5 ⟨rfl, b5⟩; have B5 := Lib.hid (bel2 B4.out b5); clear b5))
      go_quiet (fail)
      go_wp2
      go_ret
      exact ⟨rfl, bel2 H0.out (bel2 B5.out (below_drewN _ _))⟩
    | true =>
      go_wp2_with (first
        | (go_at_call 14; have q := obWords_yes qa a _ (HA.out _ B3.out) FA.out hma; (with_reducible refine q.mono ?_); clear q; rintro e w4 ⟨x, rfl, o4, b4⟩; obtain ⟨px, cx, rfl, nx, -⟩ := own_slice o4; have NX := Lib.hid nx; clear o4 nx; have B4 := Lib.hid (bel2 B3.out b4); obtain ⟨⟨u0, u1, u2, u3⟩, v0, v1, v2, v3⟩ := boxes B4.out; clear b4)
        | (go_at_call 14; have q := obWords_yes qb b _ (HBb.out _ B4.out) FB.out hmb; (with_reducible refine q.mono ?_); clear q; rintro e w5 ⟨y, rfl, o5, b5⟩; obtain ⟨py, cy, rfl, ny, -⟩ := own_slice o5; have NY := Lib.hid ny; have NX5 := Lib.hid (NX.out.below b5); clear o5 ny; have B5 := Lib.hid (bel2 B4.out b5); clear b5))
      have hsz : (wOb a).length ≤ 1024 := ((may_iff a).1 hma).sz
      have hq : ∃ r, decide (wOb a = wOb b) = r ∧ sameB a b = r := by
        by_cases hab : a = b
        · exact ⟨true, by rw [hab]; simp, sameB_yes.2 hab⟩
        · exact ⟨false, decide_eq_false (fun e => hab (wOb_inj ((may_iff a).1 hma) ((may_iff b).1 hmb) e)), sameB_no hab⟩
      obtain ⟨r, hr1, hr2⟩ := hq
      have D1 := Lib.hid (below_drewN w5 1)
      have q1 := same_nums (w := w5.drew) (c := cx) (d := cy) (NX5.out.below D1.out) (NY.out.below D1.out) hsz rfl rfl
      have q2 := fun (V : World) (h : Below w5.heap.size w5 V) => sameOb_any (HA.out _ (bel2 B5.out h)) (HBb.out _ (bel2 B5.out h)) (may_few hma) (may_few hmb)
      rw [hr1] at q1
      rw [hr2] at q2
      have Q1 := Lib.hid q1
      have Q2 := Lib.hid q2
      have K1 := Lib.hid (boxes (bel2 B5.out D1.out))
      clear q1 q2 hr1 hr2 hsz hma hmb x0 x1 x2 x3 y0 y1 y2 y3 u0 u1 u2 u3 v0 v1 v2 v3
      go_region_held3 (fun V => (V.cell? ⟨w.heap.size, 0, none⟩ = some (.slice qa.ta a.text.length qa.tc) ∧ V.cell? ⟨w.heap.size, 1, none⟩ = some (.slice qa.sa a.stat.length qa.sc) ∧ V.cell? ⟨w.heap.size, 2, none⟩ = some (.slice qa.da a.defs.length qa.dc) ∧ V.cell? ⟨w.heap.size, 3, none⟩ = some (.slice qa.la a.links.length qa.lc)) ∧
        (V.cell? ⟨w.heap.size + 1, 0, none⟩ = some (.slice qb.ta b.text.length qb.tc) ∧ V.cell? ⟨w.heap.size + 1, 1, none⟩ = some (.slice qb.sa b.stat.length qb.sc) ∧ V.cell? ⟨w.heap.size + 1, 2, none⟩ = some (.slice qb.da b.defs.length qb.dc) ∧ V.cell? ⟨w.heap.size + 1, 3, none⟩ = some (.slice qb.la b.links.length qb.lc)))
        (first | exact K1.out | exact K2.out | exact K3.out)
        ((first
          | (go_at_call 15; (refine Q1.out.mono ?_); rintro e w6 ⟨rfl, n6, e6⟩; have D6 := Lib.hid (bel2 D1.out (drewN_below e6)); have K2 := Lib.hid (boxes (bel2 B5.out D6.out)); clear e6)
          | (go_at_call 11; (refine (Q2.out _ D6.out).mono ?_); rintro e w7 ⟨rfl, b7⟩; have D7 := Lib.hid (bel2 D6.out b7); have K3 := Lib.hid (boxes (bel2 B5.out D7.out)); clear b7)))
      go_wp2
      go_ret
      exact ⟨by cases r <;> rfl, bel2 H0.out (bel2 B5.out D7.out)⟩

end Go.Proofs.Ytnlohmkgkihldaa.W
