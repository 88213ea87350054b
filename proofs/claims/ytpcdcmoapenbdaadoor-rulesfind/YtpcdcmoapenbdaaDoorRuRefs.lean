/-
  The document's own RulesMay and Search: they answer as mayR and findR.
  The document's own Search: it answers as the plain function findR.
-/
import Derived.Test.YtpcdcmoapenbdaaDoorRus
import Derived.Test.YtpcdcmoapenbdaaDoorMWalkAll
namespace Go.Proofs.YtpcdcmoapenbdaaDoor.T
open Go.ChangeShapes Go.WideShapes Go.ChangeAt Go.RowKit
open Go.Proofs.YtpcdcmoapenbdaaDoor.N (bs bs_data bs_size bs_inj bs_of Glob retB)
open Go.Proofs.YtpcdcmoapenbdaaDoor.A (Tm TRow)

theorem empty_is (l : Txt) : (bs l).toList.isEmpty = decide (l = []) := by
  rw [Lib.toList_data, bs_data]
  cases l <;> simp

theorem rule_ways {r : Ru} {B C : Bool} (hB : ruleB r = B) {E : Int} (hE : N.er r.path = E) (hC : C = !B) :
    (r.kind == 1) = true ∧ (bs r.path).toList.isEmpty = B
    ∨ (r.kind == 1) = false ∧ (r.kind == 2) = true ∧ (bs r.path).toList.isEmpty = B
    ∨ (r.kind == 1) = false ∧ (r.kind == 2) = false ∧ (r.kind == 3) = true ∧ (E != 0) = C
    ∨ (r.kind == 1) = false ∧ (r.kind == 2) = false ∧ (r.kind == 3) = false ∧ B = false := by
  rw [empty_is]
  subst hC hE hB
  unfold ruleB
  by_cases h1 : r.kind = 1
  · left; simp [h1]
  by_cases h2 : r.kind = 2
  · right; left; simp [h2]
  by_cases h3 : r.kind = 3
  · right; right; left
    simp only [h3]
    refine ⟨by decide, by decide, by decide, ?_⟩
    by_cases h : N.er r.path = 0 <;> simp [h]
  · right; right; right; simp [h1, h2, h3]

section
variable {w : World}

theorem refsplit_er {V : World} {l : Txt} (hl : l.length ≤ maxLen) {E : Int} (he : N.er l = E) : Calls Tryd.prog 32 #[.string (bs l)] V fun e w' => ∃ v, e = .returned (.tuple #[v, .int .i64 E]) ∧ Below V.heap.size V w' := by
  have := N.refSplit_any (bs l) V (by rw [bs_size]; exact hl)
  rw [bs_data] at this
  exact this.mono fun e w' ⟨a, c, h1, _, h3⟩ => ⟨_, h1.trans (by rw [he]), h3⟩

set_option maxHeartbeats 4000000 in
theorem refRules_any {a : Option Addr} {c n : Nat} {l : List Ru} (hr : G.Row kR w a c l) (hl : ∀ r ∈ l, r.Ok) (hn : l.length = n) {B : Bool} (hB : mayR l = B) :
    Calls Tryd.prog 13 #[.slice a n c] w fun e w' => e = .returned (.bool B) ∧ Below w.heap.size w w' := by
  subst hn hB
  have HR := Lib.hid hr
  have HL := Lib.hid hl
  clear hr hl
  by_cases h8 : (8 : Int) < (l.length : Int)
  · have e1 : decide ((8 : Int) < (l.length : Int)) = true := by simpa using h8
    have hm := mayR_long (l := l) (by omega)
    clear h8
    go_enter Tryd.func13, Tryd.ntmps13
    go_wp2
    go_ret
    exact ⟨by rw [hm]; rfl, Below.refl _ _⟩
  have e1 : decide ((8 : Int) < (l.length : Int)) = false := by simpa using h8
  have h8' : l.length ≤ 8 := by omega
  clear h8
  go_enter Tryd.func13, Tryd.ntmps13
  go_wp2
  go_loopw [3] (fun i V => ∃ k : Nat, k ≤ l.length ∧ i = .int .i64 k ∧ Hid ((l.take k).all ruleB = true) ∧ Hid (Below w.heap.size w V)) (fun i _ => l.length - (intOf i).toNat)
  case atStart => exact ⟨0, Nat.zero_le _, rfl, Lib.hid rfl, Lib.hid (Below.refl _ _)⟩
  case round =>
    obtain ⟨k, hk, rfl, hT, hV⟩ := hrel
    by_cases hlt : k < l.length
    · obtain ⟨bk, o, rfl, hbk, c0, c1⟩ := row_rule (HR.out.below hV.out) hlt
      have hp := (HL.out _ (List.getElem_mem hlt)).2
      obtain ⟨E, hE⟩ : ∃ E, N.er l[k].path = E := ⟨_, rfl⟩
      cases hB : ruleB l[k] with
      | true =>
        have YES := Lib.hid (all_take_r hlt hT.out hB)
        have HE := Lib.hid hE
        have hw := rule_ways hB hE rfl
        clear hB hE
        generalize l[k] = r at c0 c1 hp HE hw
        rcases hw with ⟨e2, e3⟩ | ⟨e2, e3, e4⟩ | ⟨e2, e3, e4, e5⟩ | ⟨_, _, _, h⟩
        case inr.inr.inr => cases h
        all_goals
          go_wp2_with (go_at_call 32; ((refine (refsplit_er hp HE.out).mono ?_); rintro e w1 ⟨v1, rfl, b1⟩; have c0 := (b1.cell (p := ⟨bk, o + k * 2, none⟩) hbk).trans c0; have c1 := (b1.cell (p := ⟨bk, o + k * 2 + 1, none⟩) hbk).trans c1; have hbk := Nat.lt_of_lt_of_le hbk b1.size))
          go_roundw
          case rel => exact ⟨k + 1, by omega, by go_num, YES, Lib.hid (bel2 hV.out b1)⟩
          case measure => simp [intOf]; omega
      | false =>
        have NO := Lib.hid (mayR_no hlt hB)
        have HE := Lib.hid hE
        have hw := rule_ways hB hE rfl
        clear hB hE
        generalize l[k] = r at c0 c1 hp HE hw
        rcases hw with ⟨e2, e3⟩ | ⟨e2, e3, e4⟩ | ⟨e2, e3, e4, e5⟩ | ⟨e2, e3, e4, _⟩
        all_goals
          go_wp2_with (go_at_call 32; ((refine (refsplit_er hp HE.out).mono ?_); rintro e w1 ⟨v1, rfl, b1⟩; have c0 := (b1.cell (p := ⟨bk, o + k * 2, none⟩) hbk).trans c0; have c1 := (b1.cell (p := ⟨bk, o + k * 2 + 1, none⟩) hbk).trans c1; have hbk := Nat.lt_of_lt_of_le hbk b1.size))
          go_ret
          exact ⟨by rw [NO.out]; rfl, bel2 hV.out b1⟩
    · obtain rfl : k = l.length := by omega
      have YES := Lib.hid (mayR_end h8' hT.out)
      go_wp2
      go_ret
      exact ⟨by rw [YES.out]; rfl, hV.out⟩

/-- terms lie in no box of a branch's own: cells tell -/
theorem trow_set {V : World} {k : Nat} {y0 y : Br} {av : Value} {a : Option Addr} {c : Nat} {l : List Tm} (hX : BmAt V k y0 (.slice none 0 0)) (hr : TRow V a c l) : TRow (setBr V k y av) a c l := by
  refine ⟨hr.1, hr.2.1, fun h0 => ?_⟩
  obtain ⟨bk, o, e, hl, hc⟩ := hr.2.2 h0
  have hne : bk ≠ k := by
    rintro rfl
    obtain ⟨t0, t1, t2, t3⟩ := hc 0 h0
    have q0 := t0
    unfold BmAt at hX
    simp only [World.cell?, hX, Nat.zero_mul, Nat.add_zero] at t0 t2
    have h10 : o < 10 := (Array.getElem?_eq_some_iff.1 t0).1
    obtain rfl | rfl | rfl | rfl | rfl | rfl | rfl | rfl | rfl | rfl : o = 0 ∨ o = 1 ∨ o = 2 ∨ o = 3 ∨ o = 4 ∨ o = 5 ∨ o = 6 ∨ o = 7 ∨ o = 8 ∨ o = 9 := by omega
    all_goals first
      | (simp at t0; done)
      | (simp at t2; done)
  refine ⟨bk, o, e, by rw [size_setBr]; exact hl, fun j hj => ?_⟩
  obtain ⟨t0, t1, t2, t3⟩ := hc j hj
  have hh := heap_setBr (w := V) hne y av
  exact ⟨(cell_of_heap hh).trans t0, (cell_of_heap hh).trans t1, (cell_of_heap hh).trans t2, (cell_of_heap hh).trans t3⟩

/-- what Search has in memory: the box of its answer -/
structure Fm (w V : World) : Prop where
  one : BmAt V w.heap.size noBr (.slice none 0 0)
  bel : Below w.heap.size w V
theorem Fm.new (w : World) : Fm w (w.alloc (BmO noBr (.slice none 0 0))) := ⟨BmAt.new w noBr _, one_new _ _⟩
theorem Fm.below {w V V' : World} (h : Fm w V) (hb : Below V.heap.size V V') : Fm w V' := ⟨h.one.below hb, bel2 h.bel hb⟩
theorem Fm.found {w V w2 : World} (h : Fm w V) {y : Br} {a : Option Addr} {c : Nat} (ho : TRow w2 a c y.acl) (hb : Below V.heap.size V w2) :
    BmAt (setBr (w2.alloc (BmO y (.slice a y.acl.length c))) w.heap.size y (.slice a y.acl.length c)) w.heap.size y (.slice a y.acl.length c) ∧ TRow (setBr (w2.alloc (BmO y (.slice a y.acl.length c))) w.heap.size y (.slice a y.acl.length c)) a c y.acl ∧ Below w.heap.size w (setBr (w2.alloc (BmO y (.slice a y.acl.length c))) w.heap.size y (.slice a y.acl.length c)) := by
  have h2 := (h.below hb).below (one_new w2 (BmO y (.slice a y.acl.length c)))
  exact ⟨h2.one.stored _ _, trow_set h2.one (ho.below (one_new _ _)), Below.setBr h2.bel (Nat.le_refl _) _ _⟩

variable {b : Nat} {F : Nat → Prop} {m : Ms}

theorem rDir_is (h : MAt w b F m) (hL : LinksM m) {l : Txt} (hl : l.length ≤ maxLen) {D E : Int} (hR : wDir (lkM m) l = (D, E)) :
    Calls Tryd.prog 37 #[TP b, .string (bs l)] w fun e w' => e = .returned (.tuple #[.int .i64 D, .int .i64 E]) ∧ Below w.heap.size w w' := by
  have := rDir_any h hL hl
  rw [hR] at this
  exact this

/-- where a rule looks, by its kind -/
theorem dir_ways {L : Int → Txt → Option Br} {r : Ru} {work : Txt} {fr D E : Int} (h : dirOf L r work fr = (D, E)) :
    (r.kind == 2) = true ∧ (r.kind == 3) = false ∧ wDir L work = (D, E) ∨ (r.kind == 2) = false ∧ (r.kind == 3) = true ∧ wDir L r.path = (D, E) ∨ (r.kind == 2) = false ∧ (r.kind == 3) = false ∧ D = fr ∧ E = 0 := by
  unfold dirOf at h
  by_cases h2 : r.kind = 2
  · rw [if_pos h2] at h
    left; simp [h2, h]
  rw [if_neg h2] at h
  by_cases h3 : r.kind = 3
  · rw [if_pos h3] at h
    right; left; simp [h3, h]
  rw [if_neg h3] at h
  cases h
  right; right; simp [h2, h3]

end

end Go.Proofs.YtpcdcmoapenbdaaDoor.T

namespace Go.Proofs.YtpcdcmoapenbdaaDoor.T
open Go.ChangeShapes Go.WideShapes Go.ChangeAt Go.RowKit
open Go.Proofs.YtpcdcmoapenbdaaDoor.N (bs bs_data bs_size bs_inj bs_of Glob retB)
open Go.Proofs.YtpcdcmoapenbdaaDoor.A (Tm TRow)

section
variable {w : World} {b : Nat} {F : Nat → Prop} {m : Ms}

theorem led_err {w V : World} (hb : Below w.heap.size w V) {e : Int} : LedM w (e, noBr) (.returned (.tuple #[BrV noBr (.slice none 0 0), .int .i64 e])) V := ⟨none, 0, rfl, A.TRow.nil _, hb⟩

set_option maxHeartbeats 8000000 in
set_option maxRecDepth 8000 in
theorem search_rules (h : MAt w b F m) (hL : LinksM m) {a : Option Addr} {cc n : Nat} {l : List Ru} (hr : G.Row kR w a cc l) (hl : ∀ r ∈ l, r.Ok) (hn : l.length = n) {work : Txt} (hw : work.length ≤ maxLen) {fr : Int} {s : Txt} (hs : s.length ≤ maxLen) {R : Int × Br} (hR : findR (lkM m) l work fr s = R) :
    Calls Tryd.prog 15 #[TP b, .slice a n cc, .string (bs work), .int .i64 fr, .string (bs s)] w (LedM w R) := by
  subst hn
  have H := Lib.hid h
  have HL := Lib.hid hL
  have HR := Lib.hid hr
  have HO := Lib.hid hl
  have hsz : (bs s).size ≤ maxLen := by rw [bs_size]; exact hs
  have X0 := Lib.hid (Fm.new w)
  clear h hL hr hl
  cases hm : mayR l with
  | false =>
    obtain rfl : (1, noBr) = R := by rw [← hR, findR, if_neg (by rw [hm]; simp)]
    have HM := Lib.hid hm
    clear hm hR
    go_enter Tryd.func15, Tryd.ntmps15
    go_wp2_with (go_at_call 13; ((refine (refRules_any (HR.out.below X0.out.bel) HO.out rfl HM.out).mono ?_); rintro e w1 ⟨rfl, b1⟩; have X1 := Lib.hid (X0.out.below b1); obtain ⟨s0, s1, s2, s3, s4, s5, s6, s7, s8, s9⟩ := X1.out.one.cell; have f2 := X1.out.one.fz; have hlt := X1.out.one.lt))
    have E1 := X1.out.one.stored noBr (.slice none 0 0)
    have E3 := Below.setBr X1.out.bel (k := w.heap.size) (Nat.le_refl _) noBr (.slice none 0 0)
    refine (show bodyPost _ _ _ _ _ (setBr w1 w.heap.size noBr (.slice none 0 0)) from ?_)
    generalize setBr w1 w.heap.size noBr (.slice none 0 0) = V at E1 E3 ⊢
    obtain ⟨g0, g1, g2, g3, g4, g5, g6, g7, g8, g9⟩ := E1.cell
    exact bodyPost_ret (v := .tuple #[BrV noBr (.slice none 0 0), .int .i64 1]) (by simp [results, Tryd.results15, go_sem, g0, g1, g2, g3, g4, g5, g6, g7, g8, g9]) rfl (led_err E3)
  | true =>
    have HM := Lib.hid hm
    cases hm2 : N.may 32 s with
    | false =>
      obtain rfl : (3, noBr) = R := by rw [← hR, findR, if_pos hm, if_neg (by rw [hm2]; simp)]
      have HN : Hid (N.may 32 (bs s).data.toList = false) := Lib.hid (by rw [bs_data]; exact hm2)
      clear hm hm2 hR
      go_enter Tryd.func15, Tryd.ntmps15
      go_wp2_with (first
        | (go_at_call 13; ((refine (refRules_any (HR.out.below X0.out.bel) HO.out rfl HM.out).mono ?_); rintro e w1 ⟨rfl, b1⟩; have X1 := Lib.hid (X0.out.below b1)))
        | (go_at_call 36; ((refine (N.nameMay_any _ _ hsz).mono ?_); rw [HN.out]; rintro e w2 ⟨rfl, h2⟩; subst w2; obtain ⟨s0, s1, s2, s3, s4, s5, s6, s7, s8, s9⟩ := X1.out.one.cell; have f2 := X1.out.one.fz; have hlt := X1.out.one.lt)))
      have E1 := X1.out.one.stored noBr (.slice none 0 0)
      have E3 := Below.setBr X1.out.bel (k := w.heap.size) (Nat.le_refl _) noBr (.slice none 0 0)
      refine (show bodyPost _ _ _ _ _ (setBr w1 w.heap.size noBr (.slice none 0 0)) from ?_)
      generalize setBr w1 w.heap.size noBr (.slice none 0 0) = V at E1 E3 ⊢
      obtain ⟨g0, g1, g2, g3, g4, g5, g6, g7, g8, g9⟩ := E1.cell
      exact bodyPost_ret (v := .tuple #[BrV noBr (.slice none 0 0), .int .i64 3]) (by simp [results, Tryd.results15, go_sem, g0, g1, g2, g3, g4, g5, g6, g7, g8, g9]) rfl (led_err E3)
    | true =>
      have HN : Hid (N.may 32 (bs s).data.toList = true) := Lib.hid (by rw [bs_data]; exact hm2)
      have S0 : Hid (srch (lkM m) work fr s (l.drop 0) = R) := Lib.hid (by rw [List.drop_zero, ← hR, findR, if_pos hm, if_pos hm2])
      have h8 : l.length ≤ 8 := by
        by_cases h : l.length ≤ 8
        · exact h
        · have := mayR_long (l := l) (by omega)
          rw [hm] at this
          cases this
      clear hm hm2 hR
      go_enter Tryd.func15, Tryd.ntmps15
      go_wp2_with (first
        | (go_at_call 13; ((refine (refRules_any (HR.out.below X0.out.bel) HO.out rfl HM.out).mono ?_); rintro e w1 ⟨rfl, b1⟩; have X1 := Lib.hid (X0.out.below b1)))
        | (go_at_call 36; ((refine (N.nameMay_any _ _ hsz).mono ?_); rw [HN.out]; rintro e w2 ⟨rfl, h2⟩; subst w2)))
      go_loopw [12] (fun i V => ∃ k : Nat, k ≤ l.length ∧ i = .int .i64 k ∧ Hid (srch (lkM m) work fr s (l.drop k) = R) ∧ Hid (Fm w V)) (fun i _ => l.length - (intOf i).toNat)
      case atStart => exact ⟨0, Nat.zero_le _, rfl, S0, X1⟩
      case round =>
        clear S0 X1
        obtain ⟨k, hk, rfl, hS, hX⟩ := hrel
        by_cases hlt : k < l.length
        · obtain ⟨bk, o, rfl, hbk, c0, c1⟩ := row_rule (HR.out.below hX.out.bel) hlt
          have hp := (HO.out _ (List.getElem_mem hlt)).2
          obtain ⟨D, E, hD⟩ : ∃ D E, dirOf (lkM m) l[k] work fr = (D, E) := ⟨_, _, rfl⟩
          have hways := dir_ways hD
          by_cases hE : E = 0
          case neg =>
            have NX := Lib.hid (srch_none hlt hS.out (hit_dir hD hE))
            have e1 : (E != 0) = true := by simpa using hE
            clear hD hS
            generalize l[k] = r at c0 c1 hp hways
            rcases hways with ⟨e2, e3, hD⟩ | ⟨e2, e3, hD⟩ | ⟨_, _, _, h⟩
            case inr.inr => exact absurd h hE
            all_goals
              have HD := Lib.hid hD
              clear hD hE
              go_wp2_with (go_at_call 37; ((refine (rDir_is (H.out.below hX.out.bel) HL.out (by assumption) HD.out).mono ?_); rintro e w3 ⟨rfl, b3⟩; have X3 := Lib.hid (hX.out.below b3); have c0 := (b3.cell (p := ⟨bk, o + k * 2, none⟩) hbk).trans c0; have c1 := (b3.cell (p := ⟨bk, o + k * 2 + 1, none⟩) hbk).trans c1; have hbk := Nat.lt_of_lt_of_le hbk b3.size))
              go_roundw
              case rel => exact ⟨k + 1, by omega, by go_num, NX, X3⟩
              case measure => simp [intOf]; omega
          subst hE
          obtain ⟨E, y, hI⟩ : ∃ E y, wIn (lkM m) D s = (E, y) := ⟨_, _, rfl⟩
          have HI := Lib.hid hI
          by_cases hy : E = 0 ∧ y.kind = 1
          · obtain ⟨rfl, hy⟩ := hy
            obtain rfl := srch_some hlt hS.out (hit_yes hD hI hy)
            have e1 : (y.kind == 1) = true := by simpa using hy
            clear hD hI hy hS
            generalize l[k] = r at c0 c1 hp hways
            rcases hways with ⟨e2, e3, hD⟩ | ⟨e2, e3, hD⟩ | ⟨e2, e3, rfl, _⟩
            case inr.inr =>
              go_wp2_with (go_at_call 38; ((refine (rIn_any (H.out.below hX.out.bel) HL.out D s).mono ?_); rw [HI.out]; rintro e w4 ⟨a4, c4, rfl, o4, b4⟩; have E0 := Lib.hid (hX.out.found o4 b4); have X4 := Lib.hid ((hX.out.below b4).below (one_new _ (BmO y (.slice a4 y.acl.length c4)))); obtain ⟨s0, s1, s2, s3, s4, s5, s6, s7, s8, s9⟩ := X4.out.one.cell; have f2 := X4.out.one.fz; have hlt := X4.out.one.lt))
              obtain ⟨E1, E2, E3⟩ := E0.out
              refine (show bodyPost _ _ _ _ _ (setBr (w4.alloc (BmO y (.slice a4 y.acl.length c4))) w.heap.size y (.slice a4 y.acl.length c4)) from ?_)
              generalize setBr (w4.alloc (BmO y (.slice a4 y.acl.length c4))) w.heap.size y (.slice a4 y.acl.length c4) = V5 at E1 E2 E3 ⊢
              obtain ⟨g0, g1, g2, g3, g4, g5, g6, g7, g8, g9⟩ := E1.cell
              exact bodyPost_ret (v := .tuple #[BrV y (.slice a4 y.acl.length c4), .int .i64 0]) (by simp [results, Tryd.results15, go_sem, g0, g1, g2, g3, g4, g5, g6, g7, g8, g9]) rfl ⟨a4, c4, rfl, E2, E3⟩
            all_goals
              have HD := Lib.hid hD
              clear hD
              go_wp2_with (first
                | (go_at_call 37; ((refine (rDir_is (H.out.below hX.out.bel) HL.out (by assumption) HD.out).mono ?_); rintro e w3 ⟨rfl, b3⟩; have X3 := Lib.hid (hX.out.below b3); have c0 := (b3.cell (p := ⟨bk, o + k * 2, none⟩) hbk).trans c0; have c1 := (b3.cell (p := ⟨bk, o + k * 2 + 1, none⟩) hbk).trans c1; have hbk := Nat.lt_of_lt_of_le hbk b3.size))
                | (go_at_call 38; ((refine (rIn_any (H.out.below X3.out.bel) HL.out D s).mono ?_); rw [HI.out]; rintro e w4 ⟨a4, c4, rfl, o4, b4⟩; have E0 := Lib.hid (X3.out.found o4 b4); have X4 := Lib.hid ((X3.out.below b4).below (one_new _ (BmO y (.slice a4 y.acl.length c4)))); obtain ⟨s0, s1, s2, s3, s4, s5, s6, s7, s8, s9⟩ := X4.out.one.cell; have f2 := X4.out.one.fz; have hlt := X4.out.one.lt)))
              obtain ⟨E1, E2, E3⟩ := E0.out
              refine (show bodyPost _ _ _ _ _ (setBr (w4.alloc (BmO y (.slice a4 y.acl.length c4))) w.heap.size y (.slice a4 y.acl.length c4)) from ?_)
              generalize setBr (w4.alloc (BmO y (.slice a4 y.acl.length c4))) w.heap.size y (.slice a4 y.acl.length c4) = V5 at E1 E2 E3 ⊢
              obtain ⟨g0, g1, g2, g3, g4, g5, g6, g7, g8, g9⟩ := E1.cell
              exact bodyPost_ret (v := .tuple #[BrV y (.slice a4 y.acl.length c4), .int .i64 0]) (by simp [results, Tryd.results15, go_sem, g0, g1, g2, g3, g4, g5, g6, g7, g8, g9]) rfl ⟨a4, c4, rfl, E2, E3⟩
          · have NX := Lib.hid (srch_none hlt hS.out (hit_in hD hI hy))
            have hy' : (E == 0) = false ∨ (E == 0) = true ∧ (y.kind == 1) = false := by
              by_cases h0 : E = 0
              · right
                exact ⟨by simpa using h0, by simpa using fun h1 => hy ⟨h0, h1⟩⟩
              · left; simpa using h0
            clear hD hI hy hS
            generalize l[k] = r at c0 c1 hp hways
            rcases hways with ⟨e2, e3, hD⟩ | ⟨e2, e3, hD⟩ | ⟨e2, e3, rfl, _⟩
            case inr.inr =>
              rcases hy' with e4 | ⟨e4, e5⟩
              all_goals
                go_wp2_with (go_at_call 38; ((refine (rIn_any (H.out.below hX.out.bel) HL.out D s).mono ?_); rw [HI.out]; rintro e w4 ⟨a4, c4, rfl, o4, b4⟩; have X4 := Lib.hid ((hX.out.below b4).below (one_new _ (BmO y (.slice a4 y.acl.length c4))))))
                go_roundw
                case rel => exact ⟨k + 1, by omega, by go_num, NX, X4⟩
                case measure => simp [intOf]; omega
            all_goals
              have HD := Lib.hid hD
              clear hD
              rcases hy' with e4 | ⟨e4, e5⟩
              all_goals
                go_wp2_with (first
                  | (go_at_call 37; ((refine (rDir_is (H.out.below hX.out.bel) HL.out (by assumption) HD.out).mono ?_); rintro e w3 ⟨rfl, b3⟩; have X3 := Lib.hid (hX.out.below b3); have c0 := (b3.cell (p := ⟨bk, o + k * 2, none⟩) hbk).trans c0; have c1 := (b3.cell (p := ⟨bk, o + k * 2 + 1, none⟩) hbk).trans c1; have hbk := Nat.lt_of_lt_of_le hbk b3.size))
                  | (go_at_call 38; ((refine (rIn_any (H.out.below X3.out.bel) HL.out D s).mono ?_); rw [HI.out]; rintro e w4 ⟨a4, c4, rfl, o4, b4⟩; have X4 := Lib.hid ((X3.out.below b4).below (one_new _ (BmO y (.slice a4 y.acl.length c4)))))))
                go_roundw
                case rel => exact ⟨k + 1, by omega, by go_num, NX, X4⟩
                case measure => simp [intOf]; omega
        · obtain rfl : k = l.length := by omega
          obtain rfl := srch_end hS.out
          obtain ⟨s0, s1, s2, s3, s4, s5, s6, s7, s8, s9⟩ := hX.out.one.cell
          have f2 := hX.out.one.fz
          have hlt' := hX.out.one.lt
          have E1 := hX.out.one.stored noBr (.slice none 0 0)
          have E3 := Below.setBr hX.out.bel (k := w.heap.size) (Nat.le_refl _) noBr (.slice none 0 0)
          go_wp2
          refine (show bodyPost _ _ _ _ _ (setBr wr w.heap.size noBr (.slice none 0 0)) from ?_)
          generalize setBr wr w.heap.size noBr (.slice none 0 0) = V5 at E1 E3 ⊢
          obtain ⟨g0, g1, g2, g3, g4, g5, g6, g7, g8, g9⟩ := E1.cell
          exact bodyPost_ret (v := .tuple #[BrV noBr (.slice none 0 0), .int .i64 4]) (by simp [results, Tryd.results15, go_sem, g0, g1, g2, g3, g4, g5, g6, g7, g8, g9]) rfl (led_err E3)

end

end Go.Proofs.YtpcdcmoapenbdaaDoor.T
