/-
  The law RulesFind answers true: the ways out early.
  The law RulesFind answers true.
-/
import Derived.Test.YtpcdcmoapenbdaaDoorRuCuts
import Derived.Test.YtpcdcmoapenbdaaDoorWTexts
namespace Go.Proofs.YtpcdcmoapenbdaaDoor.T
open Go.ChangeShapes Go.WideShapes Go.ChangeAt Go.RowKit
open Go.Proofs.YtpcdcmoapenbdaaDoor.N (bs bs_data bs_size bs_inj bs_of Glob Row)
open Go.Proofs.YtpcdcmoapenbdaaDoor.A (Tm TRow)

section
variable {w : World} {a : Option Addr} {c : Nat} {l : List DD} {a' : Option Addr} {c' : Nat} {x : List Ru} {a2 : Option Addr} {c2 : Nat} {qs : List Txt}

set_option maxHeartbeats 1000000 in
set_option maxRecDepth 8000 in
theorem finds_small (hg : Glob w) (h : DRow w a c l) (hsm : smallB l = false) :
    Calls Tryd.prog 3 #[.slice a l.length c, .slice a' x.length c', .slice a2 qs.length c2] w fun e w' => e = .returned (.bool true) ∧ Below w.heap.size w w' := by
  have HG := Lib.hid hg
  have HR := Lib.hid h
  have HS := Lib.hid hsm
  clear hsm
  clear hg h
  go_enter Tryd.func3, Tryd.ntmps3
  go_wp2_with (first
    | (go_at_call 7; ((refine (awake14_any HG.out).mono ?_); rintro e w1 ⟨rfl, b1⟩; have B1 := Lib.hid b1; clear b1))
    | (go_at_call 8; ((refine (small7_is (HR.out.below B1.out) HS.out).mono ?_); rintro e w2 ⟨rfl, rfl⟩)))
  go_ret
  exact ⟨rfl, B1.out⟩

set_option maxHeartbeats 1000000 in
set_option maxRecDepth 8000 in
theorem finds_many (hg : Glob w) (h : DRow w a c l) (hsm : smallB l = true) (h8 : 40 < x.length) :
    Calls Tryd.prog 3 #[.slice a l.length c, .slice a' x.length c', .slice a2 qs.length c2] w fun e w' => e = .returned (.bool true) ∧ Below w.heap.size w w' := by
  have HG := Lib.hid hg
  have HR := Lib.hid h
  have HS := Lib.hid hsm
  have e1 : decide ((40 : Int) < (x.length : Int)) = true := by simp; omega
  clear hsm h8
  clear hg h
  go_enter Tryd.func3, Tryd.ntmps3
  go_wp2_with (first
    | (go_at_call 7; ((refine (awake14_any HG.out).mono ?_); rintro e w1 ⟨rfl, b1⟩; have B1 := Lib.hid b1; clear b1))
    | (go_at_call 8; ((refine (small7_is (HR.out.below B1.out) HS.out).mono ?_); rintro e w2 ⟨rfl, rfl⟩)))
  go_ret
  exact ⟨rfl, B1.out⟩

set_option maxHeartbeats 1000000 in
set_option maxRecDepth 8000 in
theorem finds_few (hg : Glob w) (h : DRow w a c l) (hsm : smallB l = true) (h8 : x.length ≤ 40) (h1 : qs.length < 1) :
    Calls Tryd.prog 3 #[.slice a l.length c, .slice a' x.length c', .slice a2 qs.length c2] w fun e w' => e = .returned (.bool true) ∧ Below w.heap.size w w' := by
  have HG := Lib.hid hg
  have HR := Lib.hid h
  have HS := Lib.hid hsm
  have e1 : decide ((40 : Int) < (x.length : Int)) = false := by simp; omega
  have e2 : decide ((qs.length : Int) < 1) = true := by simp; omega
  clear hsm h8 h1
  clear hg h
  go_enter Tryd.func3, Tryd.ntmps3
  go_wp2_with (first
    | (go_at_call 7; ((refine (awake14_any HG.out).mono ?_); rintro e w1 ⟨rfl, b1⟩; have B1 := Lib.hid b1; clear b1))
    | (go_at_call 8; ((refine (small7_is (HR.out.below B1.out) HS.out).mono ?_); rintro e w2 ⟨rfl, rfl⟩)))
  go_ret
  exact ⟨rfl, B1.out⟩

set_option maxHeartbeats 1000000 in
set_option maxRecDepth 8000 in
theorem finds_asks (hg : Glob w) (h : DRow w a c l) (hsm : smallB l = true) (h8 : x.length ≤ 40) (h20 : 20 < qs.length) :
    Calls Tryd.prog 3 #[.slice a l.length c, .slice a' x.length c', .slice a2 qs.length c2] w fun e w' => e = .returned (.bool true) ∧ Below w.heap.size w w' := by
  have HG := Lib.hid hg
  have HR := Lib.hid h
  have HS := Lib.hid hsm
  have e1 : decide ((40 : Int) < (x.length : Int)) = false := by simp; omega
  have e2 : decide ((qs.length : Int) < 1) = false := by simp; omega
  have e3 : decide ((20 : Int) < (qs.length : Int)) = true := by simp; omega
  clear hsm h8 h20
  clear hg h
  go_enter Tryd.func3, Tryd.ntmps3
  go_wp2_with (first
    | (go_at_call 7; ((refine (awake14_any HG.out).mono ?_); rintro e w1 ⟨rfl, b1⟩; have B1 := Lib.hid b1; clear b1))
    | (go_at_call 8; ((refine (small7_is (HR.out.below B1.out) HS.out).mono ?_); rintro e w2 ⟨rfl, rfl⟩)))
  go_ret
  exact ⟨rfl, B1.out⟩

end

end Go.Proofs.YtpcdcmoapenbdaaDoor.T

namespace Go.Proofs.YtpcdcmoapenbdaaDoor.T
open Go.ChangeShapes Go.WideShapes Go.ChangeAt Go.RowKit
open Go.Proofs.YtpcdcmoapenbdaaDoor.N (bs bs_data bs_size bs_inj bs_of Glob Row)
open Go.Proofs.YtpcdcmoapenbdaaDoor.A (Tm TRow)

section
variable {w : World} {a : Option Addr} {c : Nat} {l : List DD} {a' : Option Addr} {c' : Nat} {x : List Ru} {bk o : Nat} {c2 : Nat} {qs : List Txt}

theorem txt_at {V : World} (hq : Row V (some ⟨bk, o, none⟩) c2 qs) {k : Nat} (hk : k < qs.length) : bk < V.heap.size ∧ V.cell? ⟨bk, o + k, none⟩ = some (.string (bs qs[k])) := by
  obtain ⟨bk', o', e, hl, h0⟩ := hq.at_ hk
  cases e
  exact ⟨hl, h0⟩

set_option maxHeartbeats 4000000 in
set_option maxRecDepth 20000 in
theorem finds_main (hg : Glob w) (h : DRow w a c l) (hin : ∀ p ∈ l, DIn w p) (hr : G.Row kR w a' c' x) (hx : ∀ r ∈ x, r.Ok) (hq : Row w (some ⟨bk, o, none⟩) c2 qs) (hql : ∀ q ∈ qs, q.length ≤ maxLen) (hsm : smallB l = true) (h8 : x.length ≤ 40) (h1 : 1 ≤ qs.length) (h20 : qs.length ≤ 20) :
    Calls Tryd.prog 3 #[.slice a l.length c, .slice a' x.length c', .slice (some ⟨bk, o, none⟩) qs.length c2] w fun e w' => e = .returned (.bool true) ∧ Below w.heap.size w w' := by
  have HG := Lib.hid hg
  have HR := Lib.hid h
  have HX := Lib.hid hr
  have HO := Lib.hid hx
  have HQ := Lib.hid hq
  have HI := Lib.hid hin
  have HQL := Lib.hid hql
  have HS := Lib.hid hsm
  have e1 : decide ((40 : Int) < (x.length : Int)) = false := by simp; omega
  have e2 : decide ((qs.length : Int) < 1) = false := by simp; omega
  have e3 : decide ((20 : Int) < (qs.length : Int)) = false := by simp; omega
  obtain ⟨hl121, hsd⟩ := small_yes hsm
  have HD := Lib.hid hsd
  clear hg h hr hx hq hin hsm hsd hql
  go_enter Tryd.func3, Tryd.ntmps3
  go_wp2_with (first
    | (go_at_call 7; ((refine (awake14_any HG.out).mono ?_); rintro e w1 ⟨rfl, b1⟩; have B1 := Lib.hid b1; clear b1))
    | (go_at_call 8; ((refine (small7_is (HR.out.below B1.out) HS.out).mono ?_); rintro e w2 ⟨rfl, rfl⟩))
    | (go_at_call 9; ((refine (new_at w1).mono ?_); rintro e w4 ⟨rfl, t2, b2, l2⟩; have T2 := Lib.hid t2; have B2 := Lib.hid b2; have L2 := Lib.hid l2; clear t2 b2 l2))
    | (go_at_call 10; ((refine (mnew_at w4).mono ?_); rintro e w5 ⟨bm, Fm, rfl, m3, b3, f3, l3⟩; have PL := Lib.hid (two_new T2.out B2.out L2.out m3 b3 f3); clear m3 b3 f3 l3)))
  have HR1 := Lib.hid (HR.out.below B1.out)
  have HG1 := Lib.hid (HG.out.below B1.out)
  have HX1 := Lib.hid (HX.out.below B1.out)
  have HQ1 := Lib.hid (HQ.out.below B1.out)
  clear HR T2 B2 L2 HX HQ HG
  go_loopw [9] (fun i V => ∃ k : Nat, k ≤ l.length ∧ i = .int .i64 k ∧ Hid (Played w1 w1.heap.size bm k V)) (fun i _ => l.length - (intOf i).toNat)
  case atStart => exact ⟨0, Nat.zero_le _, rfl, PL⟩
  case round =>
    clear PL
    obtain ⟨k, hk, rfl, hP⟩ := hrel
    by_cases hlt : k < l.length
    · have hmem := List.getElem_mem hlt
      have OK := Lib.hid (ok_of (HI.out _ hmem) (HD.out _ hmem))
      have TR := Lib.hid ((HI.out _ hmem).1.below B1.out)
      obtain ⟨bk', o', rfl, hbk', hlc, c0, c1, c2', c3, c4, c5, c6, c7, c8, c9, c10, c11, c12, c13⟩ := (HR1.out.below hP.out.bel).at_ hlt
      go_wp2_with (go_at_call 11; ((refine (hP.out.do_ (by omega) HG1.out OK.out TR.out).mono ?_); rintro e w6 ⟨rfl, p4⟩; have P4 := Lib.hid p4; clear p4))
      go_roundw
      case rel => exact ⟨k + 1, by omega, by go_num, P4⟩
      case measure => simp [intOf]; omega
    · obtain rfl : k = l.length := by omega
      obtain ⟨cn, st, m, t, I⟩ := hP.out
      have TW := Lib.hid t
      have LK := Lib.hid I.lt
      have LM := Lib.hid I.lm
      have LL : Hid (lk st = lkM m) := Lib.hid (by obtain ⟨f, R⟩ := I.rel; funext d s; exact R.looks d s)
      have BW := Lib.hid (bel2 B1.out t.bel)
      have XW := Lib.hid (HX1.out.below t.bel)
      have QW := Lib.hid (HQ1.out.below t.bel)
      have AC := Lib.hid (lk_acl t)
      clear t hP I HX1 HQ1 HR1 HI HD hk hlt
      go_wp2
      obtain ⟨W1, hW1⟩ : ∃ W1, W1 = wr := ⟨_, rfl⟩
      subst hW1
      go_loopw [10] (fun i V => ∃ k : Nat, k ≤ x.length ∧ i = .int .i64 k ∧ V = W1) (fun i _ => x.length - (intOf i).toNat)
      case atStart => exact ⟨0, Nat.zero_le _, rfl, rfl⟩
      case round =>
        obtain ⟨k, hk, rfl, rfl⟩ := hrel
        by_cases hlt : k < x.length
        · obtain ⟨bx, ox, rfl, hbx, c0, c1⟩ := row_rule XW.out hlt
          generalize x[k].path = p at c1
          generalize x[k].kind = kd at c0
          by_cases hp : (1000 : Int) < ((bs p).size : Int)
          · have e4 : decide ((1000 : Int) < ((bs p).size : Int)) = true := by simpa using hp
            clear hp
            go_wp2
            go_ret
            exact ⟨rfl, BW.out⟩
          · have e4 : decide ((1000 : Int) < ((bs p).size : Int)) = false := by simpa using hp
            clear hp
            go_wp2
            go_roundw
            case rel => exact ⟨k + 1, by omega, by go_num, by first | rfl | trivial⟩
            case measure => simp [intOf]; omega
        · obtain rfl : k = x.length := by omega
          clear hk hlt
          obtain ⟨B, hB⟩ : ∃ B, mayR x = B := ⟨_, rfl⟩
          have HM := Lib.hid hB
          clear hB
          have eB : (B != B) = false := bne_self_eq_false B
          go_wp2_with (first
            | (go_at_call 12; ((refine (rulesMay_any (HG1.out.below TW.out.bel) XW.out HO.out rfl HM.out).mono ?_); rintro e w6 ⟨rfl, b6⟩; have X6 := Lib.hid (XW.out.below b6); have B6 := Lib.hid b6; clear b6))
            | (go_at_call 13; ((refine (refRules_any X6.out HO.out rfl HM.out).mono ?_); rintro e w7 ⟨rfl, b7⟩; have B7 := Lib.hid (bel2 B6.out b7); clear b7)))
          have T7 := Lib.hid (TW.out.below B7.out)
          have X7 := Lib.hid (XW.out.below B7.out)
          have Q7 := Lib.hid (QW.out.below B7.out)
          have BW7 := Lib.hid (bel2 BW.out B7.out)
          clear TW XW QW BW B6 X6 B7 HM eB
          go_loopw [11] (fun i V => ∃ k : Nat, 1 ≤ k ∧ k ≤ qs.length ∧ i = .int .i64 k ∧ Hid (Below w7.heap.size w7 V)) (fun i _ => qs.length - (intOf i).toNat)
          case atStart => exact ⟨1, Nat.le_refl _, h1, rfl, Lib.hid (Below.refl _ _)⟩
          case round =>
            obtain ⟨k, hk1, hk, rfl, hV⟩ := hrel
            by_cases hlt : k < qs.length
            · have hq0 := txt_at (Q7.out.below hV.out) (k := 0) (by omega)
              have hqk := txt_at (Q7.out.below hV.out) hlt
              have hwl : qs[0].length ≤ maxLen := HQL.out _ (List.getElem_mem _)
              have hnl : qs[k].length ≤ maxLen := HQL.out _ (List.getElem_mem _)
              rw [Nat.add_zero] at hq0
              generalize qs[0] = work at hq0 hwl
              generalize qs[k] = nm at hqk hnl
              have C0 : Hid (TC wr bk o (o + k) work nm) := Lib.hid ⟨hq0.2, hqk.2⟩
              have L0 := Lib.hid hq0.1
              obtain ⟨hbk, q0⟩ := hq0
              obtain ⟨_, qk⟩ := hqk
              by_cases hp : (200 : Int) < ((bs nm).size : Int)
              · have e4 : decide ((200 : Int) < ((bs nm).size : Int)) = true := by simpa using hp
                clear hp
                go_wp2
                go_ret
                exact ⟨rfl, bel2 BW7.out hV.out⟩
              have e4 : decide ((200 : Int) < ((bs nm).size : Int)) = false := by simpa using hp
              clear hp
              by_cases hp : (1000 : Int) < ((bs work).size : Int)
              · have e5 : decide ((1000 : Int) < ((bs work).size : Int)) = true := by simpa using hp
                clear hp
                go_wp2
                go_ret
                exact ⟨rfl, bel2 BW7.out hV.out⟩
              have e5 : decide ((1000 : Int) < ((bs work).size : Int)) = false := by simpa using hp
              clear hp
              obtain ⟨W3, hW3⟩ : ∃ W3, W3 = wr := ⟨_, rfl⟩
              subst hW3
              go_wp2
              go_loopw [12] (fun i V => ∃ f : Int, -2 ≤ f ∧ f ≤ 4 ∧ i = .int .i64 f ∧ Hid (Below W3.heap.size W3 V)) (fun i _ => (4 - intOf i).toNat)
              case atStart => exact ⟨-2, by omega, by omega, rfl, Lib.hid (Below.refl _ _)⟩
              case round =>
                obtain ⟨f, hf1, hf2, rfl, hU⟩ := hrel
                by_cases hlf : f < 4
                · have hfr : rng f := ⟨by omega, by omega⟩
                  obtain ⟨E, y, hR⟩ : ∃ E y, findR (lk st) x work f nm = (E, y) := ⟨_, _, rfl⟩
                  have HF := Lib.hid hR
                  have HFm := Lib.hid (LL.out ▸ hR)
                  have hacl := findR_acl AC.out hR
                  clear hR
                  have TV := Lib.hid (T7.out.below (bel2 hV.out hU.out))
                  have XV := Lib.hid (X7.out.below (bel2 hV.out hU.out))
                  have CV := Lib.hid (tc_below C0.out L0.out hU.out)
                  have LV := Lib.hid (Nat.lt_of_lt_of_le L0.out hU.out.size)
                  have i0 : (0 : Int) < (qs.length : Int) := by omega
                  have i3 : ¬ qs = [] := fun e => by rw [e] at h1; simp at h1
                  have i4 : 0 < qs.length := by omega
                  have i1 : (0 : Int) ≤ (k : Int) := by omega
                  have i2 : (k : Int) < (qs.length : Int) := by omega
                  have eE : (E != E) = false := bne_self_eq_false E
                  go_wp2
                  go_upto_region 27 with (fail)
                  have D7 := Lib.hid TV.out.drew
                  have X7 := Lib.hid (XV.out.below (Below.refl _ _).drew)
                  have k7 := Lib.hid (tc_below CV.out LV.out (Below.refl _ _).drew)
                  have b7 : Hid (Below wr.heap.size wr (wr.alloc ZbO).drew) := Lib.hid (one_new _ _).drew
                  have E7 := Lib.hid (TV.out.below b7.out)
                  have Y7 := Lib.hid (XV.out.below b7.out)
                  have k7a := Lib.hid (tc_below CV.out LV.out b7.out)
                  have Z7 : Hid (BrAt (wr.alloc ZbO).drew wr.heap.size noBr (.slice none 0 0)) := Lib.hid ((zb_at wr).below (Below.refl _ _).drew)
                  have n7 : bk ≠ wr.heap.size := Nat.ne_of_lt LV.out
                  go_cut [13, 14] (fun s t W => FC wr y E s t W)
                  case first =>
                    go_region_held3 (fun V => V.cell? ⟨bk, o, none⟩ = some (.string (bs work)) ∧ V.cell? ⟨bk, o + k, none⟩ = some (.string (bs nm)))
                      (first | (with_reducible exact k7.out) | (with_reducible exact k8.out) | (with_reducible exact k7a.out) | (with_reducible exact tc_alloc k8.out l8k.out _) | (with_reducible exact tc_set k8.out n7 y _) | fail)
                      (first
                        | (go_at_call 14; ((with_reducible refine (two_rules D7.out LK.out HG1.out X7.out HO.out rfl hwl hfr hnl HF.out).mono ?_); rintro e w8 ⟨a8, c8, rfl, r8, b8⟩; have R8 := Lib.hid r8; have B8 : Hid (Below wr.heap.size wr w8) := Lib.hid ((Below.refl _ _).drew.trans b8); have l8k := Lib.hid (Nat.lt_of_lt_of_le LV.out B8.out.size); have k8 := Lib.hid (tc_below CV.out LV.out B8.out); clear r8 b8))
                        | (go_at_call 14; ((with_reducible refine (two_rules E7.out LK.out HG1.out Y7.out HO.out rfl hwl hfr hnl HF.out).mono ?_); rintro e w8 ⟨a8, c8, rfl, r8, b8⟩; have R8 := Lib.hid r8; have B8 : Hid (Below wr.heap.size wr w8) := Lib.hid (bel2 b7.out b8); have l8k := Lib.hid (Nat.lt_of_lt_of_le LV.out B8.out.size); have k8 := Lib.hid (tc_below CV.out LV.out B8.out); have Z8 := Lib.hid (Z7.out.below b8); obtain ⟨x0, x1, x2, x3, x4, x5, x6, x7, x8', x9⟩ := Z8.out.cell; have f8 := Z8.out.fz; have l8 := Z8.out.lt; clear r8 b8)))
                    all_goals
                      go_wp2
                      go_meet
                    all_goals first
                      | (with_reducible exact fc_new B8.out R8.out)
                      | exact fc_set Z8.out (Nat.le_refl _) B8.out R8.out
                  case rest =>
                  obtain ⟨W2, hW2⟩ : ∃ W2, W2 = wc := ⟨_, rfl⟩
                  subst hW2
                  obtain ⟨k1, a1, c1, rfl, rfl, x1, r1, b1⟩ := hcut
                  have X1 := Lib.hid x1
                  have R1 := Lib.hid r1
                  have TV := Lib.hid (TV.out.below b1)
                  have XV := Lib.hid (XV.out.below b1)
                  have CV := Lib.hid (tc_below CV.out LV.out b1)
                  have LV := Lib.hid (Nat.lt_of_lt_of_le LV.out b1.size)
                  have BU := Lib.hid (bel2 hU.out b1)
                  clear D7 X7 k7 b7 E7 Y7 k7a Z7 n7 x1 r1 b1
                  go_wp2
                  go_upto_region 28 with (fail)
                  have D7 := Lib.hid TV.out.drew
                  have X7 := Lib.hid (XV.out.below (Below.refl _ _).drew)
                  have k7 := Lib.hid (tc_below CV.out LV.out (Below.refl _ _).drew)
                  have b7 : Hid (Below W2.heap.size W2 (W2.alloc ZdO).drew) := Lib.hid (one_new _ _).drew
                  have E7 := Lib.hid (TV.out.below b7.out)
                  have Y7 := Lib.hid (XV.out.below b7.out)
                  have k7a := Lib.hid (tc_below CV.out LV.out b7.out)
                  have Z7 : Hid (BmAt (W2.alloc ZdO).drew W2.heap.size noBr (.slice none 0 0)) := Lib.hid ((zd_at W2).below (Below.refl _ _).drew)
                  have n7 : bk ≠ W2.heap.size := Nat.ne_of_lt LV.out
                  go_cut [15, 16] (fun s t W => FCm W2 y E s t W)
                  case first =>
                    go_region_held3 (fun V => V.cell? ⟨bk, o, none⟩ = some (.string (bs work)) ∧ V.cell? ⟨bk, o + k, none⟩ = some (.string (bs nm)))
                      (first | (with_reducible exact k7.out) | (with_reducible exact k8.out) | (with_reducible exact k7a.out) | (with_reducible exact tc_alloc k8.out l8k.out _) | (with_reducible exact tc_set k8.out n7 y _) | fail)
                      (first
                        | (go_at_call 15; ((with_reducible refine (two_search D7.out LM.out X7.out HO.out rfl hwl hnl HFm.out).mono ?_); rintro e w8 ⟨a8, c8, rfl, r8, b8⟩; have R8 := Lib.hid r8; have B8 : Hid (Below W2.heap.size W2 w8) := Lib.hid ((Below.refl _ _).drew.trans b8); have l8k := Lib.hid (Nat.lt_of_lt_of_le LV.out B8.out.size); have k8 := Lib.hid (tc_below CV.out LV.out B8.out); clear r8 b8))
                        | (go_at_call 15; ((with_reducible refine (two_search E7.out LM.out Y7.out HO.out rfl hwl hnl HFm.out).mono ?_); rintro e w8 ⟨a8, c8, rfl, r8, b8⟩; have R8 := Lib.hid r8; have B8 : Hid (Below W2.heap.size W2 w8) := Lib.hid (bel2 b7.out b8); have l8k := Lib.hid (Nat.lt_of_lt_of_le LV.out B8.out.size); have k8 := Lib.hid (tc_below CV.out LV.out B8.out); have Z8 := Lib.hid (Z7.out.below b8); obtain ⟨x0, x1, x2, x3, x4, x5, x6, x7, x8', x9⟩ := Z8.out.cell; have f8 := Z8.out.fz; have l8 := Z8.out.lt; clear r8 b8)))
                    all_goals
                      go_wp2
                      go_meet
                    all_goals first
                      | (with_reducible exact fcm_new B8.out R8.out)
                      | exact fcm_set Z8.out (Nat.le_refl _) B8.out R8.out
                  case rest =>
                  obtain ⟨k2, a2', c2', rfl, rfl, x2, r2, b2⟩ := hcut
                  have BS : Hid (DelS wc k1 k2 y a1 a2' c1 c2') := Lib.hid ⟨X1.out.below b2, x2, R1.out.below b2, r2⟩
                  have BN := Lib.hid (bel2 BU.out b2)
                  clear D7 X7 k7 b7 E7 Y7 k7a Z7 n7 x2 r2 b2 TV XV CV LV HF HFm
                  go_wp2
                  go_upto_region 29 with (fail)
                  have BS := Lib.hid (BS.out.below (Below.refl _ _).drew)
                  have BN := Lib.hid BN.out.drew
                  go_region_held3 (fun W => (W.cell? ⟨k1, 0, none⟩ = some (.int .i64 y.kind) ∧ W.cell? ⟨k1, 1, none⟩ = some (.int .i64 y.uid) ∧ W.cell? ⟨k1, 2, none⟩ = some (.int .i64 y.dir) ∧ W.cell? ⟨k1, 3, none⟩ = some (.string (bs y.link)) ∧ W.cell? ⟨k1, 4, none⟩ = some (.bool y.obj) ∧ W.cell? ⟨k1, 5, none⟩ = some (.slice a1 y.acl.length c1) ∧ W.cell? ⟨k1, 6, none⟩ = some (.int .i64 y.r1) ∧ W.cell? ⟨k1, 7, none⟩ = some (.int .i64 y.r2) ∧ W.cell? ⟨k1, 8, none⟩ = some (.int .i64 y.r3) ∧ W.cell? ⟨k1, 9, none⟩ = some (.int .i64 y.gt)) ∧ (W.cell? ⟨k2, 0, none⟩ = some (.int .i64 y.kind) ∧ W.cell? ⟨k2, 1, none⟩ = some (.int .i64 y.uid) ∧ W.cell? ⟨k2, 2, none⟩ = some (.int .i64 y.dir) ∧ W.cell? ⟨k2, 3, none⟩ = some (.string (bs y.link)) ∧ W.cell? ⟨k2, 4, none⟩ = some (.bool y.obj) ∧ W.cell? ⟨k2, 5, none⟩ = some (.slice a2' y.acl.length c2') ∧ W.cell? ⟨k2, 6, none⟩ = some (.int .i64 y.r1) ∧ W.cell? ⟨k2, 7, none⟩ = some (.int .i64 y.r2) ∧ W.cell? ⟨k2, 8, none⟩ = some (.int .i64 y.r3) ∧ W.cell? ⟨k2, 9, none⟩ = some (.int .i64 y.gt)))
                    (exact BS.out.cells)
                    (first
                      | (go_at_call 17; ((refine (model_any y _ _ _).mono ?_); rintro e w8 ⟨rfl, b8⟩; have BS := Lib.hid (BS.out.below b8); have BN := Lib.hid (bel2 BN.out b8); clear b8))
                      | (go_at_call 16; ((refine (sameBr_yes y BS.out.q1 BS.out.q2 hacl).mono ?_); rintro e w9 ⟨rfl, b9⟩; have BS := Lib.hid (BS.out.below b9); have BN := Lib.hid (bel2 BN.out b9); clear b9)))
                  all_goals
                    go_wp2
                    go_roundw
                    case rel => exact ⟨f + 1, by omega, by omega, by go_num, BN⟩
                    case measure => simp [intOf]; omega
                · obtain rfl : f = 4 := by omega
                  go_wp2
                  go_roundw
                  case rel => exact ⟨k + 1, by omega, by omega, by go_num, Lib.hid (bel2 hV.out hU.out)⟩
                  case measure => simp [intOf]; omega
            · obtain rfl : k = qs.length := by omega
              go_wp2
              go_ret
              exact ⟨rfl, bel2 BW7.out hV.out⟩
end

theorem finds_walk {w : World} (hg : Glob w) {a : Option Addr} {c : Nat} {l : List DD} (h : DRow w a c l) (hin : ∀ p ∈ l, DIn w p) {a' : Option Addr} {c' : Nat} {x : List Ru} (hr : G.Row kR w a' c' x) (hx : ∀ r ∈ x, r.Ok) {a2 : Option Addr} {c2 : Nat} {qs : List Txt} (hq : Row w a2 c2 qs) (hql : ∀ q ∈ qs, q.length ≤ maxLen) :
    Calls Tryd.prog 3 #[.slice a l.length c, .slice a' x.length c', .slice a2 qs.length c2] w fun e w' => e = .returned (.bool true) ∧ Below w.heap.size w w' := by
  cases hsm : smallB l with
  | false => exact finds_small hg h hsm
  | true =>
    by_cases h8 : x.length ≤ 40
    case neg => exact finds_many hg h hsm (by omega)
    by_cases h1 : 1 ≤ qs.length
    case neg => exact finds_few hg h hsm h8 (by omega)
    by_cases h20 : qs.length ≤ 20
    case neg => exact finds_asks hg h hsm h8 (by omega)
    obtain ⟨bk, o, rfl, _⟩ := hq.at_ (k := 0) (by omega)
    exact finds_main hg h hin hr hx hq hql hsm h8 h1 h20

end Go.Proofs.YtpcdcmoapenbdaaDoor.T
