/-
  The law RulesFirst answers true: what one rule after another finds; the ways out early.
  The law RulesFirst answers true: the way through.
-/
import Derived.Test.YtpcdcmoapenbdaaDoorRuCuts
import Derived.Test.YtpcdcmoapenbdaaDoorWTexts
namespace Go.Proofs.YtpcdcmoapenbdaaDoor.T
open Go.ChangeShapes Go.WideShapes Go.ChangeAt Go.RowKit
open Go.Proofs.YtpcdcmoapenbdaaDoor.N (bs bs_data bs_size bs_inj bs_of Glob Row)
open Go.Proofs.YtpcdcmoapenbdaaDoor.A (Tm TRow)

/-- what is known of the whole search behind so many rules that found nothing alone -/
def Left (L : Int → Txt → Option Br) (work s : Txt) (x : List Ru) (k : Nat) (R : Int × Br) : Prop := N.may 32 s = false ∧ R = (3, noBr) ∨ N.may 32 s = true ∧ srch L work 0 s (x.drop k) = R
theorem left_start {L : Int → Txt → Option Br} {work s : Txt} {x : List Ru} {R : Int × Br} (hm : mayR x = true) (hR : findR L x work 0 s = R) : Left L work s x 0 R := by
  unfold findR at hR
  rw [if_pos hm] at hR
  cases h : N.may 32 s with
  | true => rw [h, if_pos rfl] at hR; exact Or.inr ⟨h, hR⟩
  | false => rw [h, if_neg (by simp)] at hR; exact Or.inl ⟨h, hR.symm⟩
theorem may_one {x : List Ru} (hm : mayR x = true) {k : Nat} (hk : k < x.length) : mayR [x[k]] = true := by
  simp only [mayR, Bool.and_eq_true, List.all_eq_true] at hm ⊢
  exact ⟨by simp, fun r hr => by rw [List.mem_singleton.1 hr]; exact hm.2 _ (List.getElem_mem hk)⟩
theorem left_step {L : Int → Txt → Option Br} {work s : Txt} {x : List Ru} {R : Int × Br} (hm : mayR x = true) {k : Nat} (hk : k < x.length) (h : Left L work s x k R) {E : Int} {y : Br} (h1 : findR L [x[k]] work 0 s = (E, y)) : E = 0 ∧ R = (0, y) ∨ ¬ E = 0 ∧ Left L work s x (k + 1) R := by
  unfold findR at h1
  rw [if_pos (may_one hm hk)] at h1
  rcases h with ⟨h2, h3⟩ | ⟨h2, h3⟩
  · rw [h2, if_neg (by simp)] at h1
    cases h1
    exact Or.inr ⟨by omega, Or.inl ⟨h2, h3⟩⟩
  · rw [h2, if_pos rfl] at h1
    simp only [srch] at h1
    cases hh : hit L work 0 s x[k] with
    | some z =>
      rw [hh] at h1
      cases h1
      exact Or.inl ⟨rfl, srch_some hk h3 hh⟩
    | none =>
      rw [hh] at h1
      cases h1
      exact Or.inr ⟨by omega, Or.inr ⟨h2, srch_none hk h3 hh⟩⟩
theorem left_end {L : Int → Txt → Option Br} {work s : Txt} {x : List Ru} {R : Int × Br} (h : Left L work s x x.length R) : ¬ R.1 = 0 ∧ R.2.kind = 0 := by
  rcases h with ⟨_, rfl⟩ | ⟨_, h3⟩
  · exact ⟨by simp, rfl⟩
  · rw [srch_end h3]
    exact ⟨by simp, rfl⟩

section
variable {w : World} {a : Option Addr} {c : Nat} {l : List DD} {a' : Option Addr} {c' : Nat} {x : List Ru} {a2 : Option Addr} {c2 : Nat} {qs : List Txt}

set_option maxHeartbeats 1000000 in
set_option maxRecDepth 8000 in
theorem first_small (hg : Glob w) (h : DRow w a c l) (hr : G.Row kR w a' c' x) (hx : ∀ r ∈ x, r.Ok) (hq : Row w a2 c2 qs) (hsm : smallB l = false) :
    Calls Tryd.prog 5 #[.slice a l.length c, .slice a' x.length c', .slice a2 qs.length c2] w fun e w' => e = .returned (.bool true) ∧ Below w.heap.size w w' := by
  have HG := Lib.hid hg
  have HR := Lib.hid h
  have HX := Lib.hid hr
  have HO := Lib.hid hx
  have HQ := Lib.hid hq
  have HS := Lib.hid hsm
  clear hsm
  clear hg h hr hx hq
  go_enter Tryd.func5, Tryd.ntmps5
  go_wp2_with (first
    | (go_at_call 7; ((refine (awake14_any HG.out).mono ?_); rintro e w1 ⟨rfl, b1⟩; have B1 := Lib.hid b1; clear b1))
    | (go_at_call 8; ((refine (small7_is (HR.out.below B1.out) HS.out).mono ?_); rintro e w2 ⟨rfl, rfl⟩)))
  go_ret
  exact ⟨rfl, B1.out⟩

set_option maxHeartbeats 1000000 in
set_option maxRecDepth 8000 in
theorem first_many (hg : Glob w) (h : DRow w a c l) (hr : G.Row kR w a' c' x) (hx : ∀ r ∈ x, r.Ok) (hq : Row w a2 c2 qs) (hsm : smallB l = true) (h8 : 8 < x.length) :
    Calls Tryd.prog 5 #[.slice a l.length c, .slice a' x.length c', .slice a2 qs.length c2] w fun e w' => e = .returned (.bool true) ∧ Below w.heap.size w w' := by
  have HG := Lib.hid hg
  have HR := Lib.hid h
  have HX := Lib.hid hr
  have HO := Lib.hid hx
  have HQ := Lib.hid hq
  have HS := Lib.hid hsm
  have e1 : decide ((8 : Int) < (x.length : Int)) = true := by simp; omega
  clear hsm h8
  clear hg h hr hx hq
  go_enter Tryd.func5, Tryd.ntmps5
  go_wp2_with (first
    | (go_at_call 7; ((refine (awake14_any HG.out).mono ?_); rintro e w1 ⟨rfl, b1⟩; have B1 := Lib.hid b1; clear b1))
    | (go_at_call 8; ((refine (small7_is (HR.out.below B1.out) HS.out).mono ?_); rintro e w2 ⟨rfl, rfl⟩)))
  go_ret
  exact ⟨rfl, B1.out⟩

set_option maxHeartbeats 1000000 in
set_option maxRecDepth 8000 in
theorem first_asks (hg : Glob w) (h : DRow w a c l) (hr : G.Row kR w a' c' x) (hx : ∀ r ∈ x, r.Ok) (hq : Row w a2 c2 qs) (hsm : smallB l = true) (h8 : x.length ≤ 8) (h2 : ¬ qs.length = 2) :
    Calls Tryd.prog 5 #[.slice a l.length c, .slice a' x.length c', .slice a2 qs.length c2] w fun e w' => e = .returned (.bool true) ∧ Below w.heap.size w w' := by
  have HG := Lib.hid hg
  have HR := Lib.hid h
  have HX := Lib.hid hr
  have HO := Lib.hid hx
  have HQ := Lib.hid hq
  have HS := Lib.hid hsm
  have e1 : decide ((8 : Int) < (x.length : Int)) = false := by simp; omega
  have e2 : ((qs.length : Int) != 2) = true := by simp; omega
  clear hsm h8 h2
  clear hg h hr hx hq
  go_enter Tryd.func5, Tryd.ntmps5
  go_wp2_with (first
    | (go_at_call 7; ((refine (awake14_any HG.out).mono ?_); rintro e w1 ⟨rfl, b1⟩; have B1 := Lib.hid b1; clear b1))
    | (go_at_call 8; ((refine (small7_is (HR.out.below B1.out) HS.out).mono ?_); rintro e w2 ⟨rfl, rfl⟩)))
  go_ret
  exact ⟨rfl, B1.out⟩

end

section
variable {w : World} {a : Option Addr} {c : Nat} {l : List DD} {a' : Option Addr} {c' : Nat} {x : List Ru} {bk o : Nat} {c2 : Nat} {work nm : Txt}

theorem one_of {V : World} {bx ox cx : Nat} (h : G.Row kR V (some ⟨bx, ox, none⟩) cx x) {k : Nat} (hk : k < x.length) : G.Row kR V (some ⟨bx, ox + k * 2, none⟩) (cx - k) [x[k]] := by
  have h2 := (h.drop k (by omega)).take 1
  have e : (x.drop k).take 1 = [x[k]] := by
    rw [List.drop_eq_getElem_cons hk]
    rfl
  rw [e] at h2
  exact h2
theorem two_cells {V : World} (hq : Row V (some ⟨bk, o, none⟩) c2 [work, nm]) : bk < V.heap.size ∧ TC V bk o (o + 1) work nm := by
  obtain ⟨bk', o', e, hl, h0⟩ := hq.at_ (k := 0) (by simp)
  cases e
  obtain ⟨bk', o', e, _, h1⟩ := hq.at_ (k := 1) (by simp)
  cases e
  exact ⟨hl, h0, h1⟩

set_option maxHeartbeats 1000000 in
set_option maxRecDepth 8000 in
theorem first_work (hg : Glob w) (h : DRow w a c l) (hr : G.Row kR w a' c' x) (hx : ∀ r ∈ x, r.Ok) (hq : Row w (some ⟨bk, o, none⟩) c2 [work, nm]) (hsm : smallB l = true) (h8 : x.length ≤ 8) (h4 : 400 < (bs work).size) :
    Calls Tryd.prog 5 #[.slice a l.length c, .slice a' x.length c', .slice (some ⟨bk, o, none⟩) 2 c2] w fun e w' => e = .returned (.bool true) ∧ Below w.heap.size w w' := by
  have HG := Lib.hid hg
  have HR := Lib.hid h
  have HX := Lib.hid hr
  have HO := Lib.hid hx
  have HQ := Lib.hid hq
  have HS := Lib.hid hsm
  have e1 : decide ((8 : Int) < (x.length : Int)) = false := by simp; omega
  obtain ⟨hbk, q0, q1⟩ := two_cells hq
  have e2 : decide ((400 : Int) < ((bs work).size : Int)) = true := by simp; omega
  clear hsm h8 h4
  clear hg h hr hx hq
  go_enter Tryd.func5, Tryd.ntmps5
  go_wp2_with (first
    | (go_at_call 7; ((refine (awake14_any HG.out).mono ?_); rintro e w1 ⟨rfl, b1⟩; have B1 := Lib.hid b1; have p0 := (b1.cell (p := ⟨bk, o, none⟩) hbk).trans q0; have p1 := (b1.cell (p := ⟨bk, o + 1, none⟩) hbk).trans q1; have hbk1 := Nat.lt_of_lt_of_le hbk b1.size; clear b1))
    | (go_at_call 8; ((refine (small7_is (HR.out.below B1.out) HS.out).mono ?_); rintro e w2 ⟨rfl, rfl⟩)))
  go_ret
  exact ⟨rfl, B1.out⟩

set_option maxHeartbeats 1000000 in
set_option maxRecDepth 8000 in
theorem first_name (hg : Glob w) (h : DRow w a c l) (hr : G.Row kR w a' c' x) (hx : ∀ r ∈ x, r.Ok) (hq : Row w (some ⟨bk, o, none⟩) c2 [work, nm]) (hsm : smallB l = true) (h8 : x.length ≤ 8) (h4 : (bs work).size ≤ 400) (h5 : 200 < (bs nm).size) :
    Calls Tryd.prog 5 #[.slice a l.length c, .slice a' x.length c', .slice (some ⟨bk, o, none⟩) 2 c2] w fun e w' => e = .returned (.bool true) ∧ Below w.heap.size w w' := by
  have HG := Lib.hid hg
  have HR := Lib.hid h
  have HX := Lib.hid hr
  have HO := Lib.hid hx
  have HQ := Lib.hid hq
  have HS := Lib.hid hsm
  have e1 : decide ((8 : Int) < (x.length : Int)) = false := by simp; omega
  obtain ⟨hbk, q0, q1⟩ := two_cells hq
  have e2 : decide ((400 : Int) < ((bs work).size : Int)) = false := by simp; omega
  have e3 : decide ((200 : Int) < ((bs nm).size : Int)) = true := by simp; omega
  clear hsm h8 h4 h5
  clear hg h hr hx hq
  go_enter Tryd.func5, Tryd.ntmps5
  go_wp2_with (first
    | (go_at_call 7; ((refine (awake14_any HG.out).mono ?_); rintro e w1 ⟨rfl, b1⟩; have B1 := Lib.hid b1; have p0 := (b1.cell (p := ⟨bk, o, none⟩) hbk).trans q0; have p1 := (b1.cell (p := ⟨bk, o + 1, none⟩) hbk).trans q1; have hbk1 := Nat.lt_of_lt_of_le hbk b1.size; clear b1))
    | (go_at_call 8; ((refine (small7_is (HR.out.below B1.out) HS.out).mono ?_); rintro e w2 ⟨rfl, rfl⟩)))
  go_ret
  exact ⟨rfl, B1.out⟩

set_option maxHeartbeats 1000000 in
set_option maxRecDepth 8000 in
theorem first_may (hg : Glob w) (h : DRow w a c l) (hr : G.Row kR w a' c' x) (hx : ∀ r ∈ x, r.Ok) (hq : Row w (some ⟨bk, o, none⟩) c2 [work, nm]) (hsm : smallB l = true) (h8 : x.length ≤ 8) (h4 : (bs work).size ≤ 400) (h5 : (bs nm).size ≤ 200) (hm : mayR x = false) :
    Calls Tryd.prog 5 #[.slice a l.length c, .slice a' x.length c', .slice (some ⟨bk, o, none⟩) 2 c2] w fun e w' => e = .returned (.bool true) ∧ Below w.heap.size w w' := by
  have HG := Lib.hid hg
  have HR := Lib.hid h
  have HX := Lib.hid hr
  have HO := Lib.hid hx
  have HQ := Lib.hid hq
  have HS := Lib.hid hsm
  have e1 : decide ((8 : Int) < (x.length : Int)) = false := by simp; omega
  obtain ⟨hbk, q0, q1⟩ := two_cells hq
  have e2 : decide ((400 : Int) < ((bs work).size : Int)) = false := by simp; omega
  have e3 : decide ((200 : Int) < ((bs nm).size : Int)) = false := by simp; omega
  have HM := Lib.hid hm
  clear hsm h8 h4 h5 hm
  clear hg h hr hx hq
  go_enter Tryd.func5, Tryd.ntmps5
  go_wp2_with (first
    | (go_at_call 7; ((refine (awake14_any HG.out).mono ?_); rintro e w1 ⟨rfl, b1⟩; have B1 := Lib.hid b1; have p0 := (b1.cell (p := ⟨bk, o, none⟩) hbk).trans q0; have p1 := (b1.cell (p := ⟨bk, o + 1, none⟩) hbk).trans q1; have hbk1 := Nat.lt_of_lt_of_le hbk b1.size; clear b1))
    | (go_at_call 8; ((refine (small7_is (HR.out.below B1.out) HS.out).mono ?_); rintro e w2 ⟨rfl, rfl⟩))
    | (go_at_call 13; ((refine (refRules_any (HX.out.below B1.out) HO.out rfl HM.out).mono ?_); rintro e w3 ⟨rfl, b3⟩; have B3 := Lib.hid (bel2 B1.out b3); clear b3)))
  go_ret
  exact ⟨rfl, B3.out⟩

end

end Go.Proofs.YtpcdcmoapenbdaaDoor.T

namespace Go.Proofs.YtpcdcmoapenbdaaDoor.T
open Go.ChangeShapes Go.WideShapes Go.ChangeAt Go.RowKit
open Go.Proofs.YtpcdcmoapenbdaaDoor.N (bs bs_data bs_size bs_inj bs_of Glob Row)
open Go.Proofs.YtpcdcmoapenbdaaDoor.A (Tm TRow)

section
variable {w : World} {a : Option Addr} {c : Nat} {l : List DD} {a' : Option Addr} {c' : Nat} {x : List Ru} {bk o : Nat} {c2 : Nat} {work nm : Txt}

set_option maxHeartbeats 4000000 in
set_option maxRecDepth 20000 in
theorem first_main (hg : Glob w) (h : DRow w a c l) (hr : G.Row kR w a' c' x) (hx : ∀ r ∈ x, r.Ok) (hq : Row w (some ⟨bk, o, none⟩) c2 [work, nm]) (hin : ∀ p ∈ l, DIn w p) (hsm : smallB l = true) (h8 : x.length ≤ 8) (h4 : (bs work).size ≤ 400) (h5 : (bs nm).size ≤ 200) (hm : mayR x = true) :
    Calls Tryd.prog 5 #[.slice a l.length c, .slice a' x.length c', .slice (some ⟨bk, o, none⟩) 2 c2] w fun e w' => e = .returned (.bool true) ∧ Below w.heap.size w w' := by
  have HG := Lib.hid hg
  have HR := Lib.hid h
  have HX := Lib.hid hr
  have HO := Lib.hid hx
  have HQ := Lib.hid hq
  have HI := Lib.hid hin
  have HS := Lib.hid hsm
  have e1 : decide ((8 : Int) < (x.length : Int)) = false := by simp; omega
  obtain ⟨hbk, q0, q1⟩ := two_cells hq
  have e2 : decide ((400 : Int) < ((bs work).size : Int)) = false := by simp; omega
  have e3 : decide ((200 : Int) < ((bs nm).size : Int)) = false := by simp; omega
  have HM := Lib.hid hm
  obtain ⟨hl121, hsd⟩ := small_yes hsm
  have HD := Lib.hid hsd
  have hwl : work.length ≤ maxLen := by rw [bs_size] at h4; unfold maxLen; omega
  have hnl : nm.length ≤ maxLen := by rw [bs_size] at h5; unfold maxLen; omega
  clear hg h hr hx hq hin hsm h4 h5 hm hsd
  go_enter Tryd.func5, Tryd.ntmps5
  go_wp2_with (first
    | (go_at_call 7; ((refine (awake14_any HG.out).mono ?_); rintro e w1 ⟨rfl, b1⟩; have B1 := Lib.hid b1; have p0 := (b1.cell (p := ⟨bk, o, none⟩) hbk).trans q0; have p1 := (b1.cell (p := ⟨bk, o + 1, none⟩) hbk).trans q1; have hbk1 := Nat.lt_of_lt_of_le hbk b1.size; clear b1))
    | (go_at_call 8; ((refine (small7_is (HR.out.below B1.out) HS.out).mono ?_); rintro e w2 ⟨rfl, rfl⟩))
    | (go_at_call 13; ((refine (refRules_any (HX.out.below B1.out) HO.out rfl HM.out).mono ?_); rintro e w3 ⟨rfl, b3⟩; have B3 := Lib.hid (bel2 B1.out b3); clear b3))
    | (go_at_call 9; ((refine (new_at w3).mono ?_); rintro e w4 ⟨rfl, t2, b2, l2⟩; have T2 := Lib.hid t2; have B2 := Lib.hid b2; have L2 := Lib.hid l2; clear t2 b2 l2))
    | (go_at_call 10; ((refine (mnew_at w4).mono ?_); rintro e w5 ⟨bm, Fm, rfl, m3, b3, f3, l3⟩; have PL := Lib.hid (two_new T2.out B2.out L2.out m3 b3 f3); clear m3 b3 f3 l3)))
  have HR1 := Lib.hid (HR.out.below B3.out)
  have HG1 := Lib.hid (HG.out.below B3.out)
  have HX1 := Lib.hid (HX.out.below B3.out)
  have HQ1 := Lib.hid (HQ.out.below B3.out)
  clear HR T2 B2 L2 HX HQ p0 p1 hbk1 q0 q1 hbk HG
  go_loopw [9] (fun i V => ∃ k : Nat, k ≤ l.length ∧ i = .int .i64 k ∧ Hid (Played w3 w3.heap.size bm k V)) (fun i _ => l.length - (intOf i).toNat)
  case atStart => exact ⟨0, Nat.zero_le _, rfl, PL⟩
  case round =>
    clear PL
    obtain ⟨k, hk, rfl, hP⟩ := hrel
    by_cases hlt : k < l.length
    · have hmem := List.getElem_mem hlt
      have OK := Lib.hid (ok_of (HI.out _ hmem) (HD.out _ hmem))
      have TR := Lib.hid ((HI.out _ hmem).1.below B3.out)
      obtain ⟨bk', o', rfl, hbk', hlc, c0, c1, c2', c3, c4, c5, c6, c7, c8, c9, c10, c11, c12, c13⟩ := (HR1.out.below hP.out.bel).at_ hlt
      go_wp2_with (go_at_call 11; ((refine (hP.out.do_ (by omega) HG1.out OK.out TR.out).mono ?_); rintro e w6 ⟨rfl, p4⟩; have P4 := Lib.hid p4; clear p4))
      go_roundw
      case rel => exact ⟨k + 1, by omega, by go_num, P4⟩
      case measure => simp [intOf]; omega
    · obtain rfl : k = l.length := by omega
      obtain ⟨cn, st, m, t, I⟩ := hP.out
      have TW := Lib.hid t
      have LK := Lib.hid I.lt
      have BW := Lib.hid (bel2 B3.out t.bel)
      have XW := Lib.hid (HX1.out.below t.bel)
      have QW := Lib.hid (HQ1.out.below t.bel)
      have AC := Lib.hid (lk_acl t)
      clear t hP I HX1 HQ1 HR1 HI HD hk hlt
      obtain ⟨E, y, hR⟩ : ∃ E y, findR (lk st) x work 0 nm = (E, y) := ⟨_, _, rfl⟩
      have HF := Lib.hid hR
      have LF := Lib.hid (left_start HM.out hR)
      have hacl := findR_acl AC.out hR
      clear hR
      go_upto_region 12 with (fail)
      have C0 := Lib.hid (two_cells QW.out)
      have D7 := Lib.hid TW.out.drew
      have X7 := Lib.hid (XW.out.below (Below.refl _ _).drew)
      have k7 := Lib.hid (tc_below C0.out.2 C0.out.1 (Below.refl _ _).drew)
      have b7 : Hid (Below wr.heap.size wr (wr.alloc ZbO).drew) := Lib.hid (one_new _ _).drew
      have E7 := Lib.hid (TW.out.below b7.out)
      have Y7 := Lib.hid (XW.out.below b7.out)
      have k7a := Lib.hid (tc_below C0.out.2 C0.out.1 b7.out)
      have Z7 : Hid (BrAt (wr.alloc ZbO).drew wr.heap.size noBr (.slice none 0 0)) := Lib.hid ((zb_at wr).below (Below.refl _ _).drew)
      have n7 : bk ≠ wr.heap.size := Nat.ne_of_lt C0.out.1
      go_cut [10, 11] (fun s t W => FC wr y E s t W)
      case first =>
        go_region_held3 (fun V => V.cell? ⟨bk, o, none⟩ = some (.string (bs work)) ∧ V.cell? ⟨bk, o + 1, none⟩ = some (.string (bs nm)))
          (first | (with_reducible exact k7.out) | (with_reducible exact k8.out) | (with_reducible exact k7a.out) | (with_reducible exact tc_alloc k8.out l8k.out _) | (with_reducible exact tc_set k8.out n7 y _) | fail)
          (first
            | (go_at_call 14; ((with_reducible refine (two_rules D7.out LK.out HG1.out X7.out HO.out rfl hwl rng0 hnl HF.out).mono ?_); rintro e w8 ⟨a8, c8, rfl, r8, b8⟩; have R8 := Lib.hid r8; have B8 : Hid (Below wr.heap.size wr w8) := Lib.hid ((Below.refl _ _).drew.trans b8); have l8k := Lib.hid (Nat.lt_of_lt_of_le C0.out.1 B8.out.size); have k8 := Lib.hid (tc_below C0.out.2 C0.out.1 B8.out); clear r8 b8))
            | (go_at_call 14; ((with_reducible refine (two_rules E7.out LK.out HG1.out Y7.out HO.out rfl hwl rng0 hnl HF.out).mono ?_); rintro e w8 ⟨a8, c8, rfl, r8, b8⟩; have R8 := Lib.hid r8; have B8 : Hid (Below wr.heap.size wr w8) := Lib.hid (bel2 b7.out b8); have l8k := Lib.hid (Nat.lt_of_lt_of_le C0.out.1 B8.out.size); have k8 := Lib.hid (tc_below C0.out.2 C0.out.1 B8.out); have Z8 := Lib.hid (Z7.out.below b8); obtain ⟨x0, x1, x2, x3, x4, x5, x6, x7, x8', x9⟩ := Z8.out.cell; have f8 := Z8.out.fz; have l8 := Z8.out.lt; clear r8 b8)))
        all_goals
          go_wp2
          go_meet
        all_goals first
          | (with_reducible exact fc_new B8.out R8.out)
          | exact fc_set Z8.out (Nat.le_refl _) B8.out R8.out
      case rest =>
        obtain ⟨W1, hW1⟩ : ∃ W1, W1 = wc := ⟨_, rfl⟩
        subst hW1
        obtain ⟨k1, a1, c1, rfl, rfl, x1, r1, b1⟩ := hcut
        have X1 := Lib.hid x1
        have R1 := Lib.hid r1
        have TC1 := Lib.hid (TW.out.below b1)
        have BC := Lib.hid (bel2 BW.out b1)
        have XC := Lib.hid (XW.out.below b1)
        have CC := Lib.hid (tc_below C0.out.2 C0.out.1 b1)
        have LC := Lib.hid (Nat.lt_of_lt_of_le C0.out.1 b1.size)
        clear x1 r1 b1 D7 X7 k7 b7 E7 Y7 k7a Z7 n7 C0 TW BW XW QW HF
        go_wp2
        go_loopw [12] (fun i V => ∃ k : Nat, k ≤ x.length ∧ i = .int .i64 k ∧ Hid (Left (lk st) work nm x k (E, y)) ∧ Hid (Below W1.heap.size W1 V)) (fun i _ => x.length - (intOf i).toNat)
        case atStart => exact ⟨0, Nat.zero_le _, rfl, LF, Lib.hid (Below.refl _ _)⟩
        case round =>
          clear LF
          obtain ⟨k, hk, rfl, hLF, hB⟩ := hrel
          by_cases hlt : k < x.length
          · obtain ⟨bx, ox, rfl, hbx, _, _⟩ := row_rule XC.out hlt
            have hcap := XC.out.1
            have XK := Lib.hid (one_of XC.out hlt)
            have OK1 : Hid (∀ r ∈ [x[k]], r.Ok) := Lib.hid (fun r hr => by rw [List.mem_singleton.1 hr]; exact HO.out _ (List.getElem_mem hlt))
            obtain ⟨E1, y1, hR1⟩ : ∃ E1 y1, findR (lk st) [x[k]] work 0 nm = (E1, y1) := ⟨_, _, rfl⟩
            have HF1 := Lib.hid hR1
            have hstep := left_step HM.out hlt hLF.out hR1
            clear hR1
            have TV := Lib.hid (TC1.out.below hB.out)
            have XV := Lib.hid (XK.out.below hB.out)
            have CV := Lib.hid (tc_below CC.out LC.out hB.out)
            have LV := Lib.hid (Nat.lt_of_lt_of_le LC.out hB.out.size)
            have D7 := Lib.hid TV.out.drew
            have X7 := Lib.hid (XV.out.below (Below.refl _ _).drew)
            have k7 := Lib.hid (tc_below CV.out LV.out (Below.refl _ _).drew)
            have b7 : Hid (Below wr.heap.size wr (wr.alloc ZbO).drew) := Lib.hid (one_new _ _).drew
            have E7 := Lib.hid (TV.out.below b7.out)
            have Y7 := Lib.hid (XV.out.below b7.out)
            have k7a := Lib.hid (tc_below CV.out LV.out b7.out)
            have Z7 : Hid (BrAt (wr.alloc ZbO).drew wr.heap.size noBr (.slice none 0 0)) := Lib.hid ((zb_at wr).below (Below.refl _ _).drew)
            have n7 : bk ≠ wr.heap.size := Nat.ne_of_lt LV.out
            have s0 : (0 : Int) ≤ (k : Int) := by omega
            have s1 : (k : Int) ≤ (k : Int) + 1 := by omega
            have s2 : (k : Int) + 1 ≤ (c' : Int) := by omega
            have s3 : ((k : Int) + 1).toNat = k + 1 := by omega
            have s4 : IntKind.i64.wrap ((k : Int) + 1) = (k : Int) + 1 := IntWalk.i64_in _ (by omega)
            have s5 : ¬ c' = k := by omega
            have s6 : ¬ k = c' := by omega
            have s7 : ¬ c' - k = 0 := by omega
            go_wp2
            go_cut [13, 14] (fun s t W => FC wr y1 E1 s t W)
            case first =>
              go_region_held3 (fun V => V.cell? ⟨bk, o, none⟩ = some (.string (bs work)) ∧ V.cell? ⟨bk, o + 1, none⟩ = some (.string (bs nm)))
                (first | (with_reducible exact k7.out) | (with_reducible exact k8.out) | (with_reducible exact k7a.out) | (with_reducible exact tc_alloc k8.out l8k.out _) | (with_reducible exact tc_set k8.out n7 y1 _) | fail)
                (first
                  | (go_at_call 14; ((with_reducible refine (two_rules D7.out LK.out HG1.out X7.out OK1.out (n := 1) rfl hwl rng0 hnl HF1.out).mono ?_); rintro e w8 ⟨a8, c8, rfl, r8, b8⟩; have R8 := Lib.hid r8; have B8 : Hid (Below wr.heap.size wr w8) := Lib.hid ((Below.refl _ _).drew.trans b8); have l8k := Lib.hid (Nat.lt_of_lt_of_le LV.out B8.out.size); have k8 := Lib.hid (tc_below CV.out LV.out B8.out); clear r8 b8))
                  | (go_at_call 14; ((with_reducible refine (two_rules E7.out LK.out HG1.out Y7.out OK1.out (n := 1) rfl hwl rng0 hnl HF1.out).mono ?_); rintro e w8 ⟨a8, c8, rfl, r8, b8⟩; have R8 := Lib.hid r8; have B8 : Hid (Below wr.heap.size wr w8) := Lib.hid (bel2 b7.out b8); have l8k := Lib.hid (Nat.lt_of_lt_of_le LV.out B8.out.size); have k8 := Lib.hid (tc_below CV.out LV.out B8.out); have Z8 := Lib.hid (Z7.out.below b8); obtain ⟨x0, x1, x2, x3, x4, x5, x6, x7, x8', x9⟩ := Z8.out.cell; have f8 := Z8.out.fz; have l8 := Z8.out.lt; clear r8 b8)))
              all_goals
                go_wp2
                go_meet
              all_goals first
                | (with_reducible exact fc_new B8.out R8.out)
                | exact fc_set Z8.out (Nat.le_refl _) B8.out R8.out
            case rest =>
              obtain ⟨k2, a2', c2', rfl, rfl, x2, r2, b2⟩ := hcut
              have B2 := Lib.hid (bel2 hB.out b2)
              have BN := Lib.hid (bel2 BC.out B2.out)
              clear D7 X7 k7 b7 E7 Y7 k7a Z7 n7 TV XV CV LV s0 s1 s2 s3 s4 s5 s6 s7 hLF
              rcases hstep with ⟨rfl, hEy⟩ | ⟨hne, hL⟩
              · obtain ⟨rfl, rfl⟩ := Prod.mk.inj hEy
                have BS : Hid (BrS wc k2 k1 y a2' a1 c2' c1) := Lib.hid ⟨x2, X1.out.below B2.out, r2, R1.out.below B2.out⟩
                have eff : ((0 : Int) == 0) = true := rfl
                clear hEy x2 r2 b2 HF1
                go_upto_region 18 with (fail)
                have BS := Lib.hid (BS.out.below (Below.refl _ _).drew)
                have BN := Lib.hid BN.out.drew
                go_region_held3 (fun W => (W.cell? ⟨k2, 0, none⟩ = some (.int .i64 y.kind) ∧ W.cell? ⟨k2, 1, none⟩ = some (.int .i64 y.uid) ∧ W.cell? ⟨k2, 2, none⟩ = some (.int .i64 y.dir) ∧ W.cell? ⟨k2, 3, none⟩ = some (.string (bs y.link)) ∧ W.cell? ⟨k2, 4, none⟩ = some (.bool y.obj) ∧ W.cell? ⟨k2, 5, none⟩ = some (.slice a2' y.acl.length c2') ∧ W.cell? ⟨k2, 6, none⟩ = some (.int .i64 y.r1) ∧ W.cell? ⟨k2, 7, none⟩ = some (.int .i64 y.r2) ∧ W.cell? ⟨k2, 8, none⟩ = some (.int .i64 y.r3) ∧ W.cell? ⟨k2, 9, none⟩ = some (.int .i64 y.gt)) ∧ (W.cell? ⟨k1, 0, none⟩ = some (.int .i64 y.kind) ∧ W.cell? ⟨k1, 1, none⟩ = some (.int .i64 y.uid) ∧ W.cell? ⟨k1, 2, none⟩ = some (.int .i64 y.dir) ∧ W.cell? ⟨k1, 3, none⟩ = some (.string (bs y.link)) ∧ W.cell? ⟨k1, 4, none⟩ = some (.bool y.obj) ∧ W.cell? ⟨k1, 5, none⟩ = some (.slice a1 y.acl.length c1) ∧ W.cell? ⟨k1, 6, none⟩ = some (.int .i64 y.r1) ∧ W.cell? ⟨k1, 7, none⟩ = some (.int .i64 y.r2) ∧ W.cell? ⟨k1, 8, none⟩ = some (.int .i64 y.r3) ∧ W.cell? ⟨k1, 9, none⟩ = some (.int .i64 y.gt)))
                  (exact BS.out.cells)
                  (first
                    | (go_at_call 17; ((refine (model_any y _ _ _).mono ?_); rintro e w8 ⟨rfl, b8⟩; have BS := Lib.hid (BS.out.below b8); have BN := Lib.hid (bel2 BN.out b8); clear b8))
                    | (go_at_call 16; ((refine (sameBr_yes y BS.out.q1 BS.out.q2 hacl).mono ?_); rintro e w9 ⟨rfl, b9⟩; have BS := Lib.hid (BS.out.below b9); have BN := Lib.hid (bel2 BN.out b9); clear b9)))
                all_goals
                  go_wp2
                  go_ret
                  exact ⟨rfl, BN.out⟩
              · have e4 : (E1 != 0) = true := by simpa using hne
                have HL := Lib.hid hL
                clear hne hL x2 r2 b2
                go_wp2
                go_roundw
                case rel => exact ⟨k + 1, by omega, by go_num, HL, B2⟩
                case measure => simp [intOf]; omega
          · obtain rfl : k = x.length := by omega
            obtain ⟨h1, h2⟩ := left_end hLF.out
            have e4 : (E != 0) = true := by simpa using h1
            have e5 : (y.kind == 0) = true := by simpa using h2
            have XL := Lib.hid (X1.out.below hB.out)
            obtain ⟨z0, _⟩ := XL.out.cell
            have zl := XL.out.lt
            clear h1 h2
            go_wp2
            go_ret
            exact ⟨rfl, bel2 BC.out hB.out⟩
end

theorem two_of {qs : List Txt} (h : qs.length = 2) : ∃ s t, qs = [s, t] := by
  match qs, h with
  | [s, t], _ => exact ⟨s, t, rfl⟩

theorem first_walk {w : World} (hg : Glob w) {a : Option Addr} {c : Nat} {l : List DD} (h : DRow w a c l) (hin : ∀ p ∈ l, DIn w p) {a' : Option Addr} {c' : Nat} {x : List Ru} (hr : G.Row kR w a' c' x) (hx : ∀ r ∈ x, r.Ok) {a2 : Option Addr} {c2 : Nat} {qs : List Txt} (hq : Row w a2 c2 qs) :
    Calls Tryd.prog 5 #[.slice a l.length c, .slice a' x.length c', .slice a2 qs.length c2] w fun e w' => e = .returned (.bool true) ∧ Below w.heap.size w w' := by
  cases hsm : smallB l with
  | false => exact first_small hg h hr hx hq hsm
  | true =>
    by_cases h8 : x.length ≤ 8
    case neg => exact first_many hg h hr hx hq hsm (by omega)
    by_cases h2 : qs.length = 2
    case neg => exact first_asks hg h hr hx hq hsm h8 h2
    obtain ⟨work, nm, rfl⟩ := two_of h2
    obtain ⟨bk, o, rfl, _⟩ := hq.at_ (k := 0) (by simp)
    by_cases h4 : (bs work).size ≤ 400
    case neg => exact first_work hg h hr hx hq hsm h8 (by omega)
    by_cases h5 : (bs nm).size ≤ 200
    case neg => exact first_name hg h hr hx hq hsm h8 h4 (by omega)
    cases hm : mayR x with
    | false => exact first_may hg h hr hx hq hsm h8 h4 h5 hm
    | true => exact first_main hg h hr hx hq hin hsm h8 h4 h5 hm

end Go.Proofs.YtpcdcmoapenbdaaDoor.T
