/-
  Find of the program: it answers as the plain function findR.
-/
import Derived.Test.YtpcdcmoapenbdaaDoorRuCalls
namespace Go.Proofs.YtpcdcmoapenbdaaDoor.T
open Go.ChangeShapes Go.WideShapes Go.ChangeAt Go.RowKit
open Go.Proofs.YtpcdcmoapenbdaaDoor.N (bs bs_data bs_size bs_inj bs_of Glob retB)
open Go.Proofs.YtpcdcmoapenbdaaDoor.A (Tm TRow)

theorem fol_rn {L : Int → Txt → Option Br} (hL : ∀ d s y, L d s = some y → rng y.dir) : ∀ (n : Nat) (ps : List Txt) (x : Br), rng x.dir → rng (fol L n x ps).2.dir := by
  have h0 : rng noBr.dir := by unfold rng noBr; simp only; omega
  intro n
  induction n with
  | zero =>
    intro ps
    induction ps with
    | nil => exact fun x hx => by rw [fol_nil]; exact hx
    | cons p ps ih =>
      intro x hx
      by_cases hk : x.kind = 2
      · cases hl : L x.dir p with
        | none => rw [fol_none 0 hk hl]; exact h0
        | some y =>
          by_cases h3 : y.kind = 3
          · rw [fol_stop hk hl h3]; exact h0
          · rw [fol_on 0 hk hl h3]
            exact ih y (hL _ _ _ hl)
      · rw [fol_kind L 0 hk]; exact h0
  | succ n ihn =>
    intro ps
    induction ps with
    | nil => exact fun x hx => by rw [fol_nil]; exact hx
    | cons p ps ih =>
      intro x hx
      by_cases hk : x.kind = 2
      · cases hl : L x.dir p with
        | none => rw [fol_none (n + 1) hk hl]; exact h0
        | some y =>
          by_cases h3 : y.kind = 3
          · rw [fol_link hk hl h3]
            exact ihn _ (dirN 0) (by unfold rng dirN; simp only; omega)
          · rw [fol_on (n + 1) hk hl h3]
            exact ih y (hL _ _ _ hl)
      · rw [fol_kind L (n + 1) hk]; exact h0
theorem wDir_rn {L : Int → Txt → Option Br} (hL : ∀ d s y, L d s = some y → rng y.dir) {l : Txt} {D E : Int} (h : wDir L l = (D, E)) : rng D := by
  unfold wDir dirR at h
  have hr := fol_rn hL 8 (N.ps l) (dirN 0) rng0
  by_cases h1 : N.er l = 0
  · rw [if_pos h1] at h
    by_cases h2 : (fol L 8 (dirN 0) (N.ps l)).1 = 0
    · rw [if_pos h2] at h
      by_cases h3 : (fol L 8 (dirN 0) (N.ps l)).2.kind = 2
      · rw [if_pos h3] at h; cases h; exact hr
      · rw [if_neg h3] at h; cases h; exact rng0
    · rw [if_neg h2] at h; cases h; exact rng0
  · rw [if_neg h1] at h; cases h; exact rng0
theorem dirOf_rn {L : Int → Txt → Option Br} (hL : ∀ d s y, L d s = some y → rng y.dir) {r : Ru} {work : Txt} {fr : Int} (hf : rng fr) {D E : Int} (h : dirOf L r work fr = (D, E)) : rng D := by
  unfold dirOf at h
  by_cases h2 : r.kind = 2
  · rw [if_pos h2] at h; exact wDir_rn hL h
  rw [if_neg h2] at h
  by_cases h3 : r.kind = 3
  · rw [if_pos h3] at h; exact wDir_rn hL h
  rw [if_neg h3] at h
  cases h
  exact hf

/-- what Find has in memory: the box of its answer -/
structure Fb (w V : World) : Prop where
  one : BrAt V w.heap.size noBr (.slice none 0 0)
  bel : Below w.heap.size w V
theorem Fb.new (w : World) : Fb w (w.alloc (BrO noBr (.slice none 0 0))) := ⟨BrAt.new w noBr _, one_new _ _⟩
theorem Fb.below {w V V' : World} (h : Fb w V) (hb : Below V.heap.size V V') : Fb w V' := ⟨h.one.below hb, bel2 h.bel hb⟩
/-- found, in a box of its own -/
theorem Fb.found {w V w2 : World} (h : Fb w V) {y : Br} {a : Option Addr} {c : Nat} (ho : A.Own V.heap.size w2 (.slice a y.acl.length c) y.acl) (hb : Below V.heap.size V w2) :
    BrAt (setBr (w2.alloc (BrO y (.slice a y.acl.length c))) w.heap.size y (.slice a y.acl.length c)) w.heap.size y (.slice a y.acl.length c) ∧ A.Own w.heap.size (setBr (w2.alloc (BrO y (.slice a y.acl.length c))) w.heap.size y (.slice a y.acl.length c)) (.slice a y.acl.length c) y.acl ∧ Below w.heap.size w (setBr (w2.alloc (BrO y (.slice a y.acl.length c))) w.heap.size y (.slice a y.acl.length c)) := by
  have hl := h.one.lt
  exact one_own ((h.one.below hb).alloc _) (bel2 (bel2 h.bel hb) (one_new _ _)) (own_base (base' := w.heap.size + 1) (ho.keep (one_new _ _)) (by omega))

section
variable {w : World} {b : Nat} {F : Nat → Prop} {c : Nat} {st : St}

set_option maxHeartbeats 4000000 in
set_option maxRecDepth 8000 in
theorem find_rules (h : TreeAt w b F c st) (hL : LinksOk st) (hg : Glob w) {a : Option Addr} {cc n : Nat} {l : List Ru} (hr : G.Row kR w a cc l) (hl : ∀ r ∈ l, r.Ok) (hn : l.length = n) {work : Txt} (hw : work.length ≤ maxLen) {fr : Int} (hf : rng fr) {s : Txt} (hs : s.length ≤ maxLen) {R : Int × Br} (hR : findR (lk st) l work fr s = R) :
    Calls Tryd.prog 14 #[TP b, .slice a n cc, .string (bs work), .int .i64 fr, .string (bs s)] w (FolPost w R) := by
  subst hn
  have H := Lib.hid h
  have HL := Lib.hid hL
  have HG := Lib.hid hg
  have HR := Lib.hid hr
  have HO := Lib.hid hl
  have hsz : (bs s).size ≤ maxLen := by rw [bs_size]; exact hs
  have X0 := Lib.hid (Fb.new w)
  have RN : Hid (∀ d s y, lk st d s = some y → rng y.dir) := Lib.hid (fun d s y e => (lk_node h e).1)
  clear h hL hg hr hl
  cases hm : mayR l with
  | false =>
    obtain rfl : (1, noBr) = R := by rw [← hR, findR, if_neg (by rw [hm]; simp)]
    have HM := Lib.hid hm
    clear hm hR
    go_enter Tryd.func14, Tryd.ntmps14
    go_wp2_with (go_at_call 12; ((refine (rulesMay_any (HG.out.below X0.out.bel) (HR.out.below X0.out.bel) HO.out rfl HM.out).mono ?_); rintro e w1 ⟨rfl, b1⟩; have X1 := Lib.hid (X0.out.below b1); obtain ⟨s0, s1, s2, s3, s4, s5, s6, s7, s8, s9⟩ := X1.out.one.cell; have f2 := X1.out.one.fz; have hlt := X1.out.one.lt))
    have E1 := X1.out.one.stored noBr (.slice none 0 0)
    have E3 := Below.setBr X1.out.bel (k := w.heap.size) (Nat.le_refl _) noBr (.slice none 0 0)
    refine (show bodyPost _ _ _ _ _ (setBr w1 w.heap.size noBr (.slice none 0 0)) from ?_)
    generalize setBr w1 w.heap.size noBr (.slice none 0 0) = V at E1 E3 ⊢
    obtain ⟨g0, g1, g2, g3, g4, g5, g6, g7, g8, g9⟩ := E1.cell
    exact bodyPost_ret (v := .tuple #[BrV noBr (.slice none 0 0), .int .i64 1]) (by simp [results, Tryd.results14, go_sem, g0, g1, g2, g3, g4, g5, g6, g7, g8, g9]) rfl (fol_err E3 rfl)
  | true =>
    have HM := Lib.hid hm
    cases hm2 : N.may 32 s with
    | false =>
      obtain rfl : (3, noBr) = R := by rw [← hR, findR, if_pos hm, if_neg (by rw [hm2]; simp)]
      have HN : Hid (N.may 32 (bs s).data.toList = false) := Lib.hid (by rw [bs_data]; exact hm2)
      clear hm hm2 hR
      go_enter Tryd.func14, Tryd.ntmps14
      go_wp2_with (first
        | (go_at_call 12; ((refine (rulesMay_any (HG.out.below X0.out.bel) (HR.out.below X0.out.bel) HO.out rfl HM.out).mono ?_); rintro e w1 ⟨rfl, b1⟩; have X1 := Lib.hid (X0.out.below b1)))
        | (go_at_call 33; ((refine (N.may_any _ _ hsz).mono ?_); rw [HN.out]; rintro e w2 ⟨rfl, n2, h2⟩; have X2 := Lib.hid (X1.out.below (h2 ▸ bel_drewN w1 n2)); clear h2; obtain ⟨s0, s1, s2, s3, s4, s5, s6, s7, s8, s9⟩ := X2.out.one.cell; have f2 := X2.out.one.fz; have hlt := X2.out.one.lt)))
      have E1 := X2.out.one.stored noBr (.slice none 0 0)
      have E3 := Below.setBr X2.out.bel (k := w.heap.size) (Nat.le_refl _) noBr (.slice none 0 0)
      refine (show bodyPost _ _ _ _ _ (setBr w2 w.heap.size noBr (.slice none 0 0)) from ?_)
      generalize setBr w2 w.heap.size noBr (.slice none 0 0) = V at E1 E3 ⊢
      obtain ⟨g0, g1, g2, g3, g4, g5, g6, g7, g8, g9⟩ := E1.cell
      exact bodyPost_ret (v := .tuple #[BrV noBr (.slice none 0 0), .int .i64 3]) (by simp [results, Tryd.results14, go_sem, g0, g1, g2, g3, g4, g5, g6, g7, g8, g9]) rfl (fol_err E3 rfl)
    | true =>
      have HN : Hid (N.may 32 (bs s).data.toList = true) := Lib.hid (by rw [bs_data]; exact hm2)
      have S0 : Hid (srch (lk st) work fr s (l.drop 0) = R) := Lib.hid (by rw [List.drop_zero, ← hR, findR, if_pos hm, if_pos hm2])
      have h8 : l.length ≤ 8 := by
        by_cases h : l.length ≤ 8
        · exact h
        · have := mayR_long (l := l) (by omega)
          rw [hm] at this
          cases this
      clear hm hm2 hR
      go_enter Tryd.func14, Tryd.ntmps14
      go_wp2_with (first
        | (go_at_call 12; ((refine (rulesMay_any (HG.out.below X0.out.bel) (HR.out.below X0.out.bel) HO.out rfl HM.out).mono ?_); rintro e w1 ⟨rfl, b1⟩; have X1 := Lib.hid (X0.out.below b1)))
        | (go_at_call 33; ((refine (N.may_any _ _ hsz).mono ?_); rw [HN.out]; rintro e w2 ⟨rfl, n2, h2⟩; have X2 := Lib.hid (X1.out.below (h2 ▸ bel_drewN w1 n2)); clear h2)))
      go_loopw [33] (fun i V => ∃ k : Nat, k ≤ l.length ∧ i = .int .i64 k ∧ Hid (srch (lk st) work fr s (l.drop k) = R) ∧ Hid (Fb w V)) (fun i _ => l.length - (intOf i).toNat)
      case atStart => exact ⟨0, Nat.zero_le _, rfl, S0, X2⟩
      case round =>
        clear S0 X2 X1
        obtain ⟨k, hk, rfl, hS, hX⟩ := hrel
        by_cases hlt : k < l.length
        · obtain ⟨bk, o, rfl, hbk, c0, c1⟩ := row_rule (HR.out.below hX.out.bel) hlt
          have hp := (HO.out _ (List.getElem_mem hlt)).2
          obtain ⟨D, E, hD⟩ : ∃ D E, dirOf (lk st) l[k] work fr = (D, E) := ⟨_, _, rfl⟩
          have hDr := dirOf_rn RN.out hf hD
          by_cases hE : E = 0
          case neg =>
            have NX := Lib.hid (srch_none hlt hS.out (hit_dir hD hE))
            have HD := Lib.hid hD
            have e1 : (E != 0) = true := by simpa using hE
            clear hD hE hS
            generalize l[k] = r at c0 c1 hp HD
            go_wp2_with (go_at_call 34; ((refine (rdirectory_any (H.out.below (bel2 hX.out.bel (one_new _ (RuO r)))) HL.out (HG.out.below (bel2 hX.out.bel (one_new _ (RuO r)))) hp hw HD.out).mono ?_); rintro e w3 ⟨rfl, b3⟩; have X3 := Lib.hid ((hX.out.below (one_new _ (RuO r))).below b3)))
            go_roundw
            case rel => exact ⟨k + 1, by omega, by go_num, NX, X3⟩
            case measure => simp [intOf]; omega
          subst hE
          obtain ⟨E, y, hI⟩ : ∃ E y, wIn (lk st) D s = (E, y) := ⟨_, _, rfl⟩
          have HI := Lib.hid hI
          by_cases hy : E = 0 ∧ y.kind = 1
          · obtain ⟨rfl, hy⟩ := hy
            obtain rfl := srch_some hlt hS.out (hit_yes hD hI hy)
            have HD := Lib.hid hD
            have e1 : (y.kind == 1) = true := by simpa using hy
            clear hD hI hy hS
            generalize l[k] = r at c0 c1 hp HD
            go_wp2_with (first
              | (go_at_call 34; ((refine (rdirectory_any (H.out.below (bel2 hX.out.bel (one_new _ (RuO r)))) HL.out (HG.out.below (bel2 hX.out.bel (one_new _ (RuO r)))) hp hw HD.out).mono ?_); rintro e w3 ⟨rfl, b3⟩; have X3 := Lib.hid ((hX.out.below (one_new _ (RuO r))).below b3)))
              | (go_at_call 35; ((refine (wIn_any (H.out.below X3.out.bel) HL.out (HG.out.below X3.out.bel) hDr hs).mono ?_); rw [HI.out]; rintro e w4 ⟨a4, c4, rfl, o4, b4⟩; have E0 := Lib.hid (X3.out.found o4 b4); have X4 := Lib.hid ((X3.out.below b4).below (one_new _ (BrO y (.slice a4 y.acl.length c4)))); obtain ⟨s0, s1, s2, s3, s4, s5, s6, s7, s8, s9⟩ := X4.out.one.cell; have f2 := X4.out.one.fz; have hlt := X4.out.one.lt)))
            obtain ⟨E1, E2, E3⟩ := E0.out
            refine (show bodyPost _ _ _ _ _ (setBr (w4.alloc (BrO y (.slice a4 y.acl.length c4))) w.heap.size y (.slice a4 y.acl.length c4)) from ?_)
            generalize setBr (w4.alloc (BrO y (.slice a4 y.acl.length c4))) w.heap.size y (.slice a4 y.acl.length c4) = V5 at E1 E2 E3 ⊢
            obtain ⟨g0, g1, g2, g3, g4, g5, g6, g7, g8, g9⟩ := E1.cell
            exact bodyPost_ret (v := .tuple #[BrV y (.slice a4 y.acl.length c4), .int .i64 0]) (by simp [results, Tryd.results14, go_sem, g0, g1, g2, g3, g4, g5, g6, g7, g8, g9]) rfl ⟨a4, c4, rfl, E2, E3⟩
          · have NX := Lib.hid (srch_none hlt hS.out (hit_in hD hI hy))
            have HD := Lib.hid hD
            have hy' : (E == 0) = false ∨ (E == 0) = true ∧ (y.kind == 1) = false := by
              by_cases h0 : E = 0
              · right
                exact ⟨by simpa using h0, by simpa using fun h1 => hy ⟨h0, h1⟩⟩
              · left; simpa using h0
            clear hD hI hy hS
            generalize l[k] = r at c0 c1 hp HD
            rcases hy' with e1 | ⟨e1, e2⟩
            all_goals
              go_wp2_with (first
                | (go_at_call 34; ((refine (rdirectory_any (H.out.below (bel2 hX.out.bel (one_new _ (RuO r)))) HL.out (HG.out.below (bel2 hX.out.bel (one_new _ (RuO r)))) hp hw HD.out).mono ?_); rintro e w3 ⟨rfl, b3⟩; have X3 := Lib.hid ((hX.out.below (one_new _ (RuO r))).below b3)))
                | (go_at_call 35; ((refine (wIn_any (H.out.below X3.out.bel) HL.out (HG.out.below X3.out.bel) hDr hs).mono ?_); rw [HI.out]; rintro e w4 ⟨a4, c4, rfl, o4, b4⟩; have X4 := Lib.hid ((X3.out.below b4).below (one_new _ (BrO y (.slice a4 y.acl.length c4)))))))
              go_roundw
              case rel => exact ⟨k + 1, by omega, by go_num, NX, X4⟩
              case measure => simp [intOf]; omega
        · obtain rfl : k = l.length := by omega
          obtain rfl := srch_end hS.out
          obtain ⟨s0, s1, s2, s3, s4, s5, s6, s7, s8, s9⟩ := hX.out.one.cell
          have f2 := hX.out.one.fz
          have hlt' := hX.out.one.lt
          have E1 := hX.out.one.stored noBr (.slice none 0 0)
          have E3 := Below.setBr hX.out.bel (k := w.heap.size) (Nat.le_refl _) noBr (.slice none 0 0)
          go_wp2
          refine (show bodyPost _ _ _ _ _ (setBr wr w.heap.size noBr (.slice none 0 0)) from ?_)
          generalize setBr wr w.heap.size noBr (.slice none 0 0) = V5 at E1 E3 ⊢
          obtain ⟨g0, g1, g2, g3, g4, g5, g6, g7, g8, g9⟩ := E1.cell
          exact bodyPost_ret (v := .tuple #[BrV noBr (.slice none 0 0), .int .i64 4]) (by simp [results, Tryd.results14, go_sem, g0, g1, g2, g3, g4, g5, g6, g7, g8, g9]) rfl (fol_err E3 rfl)

end

end Go.Proofs.YtpcdcmoapenbdaaDoor.T
