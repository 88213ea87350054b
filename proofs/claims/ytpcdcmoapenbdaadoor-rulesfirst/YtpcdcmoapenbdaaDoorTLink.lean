/-
  Add of any link, and the refusals that were lacking: a link that is no path, a list of terms that may not be.
-/
import Derived.Test.YtpcdcmoapenbdaaDoorWFolls
namespace Go.Proofs.YtpcdcmoapenbdaaDoor.T
open Go.ChangeShapes Go.WideShapes Go.ChangeAt Go.RowKit
open Go.Proofs.YtpcdcmoapenbdaaDoor.N (bs bs_data bs_size bs_inj Glob)
open Go.Proofs.YtpcdcmoapenbdaaDoor.A (Tm TRow)

section
variable {w : World} {b : Nat} {F : Nat → Prop} {c : Nat} {st : St}

theorem split_er {V : World} (hg : Glob V) {l : Txt} (hl : l.length ≤ maxLen) {E : Int} (he : N.er l = E) : Calls Tryd.prog 57 #[.string (bs l)] V fun e w' => ∃ v, e = .returned (.tuple #[v, .int .i64 E]) ∧ Below V.heap.size V w' := by
  have := N.split_own (bs l) V (by rw [bs_size]; exact hl) hg
  rw [bs_data] at this
  exact this.mono fun e w' ⟨v, h1, _, h3⟩ => ⟨v, by rw [h1, he], h3⟩

set_option maxHeartbeats 4000000 in
theorem taken_badlink (hg : Glob w) {br : Br} {a : Option Addr} {n cc : Nat} (hk : br.kind = 3) (hl : br.link.length ≤ maxLen) (he : N.er br.link = 3) :
    Calls Tryd.prog 40 #[TP b, BrV br (.slice a n cc)] w fun e w' => e = .returned (.tuple #[BrV noBr (.slice none 0 0), .int .i64 3]) ∧ Below w.heap.size w w' := by
  have e1 : (br.kind == 1) = false := by simp [hk]
  have e2 : (br.kind == 2) = false := by simp [hk]
  have e3 : (br.kind == 3) = true := by simp [hk]
  have HG := Lib.hid hg
  have HE := Lib.hid he
  clear hk hg he
  go_enter Tryd.func40, Tryd.ntmps40
  go_wp2_with (go_at_call 57; ((refine (split_er (HG.out.below (bel2 (one_new _ _) (one_new _ _))) hl HE.out).mono ?_); rintro e w1 ⟨v1, rfl, b1⟩; have X1 := Lib.hid ((Box2.new w br (.slice a n cc)).below b1); obtain ⟨s0, s1, s2, s3, s4, s5, s6, s7, s8, s9⟩ := X1.out.two.cell; have f2 := X1.out.two.fz; have l2 := X1.out.two.lt; clear b1))
  have X5 := Top.of X1.out noBr
  refine (show bodyPost _ _ _ _ _ (setBr w1 (w.heap.size + 1) noBr (.slice none 0 0)) from ?_)
  generalize setBr w1 (w.heap.size + 1) noBr (.slice none 0 0) = V at X5 ⊢
  obtain ⟨g0, g1, g2, g3, g4, g5, g6, g7, g8, g9⟩ := X5.at_.cell
  exact bodyPost_ret (v := .tuple #[BrV noBr (.slice none 0 0), .int .i64 3]) (by simp [results, Tryd.results40, go_sem, g0, g1, g2, g3, g4, g5, g6, g7, g8, g9]) rfl ⟨rfl, X5.bel⟩

set_option maxHeartbeats 4000000 in
theorem taken_link (hg : Glob w) {br : Br} {a : Option Addr} {n cc : Nat} (hk : br.kind = 3) (hl : br.link.length ≤ maxLen) (he : N.er br.link = 0) :
    Calls Tryd.prog 40 #[TP b, BrV br (.slice a n cc)] w fun e w' => e = .returned (.tuple #[BrV (linkB br.link) (.slice none 0 0), .int .i64 0]) ∧ Below w.heap.size w w' := by
  have e1 : (br.kind == 1) = false := by simp [hk]
  have e2 : (br.kind == 2) = false := by simp [hk]
  have e3 : (br.kind == 3) = true := by simp [hk]
  have HG := Lib.hid hg
  have HE := Lib.hid he
  clear hk hg he
  go_enter Tryd.func40, Tryd.ntmps40
  go_wp2_with (go_at_call 57; ((refine (split_er (HG.out.below (bel2 (one_new _ _) (one_new _ _))) hl HE.out).mono ?_); rintro e w1 ⟨v1, rfl, b1⟩; have X1 := Lib.hid ((Box2.new w br (.slice a n cc)).below b1); obtain ⟨s0, s1, s2, s3, s4, s5, s6, s7, s8, s9⟩ := X1.out.two.cell; obtain ⟨q0, q1, q2, q3, q4, q5, q6, q7, q8, q9⟩ := X1.out.one.cell; have f2 := X1.out.two.fz; have l2 := X1.out.two.lt; clear b1))
  have X5 := Top.of X1.out (linkB br.link)
  refine (show bodyPost _ _ _ _ _ (setBr w1 (w.heap.size + 1) (linkB br.link) (.slice none 0 0)) from ?_)
  generalize setBr w1 (w.heap.size + 1) (linkB br.link) (.slice none 0 0) = V at X5 ⊢
  obtain ⟨g0, g1, g2, g3, g4, g5, g6, g7, g8, g9⟩ := X5.at_.cell
  exact bodyPost_ret (v := .tuple #[BrV (linkB br.link) (.slice none 0 0), .int .i64 0]) (by simp [results, Tryd.results40, go_sem, g0, g1, g2, g3, g4, g5, g6, g7, g8, g9]) rfl ⟨rfl, X5.bel⟩

set_option maxHeartbeats 4000000 in
theorem taken_acl {br : Br} {a : Option Addr} {cc : Nat} (hr : TRow w a cc br.acl) (htx : ∀ t ∈ br.acl, t.1.length ≤ maxLen) (hk : br.kind = 1) (hu : 1 ≤ br.uid) (ha : A.lmay br.acl = false) :
    Calls Tryd.prog 40 #[TP b, BrV br (.slice a br.acl.length cc)] w fun e w' => e = .returned (.tuple #[BrV noBr (.slice none 0 0), .int .i64 1]) ∧ Below w.heap.size w w' := by
  have HR := Lib.hid hr
  have HT := Lib.hid htx
  have HA := Lib.hid ha
  have e1 : (br.kind == 1) = true := by simpa using hk
  have e2 : decide (br.uid < 1) = false := by simp; omega
  clear hr htx ha hk hu
  go_enter Tryd.func40, Tryd.ntmps40
  go_wp2_with (go_at_call 53; ((refine (aclMay_is ((HR.out.alloc _).alloc _) HT.out HA.out).mono ?_); rintro e w2 ⟨rfl, b1⟩; have X2 := Lib.hid ((Box2.new w br (.slice a br.acl.length cc)).below b1); obtain ⟨s0, s1, s2, s3, s4, s5, s6, s7, s8, s9⟩ := X2.out.two.cell; have f2 := X2.out.two.fz; clear b1))
  have X5 := Top.of X2.out noBr
  refine (show bodyPost _ _ _ _ _ (setBr w2 (w.heap.size + 1) noBr (.slice none 0 0)) from ?_)
  generalize setBr w2 (w.heap.size + 1) noBr (.slice none 0 0) = V at X5 ⊢
  obtain ⟨g0, g1, g2, g3, g4, g5, g6, g7, g8, g9⟩ := X5.at_.cell
  exact bodyPost_ret (v := .tuple #[BrV noBr (.slice none 0 0), .int .i64 1]) (by simp [results, Tryd.results40, go_sem, g0, g1, g2, g3, g4, g5, g6, g7, g8, g9]) rfl ⟨rfl, X5.bel⟩

set_option maxHeartbeats 4000000 in
theorem add_link (h : TreeAt w b F c st) (hg : Glob w) {d : Int} {s : Txt} (hd : rng d) (hs : s.length ≤ maxLen) (hf : freeE st d s = 0) {br : Br} {a : Option Addr} {n cc : Nat} (hk : br.kind = 3) (hl : br.link.length ≤ maxLen) (he : N.er br.link = 0) (hc : c < 10000) :
    Calls Tryd.prog 18 #[TP b, .int .i64 d, .string (bs s), BrV br (.slice a n cc)] w fun e w' => e = .returned (.tuple #[.int .i64 0, .int .i64 0]) ∧ ∃ F' g, w.heap.size ≤ g ∧ TreeAt w' b F' (c + 3) (linkS st g br.link d s) ∧ Went F w F' w' := by
  have H := Lib.hid h
  have HF := Lib.hid hf
  have HK := Lib.hid hk
  have HG := Lib.hid hg
  have HE := Lib.hid he
  have hltF := Lib.hid h.ltF
  have k1 : ((linkB br.link).kind == 1) = false := rfl
  have k2 : ((linkB br.link).kind == 2) = false := rfl
  have HO : Hid ((Nd.mk (linkB br.link) d []).Ok c) := Lib.hid ⟨Nat.zero_le _, hd, by unfold linkB rng; simp, by unfold linkB rng; simp, fun t ht => (by cases ht), Nat.zero_le _⟩
  have hbl := h.ltF b (by obtain ⟨mp, mg, mz, av, nv, h⟩ := h; exact h.inF)
  clear h hf hk hg he
  go_enter Tryd.func18, Tryd.ntmps18
  go_wp2_with (first
    | (go_at_call 39; ((refine (free_at (H.out.alloc _) hd hs HF.out).mono ?_); rintro e w1 ⟨rfl, n1, rfl⟩))
    | (go_at_call 40; ((refine (taken_link (HG.out.below (bel2 (one_new _ _) (bel_drewN _ n1))) HK.out hl HE.out).mono ?_); rintro e w2 ⟨rfl, b2⟩; have L2 := Lib.hid (bel2 (bel2 (one_new w (BrO br (.slice a n cc))) (bel_drewN _ n1)) b2); clear b2))
    | (go_at_call 41; ((refine (prepare_at ((H.out.below L2.out).alloc (BrO (linkB br.link) (.slice none 0 0)))).mono ?_); rintro e w3 ⟨rfl, F3, ⟨p, gm, z, av, nv, m3⟩, g3⟩; have X3 := box_went hltF.out L2.out g3; obtain ⟨p0, p1, p2, p3, p4, p5, p6, p7, p8, p9⟩ := X3.cell; have x3 := X3.lt; have hb3 := m3.lt; have h4 := Lib.hid (m3.newNode (x := ⟨linkB br.link, d, []⟩) rfl HO.out (A.Own.nil 0 _)); have G4 := Lib.hid (went_node (o := NdO ⟨linkB br.link, d, []⟩ (.slice none 0 0) (.slice none 0 0)) (nil_own w.heap.size w3) F ((Went.of_below (F := F) (bel2 L2.out (one_new _ _))).trans g3) (Nat.le_refl _)); clear m3 g3))
    | (go_at_call 42; ((refine (bind_at (g := w3.heap.size) (x := ⟨linkB br.link, d, []⟩) ⟨_, _, _, _, _, h4.out⟩ (upd_same _ _ _) hs (by omega)).mono ?_); rintro e w5 ⟨rfl, F5, m5, g6⟩; have M5 := Lib.hid m5; have c5 : w5.cell? ⟨w3.heap.size, 2, none⟩ = some (.int .i64 0) := (by obtain ⟨_, _, _, _, _, t⟩ := m5; exact (t.node _ _ (upd_same _ _ _)).cell.2.2.1); have G6 := Lib.hid (G4.out.trans g6); clear m5 g6)))
  exact bodyPost_ret (v := .tuple #[.int .i64 0, .int .i64 0]) (by simp [results, Tryd.results18, go_sem]) rfl ⟨rfl, F5, w3.heap.size, by have := L2.out.size; omega, M5.out.at_, G6.out⟩

end

end Go.Proofs.YtpcdcmoapenbdaaDoor.T
