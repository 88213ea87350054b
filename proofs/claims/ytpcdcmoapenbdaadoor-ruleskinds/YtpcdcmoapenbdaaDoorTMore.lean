/-
  More ways of taken and Add: a number that is there, brackets that may not be, links.
-/
import Derived.Test.YtpcdcmoapenbdaaDoorTDelete
import Derived.Test.YtpcdcmoapenbdaaDoorShelf
namespace Go.Proofs.YtpcdcmoapenbdaaDoor.T
open Go.ChangeShapes Go.WideShapes Go.ChangeAt Go.RowKit
open Go.Proofs.YtpcdcmoapenbdaaDoor.N (bs bs_data bs_size bs_inj)
open Go.Proofs.YtpcdcmoapenbdaaDoor.A (Tm TRow)

theorem Box2.drewN {w V : World} {br : Br} {va : Value} (h : Box2 w V br va) (n : Nat) : Box2 w (V.drewN n) br va := h.below (bel_drewN V n)

section
variable {w : World} {b : Nat} {F : Nat → Prop} {c : Nat} {st : St}

set_option maxHeartbeats 4000000 in
theorem taken_ring {br : Br} {a : Option Addr} {cc : Nat} (hr : TRow w a cc br.acl) (htx : ∀ t ∈ br.acl, t.1.length ≤ maxLen) (hk : br.kind = 1) (hu : 1 ≤ br.uid) (ha : A.lmay br.acl = true) (hb : W.bmay br.r1 br.r2 br.r3 br.gt = false) :
    Calls Tryd.prog 40 #[TP b, BrV br (.slice a br.acl.length cc)] w fun e w' => e = .returned (.tuple #[BrV noBr (.slice none 0 0), .int .i64 1]) ∧ Below w.heap.size w w' := by
  have HR := Lib.hid hr
  have HT := Lib.hid htx
  have HA := Lib.hid ha
  have HB := Lib.hid hb
  have e1 : (br.kind == 1) = true := by simpa using hk
  have e2 : decide (br.uid < 1) = false := by simp; omega
  clear hr htx ha hb hk hu
  go_enter Tryd.func40, Tryd.ntmps40
  go_wp2_with (first
    | (go_at_call 53; ((refine (aclMay_is ((HR.out.alloc _).alloc _) HT.out HA.out).mono ?_); rintro e w1 ⟨rfl, b1⟩; have X1 := Lib.hid ((Box2.new w br (.slice a br.acl.length cc)).below b1); obtain ⟨q0, q1, q2, q3, q4, q5, q6, q7, q8, q9⟩ := X1.out.one.cell; clear b1))
    | (go_at_call 56; ((refine (ringMay_is w1 HB.out).mono ?_); rintro e w2 ⟨rfl, b2⟩; have X2 := Lib.hid (X1.out.below b2); obtain ⟨s0, s1, s2, s3, s4, s5, s6, s7, s8, s9⟩ := X2.out.two.cell; have f2 := X2.out.two.fz; clear b2)))
  have X5 := Top.of X2.out noBr
  refine (show bodyPost _ _ _ _ _ (setBr w2 (w.heap.size + 1) noBr (.slice none 0 0)) from ?_)
  generalize setBr w2 (w.heap.size + 1) noBr (.slice none 0 0) = V at X5 ⊢
  obtain ⟨g0, g1, g2, g3, g4, g5, g6, g7, g8, g9⟩ := X5.at_.cell
  exact bodyPost_ret (v := .tuple #[BrV noBr (.slice none 0 0), .int .i64 1]) (by simp [results, Tryd.results40, go_sem, g0, g1, g2, g3, g4, g5, g6, g7, g8, g9]) rfl ⟨rfl, X5.bel⟩

set_option maxHeartbeats 4000000 in
theorem taken_there (h : TreeAt w b F c st) {br : Br} {a : Option Addr} {cc : Nat} (hr : TRow w a cc br.acl) (htx : ∀ t ∈ br.acl, t.1.length ≤ maxLen) (hk : br.kind = 1) (hu : 1 ≤ br.uid) (hu' : br.uid ≤ 9223372036854775807) (ha : A.lmay br.acl = true) (hb : W.bmay br.r1 br.r2 br.r3 br.gt = true) {g : Nat} (hG : st.G br.uid = some g) :
    Calls Tryd.prog 40 #[TP b, BrV br (.slice a br.acl.length cc)] w fun e w' => e = .returned (.tuple #[BrV noBr (.slice none 0 0), .int .i64 5]) ∧ Below w.heap.size w w' := by
  obtain ⟨mp, mg, mz, av, nv, h⟩ := h
  have HR := Lib.hid hr
  have HT := Lib.hid htx
  have H := Lib.hid h
  have HG := Lib.hid hG
  have HA := Lib.hid ha
  have HB := Lib.hid hb
  have hbl := h.lt
  have e1 : (br.kind == 1) = true := by simpa using hk
  have e2 : decide (br.uid < 1) = false := by simp; omega
  have hU : rng br.uid := ⟨by omega, hu'⟩
  clear hr htx h hG ha hb hk hu hu'
  go_enter Tryd.func40, Tryd.ntmps40
  go_wp2_with (first
    | (go_at_call 53; ((refine (aclMay_is ((HR.out.alloc _).alloc _) HT.out HA.out).mono ?_); rintro e w1 ⟨rfl, b1⟩; have X1 := Lib.hid ((Box2.new w br (.slice a br.acl.length cc)).below b1); obtain ⟨q0, q1, q2, q3, q4, q5, q6, q7, q8, q9⟩ := X1.out.one.cell; clear b1))
    | (go_at_call 56; ((refine (ringMay_is w1 HB.out).mono ?_); rintro e w2 ⟨rfl, b2⟩; have X2 := Lib.hid (X1.out.below b2); obtain ⟨s0, s1, s2, s3, s4, s5, s6, s7, s8, s9⟩ := X2.out.one.cell; clear b2; have T2 := Lib.hid (H.out.below X2.out.bel).drew; have t2 := T2.out.c2; have t3 := T2.out.lookG (u := br.uid) hU; rw [HG.out] at t3; simp only [ptrOf, Option.isSome_some] at t3)))
  go_region
  clear q0 q1 q2 q3 q4 q5 q6 q7 q8 q9 s0 s1 s2 s3 s4 s5 s6 s7 s8 s9 t2 t3
  have X3 := Lib.hid X2.out.drew
  obtain ⟨s0, s1, s2, s3, s4, s5, s6, s7, s8, s9⟩ := X3.out.two.cell
  have f3 := X3.out.two.fz
  clear X1 X2 T2
  generalize w2.drew = V2 at *
  go_wp2
  have X5 := Top.of X3.out noBr
  refine (show bodyPost _ _ _ _ _ (setBr V2 (w.heap.size + 1) noBr (.slice none 0 0)) from ?_)
  generalize setBr V2 (w.heap.size + 1) noBr (.slice none 0 0) = V at X5 ⊢
  obtain ⟨g0, g1, g2, g3, g4, g5, g6, g7, g8, g9⟩ := X5.at_.cell
  exact bodyPost_ret (v := .tuple #[BrV noBr (.slice none 0 0), .int .i64 5]) (by simp [results, Tryd.results40, go_sem, g0, g1, g2, g3, g4, g5, g6, g7, g8, g9]) rfl ⟨rfl, X5.bel⟩

/-- names.Split at a text that is no path, and at the root -/
theorem split_no {l : Txt} (hl : l.length ≤ 168) (h : Lib.hasPrefix l [62] = false) (w : World) : Calls Tryd.prog 57 #[.string (bs l)] w fun e w' => e = .returned (.tuple #[.slice none 0 0, .int .i64 3]) ∧ w = w' := by
  have hs := bs_size l
  have h' : Lib.hasPrefix (bs l).data.toList [62] = false := by rw [bs_data]; exact h
  have hc : ∀ V, Calls Tryd.prog 72 #[.string (bs l), .string ⟨#[62]⟩] V fun e w' => e = .returned (.bool false) ∧ w' = V := fun V => by
    have := Tryd.strings_HasPrefix (bs l) ⟨#[62]⟩ V
    rw [show (⟨#[62]⟩ : ByteArray).data.toList = [62] from rfl, h'] at this
    exact this
  clear h h'
  go_enter Tryd.func57, Tryd.ntmps57
  go_wp2_with (go_at_call 72; ((refine (hc _).mono ?_); rintro e w' ⟨rfl, rfl⟩))
  exact bodyPost_ret (v := .tuple #[.slice none 0 0, .int .i64 3]) (by simp [results, Tryd.results57, go_sem]) rfl ⟨rfl, rfl⟩
theorem split_root (w : World) : Calls Tryd.prog 57 #[.string (bs [62])] w fun e w' => e = .returned (.tuple #[.slice none 0 0, .int .i64 0]) ∧ w = w' := by
  have hc : ∀ V, Calls Tryd.prog 72 #[.string ⟨#[62]⟩, .string ⟨#[62]⟩] V fun e w' => e = .returned (.bool true) ∧ w' = V := fun V => Tryd.strings_HasPrefix ⟨#[62]⟩ ⟨#[62]⟩ V
  show Calls Tryd.prog 57 #[.string ⟨#[62]⟩] w _
  go_enter Tryd.func57, Tryd.ntmps57
  go_wp2_with (go_at_call 72; ((refine (hc _).mono ?_); rintro e w' ⟨rfl, rfl⟩))
  exact bodyPost_ret (v := .tuple #[.slice none 0 0, .int .i64 0]) (by simp [results, Tryd.results57, go_sem]) rfl ⟨rfl, rfl⟩

set_option maxHeartbeats 4000000 in
theorem taken_nolink {br : Br} {a : Option Addr} {n cc : Nat} (hk : br.kind = 3) (hl : br.link.length ≤ 168) (hp : Lib.hasPrefix br.link [62] = false) (w : World) :
    Calls Tryd.prog 40 #[TP b, BrV br (.slice a n cc)] w fun e w' => e = .returned (.tuple #[BrV noBr (.slice none 0 0), .int .i64 3]) ∧ Below w.heap.size w w' := by
  have e1 : (br.kind == 1) = false := by simp [hk]
  have e2 : (br.kind == 2) = false := by simp [hk]
  have e3 : (br.kind == 3) = true := by simp [hk]
  have HS := Lib.hid (fun V => split_no hl hp V)
  have X := Lib.hid (Top.new w br (.slice a n cc) noBr)
  clear hk hl hp
  go_enter Tryd.func40, Tryd.ntmps40
  go_wp2_with (go_at_call 57; ((refine (HS.out _).mono ?_); rintro e w1 ⟨rfl, rfl⟩))
  refine (show bodyPost _ _ _ _ _ ((w.alloc (BrO br (.slice a n cc))).alloc (BrO noBr (.slice none 0 0))) from ?_)
  generalize (w.alloc (BrO br (.slice a n cc))).alloc (BrO noBr (.slice none 0 0)) = V at X ⊢
  obtain ⟨g0, g1, g2, g3, g4, g5, g6, g7, g8, g9⟩ := X.out.at_.cell
  exact bodyPost_ret (v := .tuple #[BrV noBr (.slice none 0 0), .int .i64 3]) (by simp [results, Tryd.results40, go_sem, g0, g1, g2, g3, g4, g5, g6, g7, g8, g9]) rfl ⟨rfl, X.out.bel⟩

set_option maxHeartbeats 4000000 in
theorem taken_root {br : Br} {a : Option Addr} {n cc : Nat} (hk : br.kind = 3) (hl : br.link = [62]) (w : World) :
    Calls Tryd.prog 40 #[TP b, BrV br (.slice a n cc)] w fun e w' => e = .returned (.tuple #[BrV (linkB [62]) (.slice none 0 0), .int .i64 0]) ∧ Below w.heap.size w w' := by
  have e1 : (br.kind == 1) = false := by simp [hk]
  have e2 : (br.kind == 2) = false := by simp [hk]
  have e3 : (br.kind == 3) = true := by simp [hk]
  have HS := Lib.hid (fun V => split_root V)
  obtain ⟨k, u, d, l, o, acl, r1, r2, r3, gt⟩ := br
  simp only at hl e1 e2 e3 hk
  subst hl
  have X := Lib.hid (Top.new w ⟨k, u, d, [62], o, acl, r1, r2, r3, gt⟩ (.slice a n cc) (linkB [62]))
  clear hk
  go_enter Tryd.func40, Tryd.ntmps40
  go_wp2_with (go_at_call 57; ((refine (HS.out _).mono ?_); rintro e w1 ⟨rfl, rfl⟩))
  refine (show bodyPost _ _ _ _ _ ((w.alloc (BrO ⟨k, u, d, [62], o, acl, r1, r2, r3, gt⟩ (.slice a n cc))).alloc (BrO (linkB [62]) (.slice none 0 0))) from ?_)
  generalize (w.alloc (BrO ⟨k, u, d, [62], o, acl, r1, r2, r3, gt⟩ (.slice a n cc))).alloc (BrO (linkB [62]) (.slice none 0 0)) = V at X ⊢
  obtain ⟨g0, g1, g2, g3, g4, g5, g6, g7, g8, g9⟩ := X.out.at_.cell
  exact bodyPost_ret (v := .tuple #[BrV (linkB [62]) (.slice none 0 0), .int .i64 0]) (by simp [results, Tryd.results40, go_sem, g0, g1, g2, g3, g4, g5, g6, g7, g8, g9]) rfl ⟨rfl, X.out.bel⟩

/-- a link's node; the state with it -/
def linkS (st : St) (g : Nat) (l : Txt) (d : Int) (s : Txt) : St := bindS (nodeS st g ⟨linkB l, d, []⟩) g ⟨linkB l, d, []⟩ s

set_option maxHeartbeats 4000000 in
theorem add_root (h : TreeAt w b F c st) {d : Int} {s : Txt} (hd : rng d) (hs : s.length ≤ maxLen) (hf : freeE st d s = 0) {br : Br} {a : Option Addr} {n cc : Nat} (hk : br.kind = 3) (hl : br.link = [62]) (hc : c < 10000) :
    Calls Tryd.prog 18 #[TP b, .int .i64 d, .string (bs s), BrV br (.slice a n cc)] w fun e w' => e = .returned (.tuple #[.int .i64 0, .int .i64 0]) ∧ ∃ F' g, w.heap.size ≤ g ∧ TreeAt w' b F' (c + 3) (linkS st g [62] d s) ∧ Went F w F' w' := by
  have H := Lib.hid h
  have HF := Lib.hid hf
  have HK := Lib.hid hk
  have HL := Lib.hid hl
  have hltF := Lib.hid h.ltF
  have k1 : ((linkB [62]).kind == 1) = false := rfl
  have k2 : ((linkB [62]).kind == 2) = false := rfl
  have HO : Hid ((Nd.mk (linkB [62]) d []).Ok c) := Lib.hid ⟨Nat.zero_le _, hd, by unfold linkB rng; simp, by unfold linkB rng; simp, fun t ht => (by cases ht), Nat.zero_le _⟩
  have hbl := h.ltF b (by obtain ⟨mp, mg, mz, av, nv, h⟩ := h; exact h.inF)
  clear h hf hk hl
  go_enter Tryd.func18, Tryd.ntmps18
  go_wp2_with (first
    | (go_at_call 39; ((refine (free_at (H.out.alloc _) hd hs HF.out).mono ?_); rintro e w1 ⟨rfl, n1, rfl⟩))
    | (go_at_call 40; ((refine (taken_root HK.out HL.out _).mono ?_); rintro e w2 ⟨rfl, b2⟩; have L2 := Lib.hid (bel2 (bel2 (one_new w (BrO br (.slice a n cc))) (bel_drewN _ n1)) b2); clear b2))
    | (go_at_call 41; ((refine (prepare_at ((H.out.below L2.out).alloc (BrO (linkB [62]) (.slice none 0 0)))).mono ?_); rintro e w3 ⟨rfl, F3, ⟨p, gm, z, av, nv, m3⟩, g3⟩; have X3 := box_went hltF.out L2.out g3; obtain ⟨p0, p1, p2, p3, p4, p5, p6, p7, p8, p9⟩ := X3.cell; have x3 := X3.lt; have hb3 := m3.lt; have h4 := Lib.hid (m3.newNode (x := ⟨linkB [62], d, []⟩) rfl HO.out (A.Own.nil 0 _)); have G4 := Lib.hid (went_node (o := NdO ⟨linkB [62], d, []⟩ (.slice none 0 0) (.slice none 0 0)) (nil_own w.heap.size w3) F ((Went.of_below (F := F) (bel2 L2.out (one_new _ _))).trans g3) (Nat.le_refl _)); clear m3 g3))
    | (go_at_call 42; ((refine (bind_at (g := w3.heap.size) (x := ⟨linkB [62], d, []⟩) ⟨_, _, _, _, _, h4.out⟩ (upd_same _ _ _) hs (by omega)).mono ?_); rintro e w5 ⟨rfl, F5, m5, g6⟩; have M5 := Lib.hid m5; have c5 : w5.cell? ⟨w3.heap.size, 2, none⟩ = some (.int .i64 0) := (by obtain ⟨_, _, _, _, _, t⟩ := m5; exact (t.node _ _ (upd_same _ _ _)).cell.2.2.1); have G6 := Lib.hid (G4.out.trans g6); clear m5 g6)))
  exact bodyPost_ret (v := .tuple #[.int .i64 0, .int .i64 0]) (by simp [results, Tryd.results18, go_sem]) rfl ⟨rfl, F5, w3.heap.size, by have := L2.out.size; omega, M5.out.at_, G6.out⟩

end

end Go.Proofs.YtpcdcmoapenbdaaDoor.T
