/-
  Add, by its ways: a segment, a directory, a refusal.
-/
import Derived.Test.YtpcdcmoapenbdaaDoorTTaken
namespace Go.Proofs.YtpcdcmoapenbdaaDoor.T
open Go.ChangeShapes Go.WideShapes Go.ChangeAt Go.RowKit
open Go.Proofs.YtpcdcmoapenbdaaDoor.N (bs bs_data bs_size bs_inj)
open Go.Proofs.YtpcdcmoapenbdaaDoor.A (Tm TRow)

section
variable {w : World} {b : Nat} {F : Nat → Prop} {c : Nat} {st : St}

theorem TreeAt.alloc (h : TreeAt w b F c st) (o : Obj) : TreeAt (w.alloc o) b F c st := h.below (one_new _ _)
theorem bel_drewN (w : World) (n : Nat) : Below w.heap.size w (w.drewN n) := ⟨rfl, rfl, rfl, Nat.le_refl _, fun _ _ => rfl⟩

/-- a state with a node more -/
def nodeS (st : St) (g : Nat) (x : Nd) : St := { st with N := upd st.N g (some x) }
/-- a segment's node, bound to its number -/
def segS (st : St) (g : Nat) (br : Br) (d : Int) (s : Txt) : St :=
  bindS { nodeS st g ⟨segB br, d, []⟩ with G := upd st.G br.uid (some g) } g ⟨segB br, d, []⟩ s

theorem row_went {F F' : Nat → Prop} {w w' : World} {base : Nat} {v : Value} {l : List Tm} (h : A.Own base w v l) (hw : Went F w F' w') (hF : ∀ i, F i → i < base) : Ac w' v l := by
  refine row_of (own_base h (Nat.zero_le _)) (fun k e => ?_)
  have := World.ownsRow.lt h k e
  exact hw.block k this.2 (fun hf => by have := hF k hf; omega)

theorem box_went {F F' : Nat → Prop} {w w2 w3 : World} {nb : Br} {va : Value} (hF : ∀ i, F i → i < w.heap.size) (L2 : Below w.heap.size w w2) (G3 : Went F (w2.alloc (BrO nb va)) F' w3) : BrAt w3 w2.heap.size nb va :=
  (G3.block _ (by simp) (fun hf => by have := hF _ hf; have := L2.size; omega)).trans (heap_alloc_new w2 _)
theorem went_node {F : Nat → Prop} {w : World} {o : Obj} {va : Value} {base : Nat} {l : List Tm} (hv : A.Own base w va l) (F0 : Nat → Prop) {w0 : World} (h : Went F0 w0 F w) (hb : w0.heap.size ≤ base) : Went F0 w0 (fun i => F i ∨ i = w.heap.size ∨ va.ownBlock = some i) (w.alloc o) := by
  refine ⟨h.os, h.tape, h.output, by have := h.size; simp; omega, fun i hi hn => (heap_alloc_old w _ (Nat.lt_of_lt_of_le hi h.size)).trans (h.block i hi hn), fun i hi => ?_⟩
  rcases hi with hi | hi | hi
  · exact h.foot i hi
  · exact Or.inr (by have := h.size; omega)
  · exact Or.inr (Nat.le_trans hb (World.ownsRow.lt hv i hi).1)
theorem own_went {F F' : Nat → Prop} {w w' : World} {base : Nat} {v : Value} {l : List Tm} (h : A.Own base w v l) (hw : Went F w F' w') (hF : ∀ i, F i → i < base) : A.Own base w' v l := by
  refine ⟨h.1, ?_⟩
  rcases h.2 with h2 | ⟨g, cap, cur, e, hb, hg, r⟩
  · exact Or.inl h2
  · refine Or.inr ⟨g, cap, cur, e, hb, ?_, r⟩
    rw [hw.block g (Array.getElem?_eq_some_iff.1 hg).1 (fun hf => by have := hF g hf; omega)]
    exact hg

set_option maxHeartbeats 4000000 in
theorem add_seg (h : TreeAt w b F c st) {d : Int} {s : Txt} (hd : rng d) (hs : s.length ≤ maxLen) (hf : freeE st d s = 0) {br : Br} {a : Option Addr} {cc : Nat} (hr : TRow w a cc br.acl) (htx : ∀ t ∈ br.acl, t.1.length ≤ maxLen) (hk : br.kind = 1) (hu : 1 ≤ br.uid) (hu' : br.uid ≤ 9223372036854775807)
    (ha : A.lmay br.acl = true) (hb : W.bmay br.r1 br.r2 br.r3 br.gt = true) (hG : st.G br.uid = none) (hc : c < 10000) :
    Calls Tryd.prog 18 #[TP b, .int .i64 d, .string (bs s), BrV br (.slice a br.acl.length cc)] w fun e w' => e = .returned (.tuple #[.int .i64 0, .int .i64 0]) ∧ ∃ F' g, w.heap.size ≤ g ∧ TreeAt w' b F' (c + 4) (segS st g br d s) ∧ Went F w F' w' := by
  have H := Lib.hid h
  have HR := Lib.hid hr
  have HT := Lib.hid htx
  have HF := Lib.hid hf
  have HG := Lib.hid hG
  have HA := Lib.hid ha
  have HB := Lib.hid hb
  have HK := Lib.hid hk
  have hal : br.acl.length ≤ 1000000 := by have := (A.lmay_parts ha).1; omega
  have hltF := Lib.hid h.ltF
  have k1 : ((segB br).kind == 1) = true := rfl
  have HU : rng br.uid := ⟨by omega, hu'⟩
  have ok : (Nd.mk (segB br) d []).Ok c := ⟨Nat.zero_le _, hd, HU, by unfold segB rng; simp, fun t ht => (by cases ht), hal⟩
  have HO := Lib.hid ok
  have hbl := h.ltF b (by obtain ⟨mp, mg, mz, av, nv, h⟩ := h; exact h.inF)
  clear h hr htx hf hG ha hb hk ok
  go_enter Tryd.func18, Tryd.ntmps18
  go_wp2_with (first
    | (go_at_call 39; ((refine (free_at (H.out.alloc _) hd hs HF.out).mono ?_); rintro e w1 ⟨rfl, n1, rfl⟩))
    | (go_at_call 40; ((refine (taken_seg ((H.out.alloc _).drewN _) ((HR.out.alloc _).drewN _) HT.out HK.out hu hu' HA.out HB.out HG.out).mono ?_); rintro e w2 ⟨a', c', rfl, o2, b2⟩; have L2 := Lib.hid (bel2 (bel2 (one_new w (BrO br (.slice a br.acl.length cc))) (bel_drewN _ n1)) b2); have O2 := Lib.hid o2; clear o2 b2))
    | (go_at_call 41; ((refine (prepare_at ((H.out.below L2.out).alloc (BrO (segB br) (.slice a' br.acl.length c')))).mono ?_); rintro e w3 ⟨rfl, F3, ⟨p, gm, z, av, nv, m3⟩, g3⟩; have X3 := box_went hltF.out L2.out g3; obtain ⟨p0, p1, p2, p3, p4, p5, p6, p7, p8, p9⟩ := X3.cell; have x3 := X3.lt; have O3 := Lib.hid (own_went (O2.out.alloc _) g3 (fun i hi => by have := hltF.out i hi; simp; omega)); have h4 := m3.newNode (x := ⟨segB br, d, []⟩) rfl HO.out (own_base O3.out (Nat.zero_le _)); obtain ⟨w4, r4, h5, g5⟩ := h4.drew.putG (u := (segB br).uid) HU (j := w3.heap.size) (upd_same _ _ _) (by unfold maxLen; omega); have c2 := h4.drew.c2; have hb3 := m3.lt)))
  have T3 := (Went.of_below (F := F) (bel2 L2.out (one_new _ _))).trans g3
  have G5 := Lib.hid ((went_node (o := NdO ⟨segB br, d, []⟩ (.slice a' br.acl.length c') (.slice none 0 0)) O3.out F T3 (by simp)).trans g5.ofdrew)
  have H5 := Lib.hid h5
  clear m3 g3 h4 g5 h5 T3
  go_region
  go_wp2_with (go_at_call 42; ((refine (bind_at (g := w3.heap.size) (x := ⟨segB br, d, []⟩) ⟨_, _, _, _, _, H5.out⟩ (upd_same _ _ _) hs (by omega)).mono ?_); rintro e w5 ⟨rfl, F5, m5, g6⟩; have M5 := Lib.hid m5; have c5 : w5.cell? ⟨w3.heap.size, 2, none⟩ = some (.int .i64 0) := (by obtain ⟨_, _, _, _, _, t⟩ := m5; exact (t.node _ _ (upd_same _ _ _)).cell.2.2.1); have G6 := Lib.hid (G5.out.trans g6); clear m5 g6))
  exact bodyPost_ret (v := .tuple #[.int .i64 0, .int .i64 0]) (by simp [results, Tryd.results18, go_sem]) rfl ⟨rfl, F5, w3.heap.size, by have := L2.out.size; omega, M5.out.at_, G6.out⟩

/-- a directory's node; the state with it -/
def dirX (l d : Int) : Nd := ⟨⟨2, 0, l, [], false, [], 0, 0, 0, 0⟩, d, []⟩
def dirS (st : St) (g : Nat) (d : Int) (s : Txt) : St :=
  bindS { st with last := st.last + 1, N := upd st.N g (some (dirX (st.last + 1) d)), Z := upd st.Z (st.last + 1) (some 0) } g (dirX (st.last + 1) d) s

theorem nil_own (base : Nat) (w : World) : A.Own base w (.slice none 0 0) [] := A.Own.nil _ _

set_option maxHeartbeats 4000000 in
theorem add_dir (h : TreeAt w b F c st) {d : Int} {s : Txt} (hd : rng d) (hs : s.length ≤ maxLen) (hf : freeE st d s = 0) {br : Br} {a : Option Addr} {n cc : Nat} (hk : br.kind = 2) (hc : c < 10000) :
    Calls Tryd.prog 18 #[TP b, .int .i64 d, .string (bs s), BrV br (.slice a n cc)] w fun e w' => e = .returned (.tuple #[.int .i64 (st.last + 1), .int .i64 0]) ∧ ∃ F' g, w.heap.size ≤ g ∧ TreeAt w' b F' (c + 5) (dirS st g d s) ∧ Went F w F' w' := by
  have H := Lib.hid h
  have HF := Lib.hid hf
  have HK := Lib.hid hk
  have hltF := Lib.hid h.ltF
  have k1 : (dirB.kind == 1) = false := rfl
  have k2 : (dirB.kind == 2) = true := rfl
  have hlb : 0 ≤ st.last ∧ st.last ≤ c := by obtain ⟨mp, mg, mz, av, nv, h⟩ := h; exact h.lb
  obtain ⟨hl0, hl1⟩ := hlb
  have hl2 : st.last + 1 ≤ 20000 := by omega
  have HU : rng (st.last + 1) := ⟨by omega, by omega⟩
  have HO : Hid ((dirX (st.last + 1) d).Ok (c + 1)) := Lib.hid ⟨Nat.zero_le _, hd, by unfold dirX rng; simp, HU, fun t ht => (by cases ht), Nat.zero_le _⟩
  have hbl := h.ltF b (by obtain ⟨mp, mg, mz, av, nv, h⟩ := h; exact h.inF)
  clear h hf hk
  go_enter Tryd.func18, Tryd.ntmps18
  go_wp2_with (first
    | (go_at_call 39; ((refine (free_at (H.out.alloc _) hd hs HF.out).mono ?_); rintro e w1 ⟨rfl, n1, rfl⟩))
    | (go_at_call 40; ((refine (taken_dir HK.out _).mono ?_); rintro e w2 ⟨rfl, b2⟩; have L2 := Lib.hid (bel2 (bel2 (one_new w (BrO br (.slice a n cc))) (bel_drewN _ n1)) b2); clear b2))
    | (go_at_call 41; ((refine (prepare_at ((H.out.below L2.out).alloc (BrO dirB (.slice none 0 0)))).mono ?_); rintro e w3 ⟨rfl, F3, ⟨p, gm, z, av, nv, m3⟩, g3⟩; have X3 := box_went hltF.out L2.out g3; obtain ⟨p0, p1, p2, p3, p4, p5, p6, p7, p8, p9⟩ := X3.cell; have x3 := X3.lt; have hb3 := m3.lt; have c0 := m3.c0; have f0 := m3.fz 0)))
  have h4 := ((m3.mono (Nat.le_succ c)).setLast (st.last + 1) (by omega) (by omega)).newNode (x := dirX (st.last + 1) d) rfl HO.out (A.Own.nil 0 _)
  have T3 := ((Went.of_below (F := F) (bel2 L2.out (one_new _ _))).trans g3).set (b := b) (i := 0) (v := .int .i64 (st.last + 1)) m3.inF
  have G4 := went_node (o := NdO (dirX (st.last + 1) d) (.slice none 0 0) (.slice none 0 0)) (nil_own w.heap.size (w3.setCell ⟨b, 0, none⟩ (.int .i64 (st.last + 1)))) F T3 (Nat.le_refl _)
  rw [show (w3.setCell ⟨b, 0, none⟩ (.int .i64 (st.last + 1))).heap.size = w3.heap.size by simp] at h4 G4
  have hL3 : w.heap.size ≤ w3.heap.size := by have := L2.out.size; omega
  clear m3 g3 T3 p0 p1 p2 p3 p4 p5 p6 p7 p8 p9 X3 c0 f0
  refine (show Code.wp _ _ _ _ ((w3.setCell ⟨b, 0, none⟩ (.int .i64 (st.last + 1))).alloc (NdO (dirX (st.last + 1) d) (.slice none 0 0) (.slice none 0 0))) from ?_)
  generalize (w3.setCell ⟨b, 0, none⟩ (.int .i64 (st.last + 1))).alloc (NdO (dirX (st.last + 1) d) (.slice none 0 0) (.slice none 0 0)) = V at h4 G4 ⊢
  obtain ⟨w4, r4, h5, g5⟩ := h4.drew.putZ (d := st.last + 1) (n := 0) HU (by omega) (by omega) (by unfold maxLen; omega)
  have c3 := h4.drew.c3
  have c0 : V.drew.cell? ⟨b, 0, none⟩ = some (.int .i64 (st.last + 1)) := h4.drew.c0
  have H5 := Lib.hid h5
  have G5 := Lib.hid (G4.trans g5.ofdrew)
  clear h4 G4 h5 g5
  go_region
  go_wp2_with (go_at_call 42; ((refine (bind_at (g := w3.heap.size) (x := dirX (st.last + 1) d) ⟨_, _, _, _, _, H5.out⟩ (upd_same _ _ _) hs (by omega)).mono ?_); rintro e w5 ⟨rfl, F5, m5, g6⟩; have M5 := Lib.hid m5; have c5 : w5.cell? ⟨w3.heap.size, 2, none⟩ = some (.int .i64 (st.last + 1)) := (by obtain ⟨_, _, _, _, _, t⟩ := m5; exact (t.node _ _ (upd_same _ _ _)).cell.2.2.1); have G6 := Lib.hid (G5.out.trans g6); clear m5 g6))
  exact bodyPost_ret (v := .tuple #[.int .i64 (st.last + 1), .int .i64 0]) (by simp [results, Tryd.results18, go_sem]) rfl ⟨rfl, F5, w3.heap.size, hL3, M5.out.at_, G6.out⟩

theorem add_no (h : TreeAt w b F c st) {d : Int} {s : Txt} (hd : rng d) (hs : s.length ≤ maxLen) {r : Int} (hf : freeE st d s = r) (hr : ¬ r = 0) {br : Br} {a : Option Addr} {n cc : Nat} :
    Calls Tryd.prog 18 #[TP b, .int .i64 d, .string (bs s), BrV br (.slice a n cc)] w fun e w' => e = .returned (.tuple #[.int .i64 0, .int .i64 r]) ∧ Below w.heap.size w w' := by
  have H := Lib.hid h
  have HF := Lib.hid hf
  have e1 : (r == 0) = false := by simpa using hr
  clear h hf hr
  go_enter Tryd.func18, Tryd.ntmps18
  go_wp2_with (go_at_call 39; ((refine (free_at (H.out.alloc _) hd hs HF.out).mono ?_); rintro e w1 ⟨rfl, n1, rfl⟩))
  exact bodyPost_ret (v := .tuple #[.int .i64 0, .int .i64 r]) (by simp [results, Tryd.results18, go_sem]) rfl ⟨rfl, bel2 (one_new _ _) (bel_drewN _ _)⟩

theorem add_bad (h : TreeAt w b F c st) {d : Int} {s : Txt} (hd : rng d) (hs : s.length ≤ maxLen) (hf : freeE st d s = 0) {br : Br} {a : Option Addr} {cc : Nat} (hr : TRow w a cc br.acl) {r : Int} (hr0 : ¬ r = 0)
    (ht : ∀ V, TreeAt V b F c st → TRow V a cc br.acl → Calls Tryd.prog 40 #[TP b, BrV br (.slice a br.acl.length cc)] V fun e w' => e = .returned (.tuple #[BrV noBr (.slice none 0 0), .int .i64 r]) ∧ Below V.heap.size V w') :
    Calls Tryd.prog 18 #[TP b, .int .i64 d, .string (bs s), BrV br (.slice a br.acl.length cc)] w fun e w' => e = .returned (.tuple #[.int .i64 0, .int .i64 r]) ∧ Below w.heap.size w w' := by
  have H := Lib.hid h
  have HF := Lib.hid hf
  have HR := Lib.hid hr
  have HT := Lib.hid ht
  have e1 : (r == 0) = false := by simpa using hr0
  clear h hf hr hr0 ht
  go_enter Tryd.func18, Tryd.ntmps18
  go_wp2_with (first
    | (go_at_call 39; ((refine (free_at (H.out.alloc _) hd hs HF.out).mono ?_); rintro e w1 ⟨rfl, n1, rfl⟩))
    | (go_at_call 40; ((refine (HT.out _ ((H.out.alloc _).drewN _) ((HR.out.alloc _).drewN _)).mono ?_); rintro e w2 ⟨rfl, b2⟩)))
  exact bodyPost_ret (v := .tuple #[.int .i64 0, .int .i64 r]) (by simp [results, Tryd.results18, go_sem]) rfl ⟨rfl, bel2 (bel2 (bel2 (one_new _ _) (bel_drewN _ _)) b2) (one_new _ _)⟩

end

end Go.Proofs.YtpcdcmoapenbdaaDoor.T
