/-
  The document's own Add of a segment.
  The document's own Add of a directory.
-/
import Derived.Test.YtpcdcmoapenbdaaDoorMAdd
namespace Go.Proofs.YtpcdcmoapenbdaaDoor.T
open Go.ChangeShapes Go.WideShapes Go.ChangeAt Go.RowKit
open Go.Proofs.YtpcdcmoapenbdaaDoor.N (bs bs_data bs_size bs_inj bs_of Glob)
open Go.Proofs.YtpcdcmoapenbdaaDoor.A (Tm TRow)

theorem BmAt.seven {V : World} {k : Nat} {b : Br} {va : Value} (h : BmAt V k b va) : V.cell? ⟨k, 1, none⟩ = some (.int .i64 b.uid) ∧ V.cell? ⟨k, 4, none⟩ = some (.bool b.obj) ∧ V.cell? ⟨k, 5, none⟩ = some va ∧ V.cell? ⟨k, 6, none⟩ = some (.int .i64 b.r1) ∧ V.cell? ⟨k, 7, none⟩ = some (.int .i64 b.r2) ∧ V.cell? ⟨k, 8, none⟩ = some (.int .i64 b.r3) ∧ V.cell? ⟨k, 9, none⟩ = some (.int .i64 b.gt) := by
  obtain ⟨q0, q1, q2, q3, q4, q5, q6, q7, q8, q9⟩ := h.cell
  exact ⟨q1, q4, q5, q6, q7, q8, q9⟩
theorem BmAt.setBr {V : World} {k j : Nat} {b : Br} {va : Value} (h : BmAt V k b va) (hj : k ≠ j) (b' : Br) (va' : Value) : BmAt (setBr V j b' va') k b va := (heap_setBr hj _ _).trans h
theorem seg_now {w V0 w3 : World} {k : Nat} {br : Br} {a3 : Option Addr} {c3 : Nat} (hB : Below w.heap.size w V0) (hk : w.heap.size < k) (o3 : A.Own V0.heap.size w3 (.slice a3 br.acl.length c3) br.acl) (B3 : Below V0.heap.size V0 w3) {x0 : Br} {v0 : Value} (X3 : BmAt w3 k x0 v0) (hkV : k < V0.heap.size) :
    BmAt (setBr w3 k (segB br) (.slice a3 br.acl.length c3)) k (segB br) (.slice a3 br.acl.length c3) ∧ A.Own w.heap.size (setBr w3 k (segB br) (.slice a3 br.acl.length c3)) (.slice a3 br.acl.length c3) br.acl ∧ Below w.heap.size w (setBr w3 k (segB br) (.slice a3 br.acl.length c3)) :=
  ⟨X3.stored _ _, own_base (own_setBr o3 hkV _ _) hB.size, Below.setBr (bel2 hB B3) (by omega) _ _⟩

section
variable {w : World} {b : Nat} {F : Nat → Prop} {m : Ms}

set_option maxHeartbeats 8000000 in
set_option maxRecDepth 8000 in
theorem madd_seg (h : MAt w b F m) {d : Int} {s : Txt} (hs : s.length ≤ maxLen) {br : Br} {a : Option Addr} {cc : Nat} (hr : TRow w a cc br.acl) (htx : ∀ t ∈ br.acl, t.1.length ≤ maxLen) (hl : br.link.length ≤ maxLen) (hR : canE m d s br = 0) (hk : br.kind = 1) (hal : br.acl.length ≤ 1000) (hlB : m.B.length < 1000) (hlE : m.E.length < 1000) :
    Calls Tryd.prog 20 #[TP b, .int .i64 d, .string (bs s), BrV br (.slice a br.acl.length cc)] w fun e w' => e = .returned (.tuple #[.int .i64 0, .int .i64 0]) ∧ Now F w b (addM m d s (segB br)) w' := by
  have hc := can_any (h.alloc (BmO br (.slice a br.acl.length cc))) (d := d) hs (hr.alloc _) htx hl hR
  have H := Lib.hid h
  have HR := Lib.hid hr
  have X0 := Lib.hid (BmAt.new w br (.slice a br.acl.length cc))
  obtain ⟨kd, uu, dd, ll, ob, ac, r1, r2, r3, gt⟩ := br
  simp only at hk
  subst hk
  clear h hr htx hR
  go_enter Tryd.func20, Tryd.ntmps20
  simp only at hal
  go_wp2_with (go_at_call 43; ((refine hc.mono ?_); rintro e w1 ⟨rfl, b1⟩; have X1 := X0.out.below b1; obtain ⟨s0, s1, s2, s3, s4, s5, s6, s7, s8, s9⟩ := X1.cell; have xl := X1.lt; have XX := Lib.hid X1; have B1 := Lib.hid (bel2 (one_new _ _) b1); clear b1 X1))
  have X2 := Lib.hid (BmAt.new w1 ⟨1, 0, 0, [], false, [], 0, 0, 0, 0⟩ (.slice none 0 0))
  have B2 := Lib.hid (bel2 B1.out (one_new w1 (BmO ⟨1, 0, 0, [], false, [], 0, 0, 0, 0⟩ (.slice none 0 0))))
  have X1 : Hid (BmAt (w1.alloc (BmO ⟨1, 0, 0, [], false, [], 0, 0, 0, 0⟩ (.slice none 0 0))) w.heap.size ⟨1, uu, dd, ll, ob, ac, r1, r2, r3, gt⟩ (.slice a ac.length cc)) := Lib.hid (XX.out.below (one_new _ _))
  refine (show Code.wp _ _ _ _ (w1.alloc (BmO ⟨1, 0, 0, [], false, [], 0, 0, 0, 0⟩ (.slice none 0 0))) from ?_)
  generalize w1.alloc (BmO ⟨1, 0, 0, [], false, [], 0, 0, 0, 0⟩ (.slice none 0 0)) = V0 at X1 X2 B2 ⊢
  clear s0 s1 s2 s3 s4 s5 s6 s7 s8 s9 hc X0 XX
  have xl2 := X2.out.lt
  have RV : Hid (TRow V0.drew a cc ac) := Lib.hid (HR.out.below B2.out.drew)
  obtain ⟨q0, q1, q2, q3, q4, q5, q6, q7, q8, q9⟩ := X1.out.cell
  have k7 := Lib.hid (X1.out.below (Below.refl _ _).drew).seven
  go_region_held3 (fun V => V.cell? ⟨w.heap.size, 1, none⟩ = some (.int .i64 uu) ∧ V.cell? ⟨w.heap.size, 4, none⟩ = some (.bool ob) ∧ V.cell? ⟨w.heap.size, 5, none⟩ = some (.slice a ac.length cc) ∧ V.cell? ⟨w.heap.size, 6, none⟩ = some (.int .i64 r1) ∧ V.cell? ⟨w.heap.size, 7, none⟩ = some (.int .i64 r2) ∧ V.cell? ⟨w.heap.size, 8, none⟩ = some (.int .i64 r3) ∧ V.cell? ⟨w.heap.size, 9, none⟩ = some (.int .i64 gt))
    (first | (with_reducible exact k7.out) | (with_reducible exact k8.out) | exact k9.out)
    ((refine step_terms (P := Tryd.prog) rfl (base := V0.drew.heap.size) (v := .slice none 0 0) (l := []) rfl (.const (.slice none 0 0)) (.tmp 33) rfl rfl (A.Own.nil V0.drew.heap.size V0.drew) a cc ac (by simp [Act.eval]) RV.out (by simp; omega) (Nat.le_refl V0.drew.heap.size) ?_; intro a3 c3 w3 o3 g3; have B3 := Lib.hid (of_drew ((A.Own.nil V0.drew.heap.size V0.drew).grown (Below.refl _ _) (Nat.le_refl _) g3)); have X3 := Lib.hid (X2.out.below B3.out); obtain ⟨p0, p1, p2, p3, p4, p5, p6, p7, p8, p9⟩ := X3.out.cell; have pf := X3.out.fz; have pl := X3.out.lt; have k8 := Lib.hid (X1.out.below B3.out).seven; have k9 := Lib.hid ((X1.out.below B3.out).setBr (j := w1.heap.size) (by omega) (segB ⟨1, uu, dd, ll, ob, ac, r1, r2, r3, gt⟩) (.slice a3 ac.length c3)).seven; have O3 : Hid (A.Own V0.heap.size w3 (.slice a3 ac.length c3) ac) := Lib.hid o3; clear o3 g3))
  have sn := seg_now (br := ⟨1, uu, dd, ll, ob, ac, r1, r2, r3, gt⟩) B2.out xl O3.out B3.out X3.out xl2
  refine (show Exit.inBlock 0 _ _ _ (setBr w3 w1.heap.size (segB ⟨1, uu, dd, ll, ob, ac, r1, r2, r3, gt⟩) (.slice a3 ac.length c3)) from ?_)
  clear k7 k8 k9 p0 p1 p2 p3 p4 p5 p6 p7 p8 p9 pf pl X3 O3 B3 X1 X2 B2 RV q0 q1 q2 q3 q4 q5 q6 q7 q8 q9
  generalize setBr w3 w1.heap.size (segB ⟨1, uu, dd, ll, ob, ac, r1, r2, r3, gt⟩) (.slice a3 ac.length c3) = V at sn ⊢
  obtain ⟨x9, o9, b9⟩ := sn
  obtain ⟨bl, vB, vL, vD, h2, hB⟩ := H.out.below b9
  have B9 := Lib.hid b9
  have OA : Hid (A.Own 0 V (.slice a3 ac.length c3) ac) := Lib.hid (own_base o9 (Nat.zero_le _))
  have HA : Hid (∀ k, (Value.slice a3 ac.length c3).ownBlock = some k → w.heap.size ≤ k) := Lib.hid (fun k e => (World.ownsRow.lt o9 k e).1)
  have WV : Hid (Went F w F V) := Lib.hid (Went.of_below b9)
  have X9 := Lib.hid x9
  obtain ⟨t0, t1, t2, t3, t4, t5, t6, t7, t8, t9⟩ := x9.cell
  have xl3 := x9.lt
  clear x9 o9 b9
  go_wp2
  have c0 := h2.c0
  have f0 := h2.fz
  have bl2 := h2.lt
  obtain ⟨i0, hi, hz0, hz1, hz2⟩ := info_parts info_br
  have HM := Lib.hid (h2.below (Below.refl _ _).drew)
  clear h2
  have hbl : bl.length < 1000 := by rw [← hB] at hlB; simpa using hlB
  have HB := Lib.hid hB
  clear hB hlB
  go_cut [12] (fun s12 W => s12 = .int .i64 0 ∧ Now F w b ⟨m.B ++ [segB ⟨1, uu, dd, ll, ob, ac, r1, r2, r3, gt⟩], m.E, m.D⟩ W)
  case first =>
    go_region_law (refine step_append_lies _ rfl (.tmp 66) (.tmp 68) 64 rfl 0 36 i0 _ 10 104 Tryd.underlying64 hi hz0 hz1 hz2 rfl (by decide) vB bl.length (bl.flatMap brC) (by simp [Act.eval]) (World.ownsRow.alloc HM.out.rB _) ⟨V.heap.size, 0, none⟩ 1 1 (brC (segB ⟨1, uu, dd, ll, ob, ac, r1, r2, r3, gt⟩, .slice a3 ac.length c3)) (by simp [Act.eval]) rfl (World.news_of_block (heap_alloc_new _ _)) (by simp [brC, Value.oneCell']) (by omega) (by unfold maxLen; omega) (by omega) (Nat.zero_le _) (V.heap.size + 1) (by simp) ?_; intro g1 cap1 w3 o3 g3 a3 l3; have AP : Apd V.drew w3 vB (.slice (some ⟨g1, 0, none⟩) (bl.length + 1) cap1) := apd_of g3 a3 l3; obtain ⟨k0, k1, k2, kf, kl⟩ := mto_cells (HM.out.headB AP))
    all_goals
      go_wp2
      go_meet
    all_goals exact ⟨rfl, now_B (m := ⟨m.B, m.E, m.D⟩) WV.out HM.out HB.out OA.out HA.out AP o3 hbl⟩
  case rest =>
    obtain ⟨rfl, F5, hM5, hW5⟩ := hcut
    obtain ⟨bl5, vB5, vL5, vD5, h5, hB5⟩ := hM5
    have HM5 := Lib.hid (h5.below (Below.refl _ _).drew)
    have HW5 := Lib.hid hW5
    have HB5 := Lib.hid hB5
    have c50 := h5.c0
    have c51 := h5.c1
    have f5 := h5.fz
    have bl5' := h5.lt
    obtain ⟨a5, cap5, e5, hc5, _, _⟩ := row_form h5.rB
    subst e5
    have hn5 : bl.length = m.B.length := by have := congrArg List.length HB.out; simpa using this
    have HN5 := Lib.hid hn5
    have hbm : (bl5.length : Int) - 1 = (bl.length : Int) := by
      have h1 := congrArg List.length hB5
      simp at h1
      omega
    have hbm' : IntKind.i64.wrap (bl.length : Int) = (bl.length : Int) := IntWalk.i64_in _ (by omega)
    obtain ⟨i1, hj, hy0, hy1, hy2⟩ := info_parts info_en
    clear h5 hB5 hW5 hn5 HM WV OA c0 f0 bl2 t0 t1 t2 t3 t4 t5 t6 t7 t8 t9 X9
    simp only at HM5 HB5
    go_wp2
    go_region_law (refine step_append_lies _ rfl (.tmp 76) (.tmp 86) 65 rfl 0 99 i1 _ 3 32 Tryd.underlying65 hj hy0 hy1 hy2 rfl (by decide) vL5 m.E.length (m.E.flatMap enC) (by simp [Act.eval]) (World.ownsRow.alloc HM5.out.rL _) ⟨wc.heap.size, 0, none⟩ 1 1 (enC (d, bl.length, s)) (by simp [Act.eval]) rfl (World.news_of_block (heap_alloc_new _ _)) (by simp [enC, Value.oneCell']) (by omega) (by unfold maxLen; omega) (by omega) (Nat.zero_le _) (wc.heap.size + 1) (by simp) ?_; intro g1 cap1 w6 o6 g6 a6 l6; have AP : Apd wc.drew w6 vL5 (.slice (some ⟨g1, 0, none⟩) (m.E.length + 1) cap1) := apd_of g6 a6 l6; obtain ⟨k0, k1, k2, kf, kl⟩ := mto_cells (HM5.out.headL AP))
    all_goals go_wp2
    all_goals exact bodyPost_ret (v := .tuple #[.int .i64 0, .int .i64 0]) (by simp [results, Tryd.results20, go_sem]) rfl ⟨rfl, now_add HW5.out HM5.out HB5.out HN5.out AP o6 hlE⟩


end

end Go.Proofs.YtpcdcmoapenbdaaDoor.T

namespace Go.Proofs.YtpcdcmoapenbdaaDoor.T
open Go.ChangeShapes Go.WideShapes Go.ChangeAt Go.RowKit
open Go.Proofs.YtpcdcmoapenbdaaDoor.N (bs bs_data bs_size bs_inj bs_of Glob)
open Go.Proofs.YtpcdcmoapenbdaaDoor.A (Tm TRow)

@[reducible] def dir0 : Br := ⟨2, 0, 0, [], false, [], 0, 0, 0, 0⟩
theorem alloc2_new (w : World) (o o' : Obj) : ((w.alloc o).alloc o').heap[w.heap.size + 1]? = some o' := by
  have := heap_alloc_new (w.alloc o) o'
  simpa using this
theorem BmAt.far {w w' : World} {k : Nat} {x : Br} {v : Value} (h : BmAt w k x v) (e : w'.heap[k]? = w.heap[k]?) : BmAt w' k x v := e.trans h
theorem dir_box {w1 w3 : World} {F : Nat → Prop} {bl : List (Br × Value)} {E : List En} {D : List Bool} {vB vL vD v' : Value} {b : Nat} (h : ML (w1.alloc (BmO dir0 (.slice none 0 0))) b F bl E D vB vL vD) (ap : Apd (w1.alloc (BmO dir0 (.slice none 0 0))) w3 vD v') : BmAt w3 w1.heap.size dir0 (.slice none 0 0) ∧ w1.heap.size ≠ b ∧ b ≠ w1.heap.size := by
  have hnew := BmAt.new w1 dir0 (.slice none 0 0)
  have nk : vD.ownBlock ≠ some w1.heap.size := fun e => by
    obtain ⟨cs, hcs⟩ := h.tagD e
    exact tag_ne hnew hcs (by decide) rfl
  have kb : w1.heap.size ≠ b := tag_ne hnew h.head (by decide)
  exact ⟨(ap.block _ (by simp) nk).trans hnew, kb, kb.symm⟩
theorem dir_now {w w1 w3 : World} {F : Nat → Prop} {bl : List (Br × Value)} {E : List En} {D : List Bool} {vB vL vD : Value} {b : Nat} (hB1 : Below w.heap.size w w1) (hw : w.heap.size < w1.heap.size) (hF : ∀ i, F i → i < w.heap.size) (h : ML (w1.alloc (BmO dir0 (.slice none 0 0))) b F bl E D vB vL vD) {g cap : Nat} (ap : Apd (w1.alloc (BmO dir0 (.slice none 0 0))) w3 vD (.slice (some ⟨g, 0, none⟩) (D.length + 1) cap)) (o3 : w3.ownsRow 0 4 1 (.slice (some ⟨g, 0, none⟩) (D.length + 1) cap) (D.length + 1) (D.flatMap boC ++ [.bool true])) (hl : D.length < 1000) :
    (∃ F0, ML ((w3.setCell ⟨b, 2, none⟩ (.slice (some ⟨g, 0, none⟩) (D.length + 1) cap)).setCell ⟨w1.heap.size, 2, none⟩ (.int .i64 D.length)) b F0 bl E (D ++ [true]) vB vL (.slice (some ⟨g, 0, none⟩) (D.length + 1) cap) ∧ Went F w F0 ((w3.setCell ⟨b, 2, none⟩ (.slice (some ⟨g, 0, none⟩) (D.length + 1) cap)).setCell ⟨w1.heap.size, 2, none⟩ (.int .i64 D.length)))
      ∧ BmAt ((w3.setCell ⟨b, 2, none⟩ (.slice (some ⟨g, 0, none⟩) (D.length + 1) cap)).setCell ⟨w1.heap.size, 2, none⟩ (.int .i64 D.length)) w1.heap.size (dirN D.length) (.slice none 0 0) := by
  obtain ⟨h1, h2⟩ := h.putD ap o3 hl
  have hnew := BmAt.new w1 dir0 (.slice none 0 0)
  have nk : vD.ownBlock ≠ some w1.heap.size := fun e => by
    obtain ⟨cs, hcs⟩ := h.tagD e
    exact tag_ne hnew hcs (by decide) rfl
  have kb : w1.heap.size ≠ b := tag_ne hnew h.head (by decide)
  have h3 : BmAt w3 w1.heap.size dir0 (.slice none 0 0) := (ap.block _ (by simp) nk).trans hnew
  have ng : g ≠ w1.heap.size := fun e => by
    obtain ⟨cs, hcs⟩ := row_tag o3 (k := g) rfl
    rw [e] at hcs
    exact tag_ne h3 hcs (by decide) rfl
  have h4 : BmAt (w3.setCell ⟨b, 2, none⟩ (.slice (some ⟨g, 0, none⟩) (D.length + 1) cap)) w1.heap.size dir0 (.slice none 0 0) := (other_set _ _ kb).trans h3
  have out : ∀ i, (F i ∨ (Value.slice (some ⟨g, 0, none⟩) (D.length + 1) cap).ownBlock = some i) → i ≠ w1.heap.size := fun i hi => by
    rcases hi with hi | hi
    · have := hF i hi
      omega
    · cases hi
      exact ng
  refine ⟨⟨_, h1.keep (by simp) (fun i hi => other_set _ _ (out i hi)), ?_⟩, ?_⟩
  · have h5 := (Went.of_below (F := F) (bel2 hB1 (one_new w1 (BmO dir0 (.slice none 0 0))))).trans h2
    refine ⟨h5.os, h5.tape, h5.output, by simpa using h5.size, fun i hi hn => (other_set _ _ (by omega)).trans (h5.block i hi hn), h5.foot⟩
  · unfold BmAt at h4 ⊢
    rw [head_set h4]
    simp [dirN]

section
variable {w : World} {b : Nat} {F : Nat → Prop} {m : Ms}

set_option maxHeartbeats 8000000 in
set_option maxRecDepth 8000 in
theorem madd_dir (h : MAt w b F m) {d : Int} {s : Txt} (hs : s.length ≤ maxLen) {br : Br} {a : Option Addr} {cc : Nat} (hr : TRow w a cc br.acl) (htx : ∀ t ∈ br.acl, t.1.length ≤ maxLen) (hl : br.link.length ≤ maxLen) (hR : canE m d s br = 0) (hk : br.kind = 2) (hlD : m.D.length < 1000) (hlB : m.B.length < 1000) (hlE : m.E.length < 1000) :
    Calls Tryd.prog 20 #[TP b, .int .i64 d, .string (bs s), BrV br (.slice a br.acl.length cc)] w fun e w' => e = .returned (.tuple #[.int .i64 m.D.length, .int .i64 0]) ∧ Now F w b (addDM m d s) w' := by
  have hc := can_any (h.alloc (BmO br (.slice a br.acl.length cc))) (d := d) hs (hr.alloc _) htx hl hR
  have H := Lib.hid h
  have HR := Lib.hid hr
  have X0 := Lib.hid (BmAt.new w br (.slice a br.acl.length cc))
  obtain ⟨kd, uu, dd, ll, ob, ac, r1, r2, r3, gt⟩ := br
  simp only at hk
  subst hk
  clear h hr htx hR
  go_enter Tryd.func20, Tryd.ntmps20
  obtain ⟨i2, hk, hx0, hx1, hx2⟩ := info_parts info_bo
  have HF := Lib.hid H.out.ltF
  go_wp2_with (first
    | (go_at_call 43; ((refine hc.mono ?_); rintro e w1 ⟨rfl, b1⟩; have X1 := X0.out.below b1; obtain ⟨s0, s1, s2, s3, s4, s5, s6, s7, s8, s9⟩ := X1.cell; have xl := X1.lt; have B1 := Lib.hid (bel2 (one_new _ _) b1); obtain ⟨bl, vB, vL, vD, hm, hB⟩ := H.out.below B1.out; have HM1 := Lib.hid (hm.below (one_new w1 (BmO dir0 (.slice none 0 0)))); have m2 := hm.c2; have mf := hm.fz; have ml := hm.lt; have mlen := hm.len.2.2; clear b1 X1 hm))
    | (at_builtin; refine wpList_append_lies _ rfl (.tmp 44) (.tmp 45) 63 rfl 0 4 i2 _ 1 1 Tryd.underlying63 hk hx0 hx1 hx2 rfl (by decide) vD m.D.length (m.D.flatMap boC) rfl (World.ownsRow.alloc HM1.out.rD _) ⟨w1.heap.size + 1, 0, none⟩ 1 1 [.bool true] rfl rfl (World.news_of_block (alloc2_new w1 _ _)) (by simp [Value.oneCell']) (by omega) (by unfold maxLen; omega) (by omega) (Nat.zero_le _) (w1.heap.size + 1 + 1) (by simp) ?_; intro g1 cap1 w3 o3 g3 a3 l3; have AP : Apd (w1.alloc (BmO dir0 (.slice none 0 0))) w3 vD (.slice (some ⟨g1, 0, none⟩) (m.D.length + 1) cap1) := apd_of g3 (by simpa using a3) l3; obtain ⟨k0, k1, k2, kf, kl⟩ := mto_cells (HM1.out.headD AP); obtain ⟨y3, n3, n4⟩ := dir_box HM1.out AP; obtain ⟨y0, y1, y2, y3', y4, y5, y6, y7, y8, y9⟩ := y3.cell; have yf := y3.fz; have yl := y3.lt; have dn := Lib.hid (dir_now B1.out xl HF.out HM1.out AP o3 hlD)))
  refine (show Code.wp _ _ _ _ ((w3.setCell ⟨b, 2, none⟩ (.slice (some ⟨g1, 0, none⟩) (m.D.length + 1) cap1)).setCell ⟨w1.heap.size, 2, none⟩ (.int .i64 m.D.length)) from ?_)
  have dn' := dn.out
  clear dn y0 y1 y2 y3' y4 y5 y6 y7 y8 y9 yf yl y3 k0 k1 k2 kf kl AP HM1 m2 mf ml s0 s1 s2 s3 s4 s5 s6 s7 s8 s9 hc X0
  generalize (w3.setCell ⟨b, 2, none⟩ (.slice (some ⟨g1, 0, none⟩) (m.D.length + 1) cap1)).setCell ⟨w1.heap.size, 2, none⟩ (.int .i64 m.D.length) = V at dn' ⊢
  obtain ⟨⟨F0, h2, hWV⟩, x9⟩ := dn'
  have OA : Hid (A.Own 0 V (.slice none 0 0) (dirN m.D.length).acl) := Lib.hid (A.Own.nil _ _)
  have WV : Hid (Went F w F0 V) := Lib.hid hWV
  have X9 := Lib.hid x9
  obtain ⟨t0, t1, t2, t3, t4, t5, t6, t7, t8, t9⟩ := x9.cell
  have xl3 := x9.lt
  clear x9 hWV o3 g3 a3 l3 n3 n4
  have c0 := h2.c0
  have f0 := h2.fz
  have bl2 := h2.lt
  obtain ⟨i0, hi, hz0, hz1, hz2⟩ := info_parts info_br
  have HM := Lib.hid (h2.below (Below.refl _ _).drew)
  clear h2
  have hbl : bl.length < 1000 := by rw [← hB] at hlB; simpa using hlB
  have HB := Lib.hid hB
  clear hB hlB
  go_cut [12] (fun s12 W => s12 = .int .i64 m.D.length ∧ Now F w b ⟨m.B ++ [dirN m.D.length], m.E, m.D ++ [true]⟩ W)
  case first =>
    go_region_law (refine step_append_lies _ rfl (.tmp 66) (.tmp 68) 64 rfl 0 36 i0 _ 10 104 Tryd.underlying64 hi hz0 hz1 hz2 rfl (by decide) vB bl.length (bl.flatMap brC) (by simp [Act.eval]) (World.ownsRow.alloc HM.out.rB _) ⟨V.heap.size, 0, none⟩ 1 1 (brC (dirN m.D.length, .slice none 0 0)) (by simp [Act.eval]) rfl (World.news_of_block (heap_alloc_new _ _)) (by simp [brC, Value.oneCell']) (by omega) (by unfold maxLen; omega) (by omega) (Nat.zero_le _) (V.heap.size + 1) (by simp) ?_; intro g1 cap1 w3 o3 g3 a3 l3; have AP : Apd V.drew w3 vB (.slice (some ⟨g1, 0, none⟩) (bl.length + 1) cap1) := apd_of g3 a3 l3; obtain ⟨k0, k1, k2, kf, kl⟩ := mto_cells (HM.out.headB AP))
    all_goals
      go_wp2
      go_meet
    all_goals exact ⟨rfl, now_B (m := ⟨m.B, m.E, m.D ++ [true]⟩) WV.out HM.out HB.out OA.out (fun k e => by cases e) AP o3 hbl⟩
  case rest =>
    obtain ⟨rfl, F5, hM5, hW5⟩ := hcut
    obtain ⟨bl5, vB5, vL5, vD5, h5, hB5⟩ := hM5
    have HM5 := Lib.hid (h5.below (Below.refl _ _).drew)
    have HW5 := Lib.hid hW5
    have HB5 := Lib.hid hB5
    have c50 := h5.c0
    have c51 := h5.c1
    have f5 := h5.fz
    have bl5' := h5.lt
    obtain ⟨a5, cap5, e5, hc5, _, _⟩ := row_form h5.rB
    subst e5
    have hn5 : bl.length = m.B.length := by have := congrArg List.length HB.out; simpa using this
    have HN5 := Lib.hid hn5
    have hbm : (bl5.length : Int) - 1 = (bl.length : Int) := by
      have h1 := congrArg List.length hB5
      simp at h1
      omega
    have hbm' : IntKind.i64.wrap (bl.length : Int) = (bl.length : Int) := IntWalk.i64_in _ (by omega)
    obtain ⟨i1, hj, hy0, hy1, hy2⟩ := info_parts info_en
    clear h5 hB5 hW5 hn5 HM WV OA c0 f0 bl2 t0 t1 t2 t3 t4 t5 t6 t7 t8 t9 X9
    simp only at HM5 HB5
    go_wp2
    go_region_law (refine step_append_lies _ rfl (.tmp 76) (.tmp 86) 65 rfl 0 99 i1 _ 3 32 Tryd.underlying65 hj hy0 hy1 hy2 rfl (by decide) vL5 m.E.length (m.E.flatMap enC) (by simp [Act.eval]) (World.ownsRow.alloc HM5.out.rL _) ⟨wc.heap.size, 0, none⟩ 1 1 (enC (d, bl.length, s)) (by simp [Act.eval]) rfl (World.news_of_block (heap_alloc_new _ _)) (by simp [enC, Value.oneCell']) (by omega) (by unfold maxLen; omega) (by omega) (Nat.zero_le _) (wc.heap.size + 1) (by simp) ?_; intro g1 cap1 w6 o6 g6 a6 l6; have AP : Apd wc.drew w6 vL5 (.slice (some ⟨g1, 0, none⟩) (m.E.length + 1) cap1) := apd_of g6 a6 l6; obtain ⟨k0, k1, k2, kf, kl⟩ := mto_cells (HM5.out.headL AP))
    all_goals go_wp2
    all_goals exact bodyPost_ret (v := .tuple #[.int .i64 m.D.length, .int .i64 0]) (by simp [results, Tryd.results20, go_sem]) rfl ⟨rfl, now_add HW5.out HM5.out HB5.out HN5.out AP o6 hlE⟩

end

end Go.Proofs.YtpcdcmoapenbdaaDoor.T
