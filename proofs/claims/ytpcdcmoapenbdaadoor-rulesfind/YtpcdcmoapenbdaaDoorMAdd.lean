/-
  The document's own Add.
-/
import Derived.Test.YtpcdcmoapenbdaaDoorMTurn
import Derived.IntWalk
namespace Go.Proofs.YtpcdcmoapenbdaaDoor.T
open Go.ChangeShapes Go.WideShapes Go.ChangeAt Go.RowKit
open Go.Proofs.YtpcdcmoapenbdaaDoor.N (bs bs_data bs_size bs_inj bs_of Glob)
open Go.Proofs.YtpcdcmoapenbdaaDoor.A (Tm TRow)

/-- one branch more, by one name -/
def addM (m : Ms) (d : Int) (s : Txt) (x : Br) : Ms := ⟨m.B ++ [x], m.E ++ [(d, m.B.length, s)], m.D⟩
def addDM (m : Ms) (d : Int) (s : Txt) : Ms := ⟨m.B ++ [dirN m.D.length], m.E ++ [(d, m.B.length, s)], m.D ++ [true]⟩

theorem BmAt.set3 {w : World} {k : Nat} {u : Txt} {kd : Int} (h : BmAt w k ⟨kd, 0, 0, [], false, [], 0, 0, 0, 0⟩ (.slice none 0 0)) : BmAt (w.setCell ⟨k, 3, none⟩ (.string (bs u))) k ⟨kd, 0, 0, u, false, [], 0, 0, 0, 0⟩ (.slice none 0 0) := by
  unfold BmAt at h ⊢
  rw [head_set h]
  simp

/-- behind an append: the tree is m, and what changed since w was F, or is new -/
def Now (F : Nat → Prop) (w : World) (b : Nat) (m : Ms) (W : World) : Prop := ∃ F', MAt W b F' m ∧ Went F w F' W

theorem now_B {F : Nat → Prop} {w V w' : World} {b : Nat} {m : Ms} {bl : List (Br × Value)} {vB vL vD v' : Value} {F0 : Nat → Prop} (hw : Went F w F0 V) (h : ML V.drew b F0 bl m.E m.D vB vL vD) (hB : bl.map Prod.fst = m.B) {x : Br} {av : Value} (ha : A.Own 0 V av x.acl) (hav : ∀ k, av.ownBlock = some k → w.heap.size ≤ k) (ap : Apd V.drew w' vB v') (hown : w'.ownsRow 0 36 10 v' (bl.length + 1) (bl.flatMap brC ++ brC (x, av))) (hl : bl.length < 1000) :
    Now F w b ⟨m.B ++ [x], m.E, m.D⟩ (w'.setCell ⟨b, 0, none⟩ v') := by
  obtain ⟨h1, h2⟩ := h.putB ha ap hown hl
  refine ⟨_, ⟨_, _, _, _, h1, by rw [List.map_append, hB]; rfl⟩, ?_⟩
  refine (hw.trans h2.ofdrew).mk' (fun i hi => ?_)
  rcases hi with hi | hi | hi
  · exact Or.inl (Or.inl hi)
  · exact Or.inl (Or.inr hi)
  · exact Or.inr (hav i hi)
theorem now_L {F : Nat → Prop} {w V w' : World} {b : Nat} {m : Ms} {bl : List (Br × Value)} {vB vL vD v' : Value} {F0 : Nat → Prop} (hw : Went F w F0 V) (h : ML V.drew b F0 bl m.E m.D vB vL vD) (hB : bl.map Prod.fst = m.B) {E' : List En} (ap : Apd V.drew w' vL v') (hown : w'.ownsRow 0 99 3 v' E'.length (E'.flatMap enC)) (hl : E'.length ≤ 1000) (hi : ∀ e ∈ E', e.2.1 < bl.length) :
    Now F w b ⟨m.B, E', m.D⟩ (w'.setCell ⟨b, 1, none⟩ v') := by
  obtain ⟨h1, h2⟩ := h.putL ap hown hl hi
  exact ⟨_, ⟨_, _, _, _, h1, hB⟩, hw.trans h2.ofdrew⟩

theorem now_add {F : Nat → Prop} {w V w' : World} {b : Nat} {B : List Br} {x : Br} {E : List En} {D : List Bool} {bl : List (Br × Value)} {vB vL vD v' : Value} {F0 : Nat → Prop} (hw : Went F w F0 V) (h : ML V.drew b F0 bl E D vB vL vD) (hB : bl.map Prod.fst = B ++ [x]) {d : Int} {n : Nat} {s : Txt} (hn : n = B.length) (ap : Apd V.drew w' vL v') (hown : w'.ownsRow 0 99 3 v' (E.length + 1) (E.flatMap enC ++ enC (d, n, s))) (hl : E.length < 1000) :
    Now F w b ⟨B ++ [x], E ++ [(d, B.length, s)], D⟩ (w'.setCell ⟨b, 1, none⟩ v') := by
  subst hn
  have hlen : bl.length = B.length + 1 := by have := congrArg List.length hB; simpa using this
  refine now_L (m := ⟨B ++ [x], E, D⟩) hw h hB ap (by rw [List.length_append, List.flatMap_append]; simpa using hown) (by simp; omega) (fun e he => ?_)
  rcases List.mem_append.1 he with he | he
  · exact h.ids e he
  · rw [List.mem_singleton.1 he]
    show B.length < bl.length
    omega

section
variable {w : World} {b : Nat} {F : Nat → Prop} {m : Ms}

set_option maxHeartbeats 8000000 in
set_option maxRecDepth 8000 in
theorem madd_link (h : MAt w b F m) {d : Int} {s : Txt} (hs : s.length ≤ maxLen) {br : Br} {a : Option Addr} {cc : Nat} (hr : TRow w a cc br.acl) (htx : ∀ t ∈ br.acl, t.1.length ≤ maxLen) (hl : br.link.length ≤ maxLen) (hR : canE m d s br = 0) (hk : br.kind = 3) (hlB : m.B.length < 1000) (hlE : m.E.length < 1000) :
    Calls Tryd.prog 20 #[TP b, .int .i64 d, .string (bs s), BrV br (.slice a br.acl.length cc)] w fun e w' => e = .returned (.tuple #[.int .i64 0, .int .i64 0]) ∧ Now F w b (addM m d s (linkB br.link)) w' := by
  have hc := can_any (h.alloc (BmO br (.slice a br.acl.length cc))) (d := d) hs (hr.alloc _) htx hl hR
  have H := Lib.hid h
  have HR := Lib.hid hr
  have X0 := Lib.hid (BmAt.new w br (.slice a br.acl.length cc))
  obtain ⟨kd, uu, dd, ll, ob, ac, r1, r2, r3, gt⟩ := br
  simp only at hk
  subst hk
  clear h hr htx hR
  go_enter Tryd.func20, Tryd.ntmps20
  go_wp2_with (go_at_call 43; ((refine hc.mono ?_); rintro e w1 ⟨rfl, b1⟩; have X1 := X0.out.below b1; obtain ⟨s0, s1, s2, s3, s4, s5, s6, s7, s8, s9⟩ := X1.cell; have xl := X1.lt; have B1 := Lib.hid (bel2 (one_new _ _) b1); clear b1 X1))
  have X2 := Lib.hid (BmAt.new w1 (linkB ll) (.slice none 0 0))
  have B2 := Lib.hid (bel2 B1.out (one_new w1 (BmO (linkB ll) (.slice none 0 0))))
  obtain ⟨bl, vB, vL, vD, h2, hB⟩ := H.out.below B2.out
  refine (show Code.wp _ _ _ _ (w1.alloc (BmO (linkB ll) (.slice none 0 0))) from ?_)
  generalize w1.alloc (BmO (linkB ll) (.slice none 0 0)) = V at X2 B2 h2 ⊢
  obtain ⟨t0, t1, t2, t3, t4, t5, t6, t7, t8, t9⟩ := X2.out.cell
  have xl2 := X2.out.lt
  clear s0 s1 s2 s3 s4 s5 s6 s7 s8 s9 hc X0
  have WV : Hid (Went F w F V) := Lib.hid (Went.of_below B2.out)
  have OA : Hid (A.Own 0 V (.slice none 0 0) (linkB ll).acl) := Lib.hid (A.Own.nil _ _)
  have c0 := h2.c0
  have f0 := h2.fz
  have bl2 := h2.lt
  obtain ⟨i0, hi, hz0, hz1, hz2⟩ := info_parts info_br
  have HM := Lib.hid (h2.below (Below.refl _ _).drew)
  clear h2
  have hbl : bl.length < 1000 := by rw [← hB] at hlB; simpa using hlB
  have HB := Lib.hid hB
  clear hB hlB
  go_cut [12] (fun s12 W => s12 = .int .i64 0 ∧ Now F w b ⟨m.B ++ [linkB ll], m.E, m.D⟩ W)
  case first =>
    go_region_law (refine step_append_lies _ rfl (.tmp 66) (.tmp 68) 64 rfl 0 36 i0 _ 10 104 Tryd.underlying64 hi hz0 hz1 hz2 rfl (by decide) vB bl.length (bl.flatMap brC) (by simp [Act.eval]) (World.ownsRow.alloc HM.out.rB _) ⟨V.heap.size, 0, none⟩ 1 1 (brC (linkB ll, .slice none 0 0)) (by simp [Act.eval]) rfl (World.news_of_block (heap_alloc_new _ _)) (by simp [brC, Value.oneCell']) (by omega) (by unfold maxLen; omega) (by omega) (Nat.zero_le _) (V.heap.size + 1) (by simp) ?_; intro g1 cap1 w3 o3 g3 a3 l3; have AP : Apd V.drew w3 vB (.slice (some ⟨g1, 0, none⟩) (bl.length + 1) cap1) := apd_of g3 a3 l3; obtain ⟨k0, k1, k2, kf, kl⟩ := mto_cells (HM.out.headB AP))
    all_goals
      go_wp2
      go_meet
    all_goals exact ⟨rfl, now_B (m := ⟨m.B, m.E, m.D⟩) WV.out HM.out HB.out OA.out (fun k e => by cases e) AP o3 hbl⟩
  case rest =>
    obtain ⟨rfl, F5, hM5, hW5⟩ := hcut
    obtain ⟨bl5, vB5, vL5, vD5, h5, hB5⟩ := hM5
    have HM5 := Lib.hid (h5.below (Below.refl _ _).drew)
    have HW5 := Lib.hid hW5
    have HB5 := Lib.hid hB5
    have c50 := h5.c0
    have c51 := h5.c1
    have f5 := h5.fz
    have bl5' := h5.lt
    obtain ⟨a5, cap5, e5, hc5, _, _⟩ := row_form h5.rB
    subst e5
    have hn5 : bl.length = m.B.length := by have := congrArg List.length HB.out; simpa using this
    have HN5 := Lib.hid hn5
    have hbm : (bl5.length : Int) - 1 = (bl.length : Int) := by
      have h1 := congrArg List.length hB5
      simp at h1
      omega
    have hbm' : IntKind.i64.wrap (bl.length : Int) = (bl.length : Int) := IntWalk.i64_in _ (by omega)
    obtain ⟨i1, hj, hy0, hy1, hy2⟩ := info_parts info_en
    clear h5 hB5 hW5 hn5 HM WV OA c0 f0 bl2 t0 t1 t2 t3 t4 t5 t6 t7 t8 t9 X2
    simp only at HM5 HB5
    go_wp2
    go_region_law (refine step_append_lies _ rfl (.tmp 76) (.tmp 86) 65 rfl 0 99 i1 _ 3 32 Tryd.underlying65 hj hy0 hy1 hy2 rfl (by decide) vL5 m.E.length (m.E.flatMap enC) (by simp [Act.eval]) (World.ownsRow.alloc HM5.out.rL _) ⟨wc.heap.size, 0, none⟩ 1 1 (enC (d, bl.length, s)) (by simp [Act.eval]) rfl (World.news_of_block (heap_alloc_new _ _)) (by simp [enC, Value.oneCell']) (by omega) (by unfold maxLen; omega) (by omega) (Nat.zero_le _) (wc.heap.size + 1) (by simp) ?_; intro g1 cap1 w6 o6 g6 a6 l6; have AP : Apd wc.drew w6 vL5 (.slice (some ⟨g1, 0, none⟩) (m.E.length + 1) cap1) := apd_of g6 a6 l6; obtain ⟨k0, k1, k2, kf, kl⟩ := mto_cells (HM5.out.headL AP))
    all_goals go_wp2
    all_goals exact bodyPost_ret (v := .tuple #[.int .i64 0, .int .i64 0]) (by simp [results, Tryd.results20, go_sem]) rfl ⟨rfl, now_add HW5.out HM5.out HB5.out HN5.out AP o6 hlE⟩

end

end Go.Proofs.YtpcdcmoapenbdaaDoor.T
