/-
  The document's own Access and Ringed.
-/
import Derived.Test.YtpcdcmoapenbdaaDoorMName
namespace Go.Proofs.YtpcdcmoapenbdaaDoor.T
open Go.ChangeShapes Go.WideShapes Go.ChangeAt Go.RowKit
open Go.Proofs.YtpcdcmoapenbdaaDoor.N (bs bs_data bs_size bs_inj bs_of Glob)
open Go.Proofs.YtpcdcmoapenbdaaDoor.A (Tm TRow)

theorem set_map {bl : List (Br × Value)} {B : List Br} (hB : bl.map Prod.fst = B) (i : Nat) (y : Br × Value) : (bl.set i y).map Prod.fst = B.set i y.1 := by
  rw [List.map_set, hB]

section
variable {w : World} {b : Nat} {F : Nat → Prop} {bl : List (Br × Value)} {E : List En} {D : List Bool} {vL vD : Value} {g n cap : Nat}

theorem ML.five (h : ML w b F bl E D (.slice (some ⟨g, 0, none⟩) n cap) vL vD) {i : Nat} (hi : i < bl.length) : w.cell? ⟨g, i * 10 + 5, none⟩ = some bl[i].2 ∧ w.cell? ⟨g, i * 10 + 6, none⟩ = some (.int .i64 bl[i].1.r1) ∧ w.cell? ⟨g, i * 10 + 7, none⟩ = some (.int .i64 bl[i].1.r2) ∧ w.cell? ⟨g, i * 10 + 8, none⟩ = some (.int .i64 bl[i].1.r3) ∧ w.cell? ⟨g, i * 10 + 9, none⟩ = some (.int .i64 bl[i].1.gt) ∧ (∀ j, w.frozen? ⟨g, j, none⟩ = false) ∧ g < w.heap.size := by
  obtain ⟨g', e, _, _, hl, _, _, _, _, _, r5, r6, r7, r8, r9, hf⟩ := h.brAt hi
  cases e
  exact ⟨r5, r6, r7, r8, r9, hf, hl⟩
/-- one cell of a branch is stored -/
theorem ML.setC (h : ML w b F bl E D (.slice (some ⟨g, 0, none⟩) n cap) vL vD) {i j : Nat} (hi : i < bl.length) (hj : j < 10) {u : Value} {y : Br × Value} (e : (brC bl[i]).set j u = brC y) (ha : A.Own 0 w y.2 y.1.acl) :
    ML (w.setCell ⟨g, i * 10 + j, none⟩ u) b (fun k => F k ∨ y.2.ownBlock = some k) (bl.set i y) E D (.slice (some ⟨g, 0, none⟩) n cap) vL vD ∧ Went F w F (w.setCell ⟨g, i * 10 + j, none⟩ u) := by
  obtain ⟨cs0, hg⟩ := h.tagB (k := g) rfl
  have hn : n = bl.length := by
    obtain ⟨a', c', e', _⟩ := row_form h.rB
    cases e'
    rfl
  subst hn
  have othA : ∀ (q : Value) (l : List Tm), A.Own 0 w q l → A.Own 0 (w.setCell ⟨g, i * 10 + j, none⟩ u) q l := fun q l hq => row_of hq (fun k e => by
    obtain ⟨cs, hcs⟩ := row_tag hq e
    exact other_set _ _ (tag_ne hcs hg (by decide)))
  constructor
  · exact {
      head := (other_set _ _ (tag_ne h.head hg (by decide))).trans h.head
      inF := Or.inl h.inF
      ltF := fun k hk => by
        rw [show (w.setCell ⟨g, i * 10 + j, none⟩ u).heap.size = w.heap.size by simp]
        rcases hk with hk | hk
        · exact h.ltF k hk
        · exact (World.ownsRow.lt ha k hk).2
      rB := by
        have h1 := (World.ownsRow.stored h.rB (i * 10 + j) u).1
        rw [flat_set brC 10 brC_len bl i hi hj e] at h1
        rw [List.length_set]
        exact h1
      fB := fun k e => Or.inl (h.fB k e)
      rL := row_of h.rL (fun k e => by
        obtain ⟨cs, hcs⟩ := h.tagL e
        exact other_set _ _ (tag_ne hcs hg (by decide)))
      fL := fun k e => Or.inl (h.fL k e)
      rD := row_of h.rD (fun k e => by
        obtain ⟨cs, hcs⟩ := h.tagD e
        exact other_set _ _ (tag_ne hcs hg (by decide)))
      fD := fun k e => Or.inl (h.fD k e)
      acl := fun p hp => by
        rcases List.mem_or_eq_of_mem_set hp with hp | rfl
        · exact othA _ _ (h.acl p hp)
        · exact othA _ _ ha
      fA := fun p hp k ek => by
        rcases List.mem_or_eq_of_mem_set hp with hp | rfl
        · exact Or.inl (h.fA p hp k ek)
        · exact Or.inr ek
      len := ⟨by rw [List.length_set]; exact h.len.1, h.len.2⟩
      ids := fun e he => by rw [List.length_set]; exact h.ids e he }
  · exact ⟨rfl, rfl, rfl, by simp, fun k hk hn => other_set _ _ (fun e => hn (by rw [e]; exact h.fB g rfl)), fun _ h => Or.inl h⟩

end

/-- what an Access, a Ringed is refused with -/
def accE (m : Ms) (d : Int) (s : Txt) (ok : Bool) : Int := match lkM m d s with
  | none => 4
  | some x => if x.kind = 1 then (if ok then 0 else 1) else 15
def aclB (x : Br) (l : List Tm) : Br := { x with acl := l }
def ringB (x : Br) (r1 r2 r3 gt : Int) : Br := { x with r1 := r1, r2 := r2, r3 := r3, gt := gt }
def setM (m : Ms) (i : Nat) (y : Br) : Ms := ⟨m.B.set i y, m.E, m.D⟩

section
variable {w : World} {b : Nat} {F : Nat → Prop} {m : Ms}

theorem ptr_nil113 (w : World) : (binOp .eql 111 (.pointer none) (.pointer none)).run Tryd.prog w = .ok (.bool true) w := by kernel_rfl

set_option maxHeartbeats 4000000 in
theorem macc_at (h : MAt w b F m) {d : Int} {s : Txt} {k : Nat} (h1 : at? m.E d s = some k) {e : En} (hE : m.E[k]? = some e) {x : Br} (hX : m.B[e.2.1]? = some x) (hk : x.kind = 1) {a : Option Addr} {cc : Nat} {l : List Tm} (hr : TRow w a cc l) (htx : ∀ t ∈ l, t.1.length ≤ maxLen) (hl : A.lmay l = true) (hll : l.length ≤ 1000) :
    Calls Tryd.prog 55 #[TP b, .int .i64 d, .string (bs s), .slice a l.length cc, .pointer none] w fun e' w' => e' = .returned (.int .i64 0) ∧ Now F w b (setM m e.2.1 (aclB x l)) w' := by
  have a1 := mat_is h (d := d) (s := s) (r := (k : Int)) (by rw [h1]; rfl)
  obtain ⟨bl, vB, vL, vD, h5, hB⟩ := h
  have H := Lib.hid h5
  have HB := Lib.hid hB
  have hkl : k < m.E.length := (List.getElem?_eq_some_iff.1 hE).1
  have hke : m.E[k] = e := (List.getElem?_eq_some_iff.1 hE).2
  obtain ⟨aL, cap, rfl, hc, hn, hg⟩ := h5.eForm
  obtain ⟨a2, cap2, rfl, hc2, hg2, hn2⟩ := row_form h5.rB
  obtain ⟨g, rfl, hgl, q0, q1, q2⟩ := h5.eAt hkl
  have hid : e.2.1 < bl.length := by rw [← hke]; exact h5.ids _ (List.getElem_mem hkl)
  have hx : (bl[e.2.1]).1 = x := by
    rw [← hB, List.getElem?_map, List.getElem?_eq_getElem hid] at hX
    simpa using hX
  obtain ⟨g2, rfl, _, _, hgl2, r0, r1, r2, r3, r4, r5, r6, r7, r8, r9, hfz⟩ := h5.brAt hid
  rw [hke] at q1
  rw [hx] at r0
  rw [hk] at r0
  have HX := Lib.hid hx
  have HR := Lib.hid hr
  have HT := Lib.hid htx
  have HLL := Lib.hid hl
  have HID := Lib.hid hid
  generalize hii : e.2.1 = ii at *
  have c0 := h5.c0
  have c1 := h5.c1
  have bl5 := h5.lt
  have hlen := h5.len.2.1
  have hlenB := h5.len.1
  have hnil := ptr_nil113
  clear h5 hB h1 hE hX hke hx hk q0 q2 r1 r2 r3 r4 r6 r7 r8 r9 hr htx hl hii
  go_enter Tryd.func55, Tryd.ntmps55
  go_wp2_with (go_at_call 45; ((with_reducible refine a1.mono ?_); rintro e w1 ⟨rfl, rfl⟩))
  go_quiet (fail)
  clear c0 c1 q1
  go_wp2_with (first
    | (go_at_call 66; ((refine (listMay_is (HR.out.drewN nq) HT.out HLL.out).mono ?_); rintro e w1 ⟨rfl, n1, rfl⟩))
    | (at_builtin; refine A.wpList_terms (base := w.heap.size) rfl (.const (.slice none 0 0)) (.tmp 67) rfl rfl (A.Own.nil _ _) _ _ l rfl (HR.out.drewN (nq + n1)) (by simp; omega) (Nat.le_refl _) ?_; intro v' w2 o2 g2'; have B2 : Below w.heap.size w w2 := bel2 (bel_drewN w (nq + n1)) ((A.Own.nil w.heap.size (w.drewN (nq + n1))).grown (Below.refl _ _) (Nat.le_refl _) g2'); have M2 := H.out.below B2; obtain ⟨k5, _, _, _, _, kf, kl⟩ := M2.five HID.out; obtain ⟨a', c', e', _⟩ := A.Own.row o2; subst e'))
  go_ret
  obtain ⟨s1, s2⟩ := M2.setC HID.out (j := 5) (by omega) (u := .slice a' l.length c') (y := (aclB x l, .slice a' l.length c')) (by rw [← HX.out]; rfl) (own_base o2 (Nat.zero_le _))
  refine ⟨rfl, _, ⟨_, _, _, _, s1, set_map HB.out _ _⟩, ?_⟩
  exact ((Went.of_below B2).trans s2).mk' (fun i hi => hi.elim Or.inl (fun e => Or.inr (World.ownsRow.lt o2 i e).1))

theorem macc_no (h : MAt w b F m) {d : Int} {s : Txt} (h1 : at? m.E d s = none) {v1 v2 : Value} :
    Calls Tryd.prog 55 #[TP b, .int .i64 d, .string (bs s), v1, v2] w fun e' w' => e' = .returned (.int .i64 4) ∧ w = w' := by
  have a1 := mat_is h (d := d) (s := s) (r := -1) (by rw [h1]; rfl)
  clear h h1
  go_enter Tryd.func55, Tryd.ntmps55
  go_wp2_with (go_at_call 45; ((with_reducible refine a1.mono ?_); rintro e w1 ⟨rfl, rfl⟩))
  go_ret
  exact ⟨rfl, rfl⟩


theorem macc_kind (h : MAt w b F m) {d : Int} {s : Txt} {k : Nat} (h1 : at? m.E d s = some k) {e : En} (hE : m.E[k]? = some e) {x : Br} (hX : m.B[e.2.1]? = some x) (hk : ¬ x.kind = 1) {v1 v2 : Value} :
    Calls Tryd.prog 55 #[TP b, .int .i64 d, .string (bs s), v1, v2] w fun e' w' => e' = .returned (.int .i64 15) ∧ Below w.heap.size w w' := by
  have a1 := mat_is h (d := d) (s := s) (r := (k : Int)) (by rw [h1]; rfl)
  obtain ⟨bl, vB, vL, vD, h5, hB⟩ := h
  have H := Lib.hid h5
  have HB := Lib.hid hB
  have hkl : k < m.E.length := (List.getElem?_eq_some_iff.1 hE).1
  have hke : m.E[k] = e := (List.getElem?_eq_some_iff.1 hE).2
  obtain ⟨aL, cap, rfl, hc, hn, hg⟩ := h5.eForm
  obtain ⟨a2, cap2, rfl, hc2, hg2, hn2⟩ := row_form h5.rB
  obtain ⟨g, rfl, hgl, q0, q1, q2⟩ := h5.eAt hkl
  have hid : e.2.1 < bl.length := by rw [← hke]; exact h5.ids _ (List.getElem_mem hkl)
  have hx : (bl[e.2.1]).1 = x := by
    rw [← hB, List.getElem?_map, List.getElem?_eq_getElem hid] at hX
    simpa using hX
  obtain ⟨g2, rfl, _, _, hgl2, r0, r1, r2, r3, r4, r5, r6, r7, r8, r9, hfz⟩ := h5.brAt hid
  rw [hke] at q1
  rw [hx] at r0
  have HX := Lib.hid hx
  have HID := Lib.hid hid
  generalize hii : e.2.1 = ii at *
  have c0 := h5.c0
  have c1 := h5.c1
  have bl5 := h5.lt
  have hlen := h5.len.2.1
  have hlenB := h5.len.1
  have hnil := ptr_nil113
  clear h5 hB h1 hE hX hke hx q0 q2 r1 r2 r3 r4 r6 r7 r8 r9 hii
  have t1 : (x.kind == 1) = false := by simpa using hk
  have t1' : (x.kind != 1) = true := by simpa using hk
  clear hk
  go_enter Tryd.func55, Tryd.ntmps55
  go_wp2_with (go_at_call 45; ((with_reducible refine a1.mono ?_); rintro e w1 ⟨rfl, rfl⟩))
  go_quiet (fail)
  clear c0 c1 q1
  go_wp2
  go_ret
  exact ⟨rfl, bel_drewN _ _⟩

theorem macc_bad (h : MAt w b F m) {d : Int} {s : Txt} {k : Nat} (h1 : at? m.E d s = some k) {e : En} (hE : m.E[k]? = some e) {x : Br} (hX : m.B[e.2.1]? = some x) (hk : x.kind = 1) {a : Option Addr} {cc : Nat} {l : List Tm} (hr : TRow w a cc l) (htx : ∀ t ∈ l, t.1.length ≤ maxLen) (hl : A.lmay l = false) :
    Calls Tryd.prog 55 #[TP b, .int .i64 d, .string (bs s), .slice a l.length cc, .pointer none] w fun e' w' => e' = .returned (.int .i64 1) ∧ Below w.heap.size w w' := by
  have a1 := mat_is h (d := d) (s := s) (r := (k : Int)) (by rw [h1]; rfl)
  obtain ⟨bl, vB, vL, vD, h5, hB⟩ := h
  have H := Lib.hid h5
  have HB := Lib.hid hB
  have hkl : k < m.E.length := (List.getElem?_eq_some_iff.1 hE).1
  have hke : m.E[k] = e := (List.getElem?_eq_some_iff.1 hE).2
  obtain ⟨aL, cap, rfl, hc, hn, hg⟩ := h5.eForm
  obtain ⟨a2, cap2, rfl, hc2, hg2, hn2⟩ := row_form h5.rB
  obtain ⟨g, rfl, hgl, q0, q1, q2⟩ := h5.eAt hkl
  have hid : e.2.1 < bl.length := by rw [← hke]; exact h5.ids _ (List.getElem_mem hkl)
  have hx : (bl[e.2.1]).1 = x := by
    rw [← hB, List.getElem?_map, List.getElem?_eq_getElem hid] at hX
    simpa using hX
  obtain ⟨g2, rfl, _, _, hgl2, r0, r1, r2, r3, r4, r5, r6, r7, r8, r9, hfz⟩ := h5.brAt hid
  rw [hke] at q1
  rw [hx] at r0
  rw [hk] at r0
  have HX := Lib.hid hx
  have HR := Lib.hid hr
  have HT := Lib.hid htx
  have HLL := Lib.hid hl
  have HID := Lib.hid hid
  generalize hii : e.2.1 = ii at *
  have c0 := h5.c0
  have c1 := h5.c1
  have bl5 := h5.lt
  have hlen := h5.len.2.1
  have hlenB := h5.len.1
  have hnil := ptr_nil113
  clear h5 hB h1 hE hX hke hx hk q0 q2 r1 r2 r3 r4 r6 r7 r8 r9 hr htx hl hii
  go_enter Tryd.func55, Tryd.ntmps55
  go_wp2_with (go_at_call 45; ((with_reducible refine a1.mono ?_); rintro e w1 ⟨rfl, rfl⟩))
  go_quiet (fail)
  clear c0 c1 q1
  go_wp2_with (go_at_call 66; ((refine (listMay_is (HR.out.drewN nq) HT.out HLL.out).mono ?_); rintro e w1 ⟨rfl, n1, rfl⟩))
  go_ret
  exact ⟨rfl, bel_drewN _ _⟩

theorem refRing_b {r1 r2 r3 gt : Int} {r : Bool} (h : W.bmay r1 r2 r3 gt = r) (V : World) : Calls Tryd.prog 67 #[.agg #[.int .i64 r1, .int .i64 r2, .int .i64 r3, .int .i64 gt]] V fun e w' => e = .returned (.bool r) ∧ Below V.heap.size V w' :=
  (refRing_is h V).mono fun _ _ h => ⟨h.1, h.2 ▸ one_new _ _⟩
theorem bo_cells {V : World} {z : Nat} {b1 b2 b3 bg : Int} (h : V.heap[z]? = some (W.BO b1 b2 b3 bg)) : V.cell? ⟨z, 0, none⟩ = some (.int .i64 b1) ∧ V.cell? ⟨z, 1, none⟩ = some (.int .i64 b2) ∧ V.cell? ⟨z, 2, none⟩ = some (.int .i64 b3) ∧ V.cell? ⟨z, 3, none⟩ = some (.int .i64 bg) ∧ z < V.heap.size :=
  ⟨by simp [World.cell?, h], by simp [World.cell?, h], by simp [World.cell?, h], by simp [World.cell?, h], (Array.getElem?_eq_some_iff.1 h).1⟩
/-- four cells of a branch are stored -/
theorem ML.setR {w : World} {b : Nat} {F : Nat → Prop} {bl : List (Br × Value)} {E : List En} {D : List Bool} {vL vD : Value} {g n cap : Nat} (h : ML w b F bl E D (.slice (some ⟨g, 0, none⟩) n cap) vL vD) {i : Nat} (hi : i < bl.length) (b1 b2 b3 bg : Int) :
    ∃ F', ML ((((w.setCell ⟨g, i * 10 + 6, none⟩ (.int .i64 b1)).setCell ⟨g, i * 10 + 7, none⟩ (.int .i64 b2)).setCell ⟨g, i * 10 + 8, none⟩ (.int .i64 b3)).setCell ⟨g, i * 10 + 9, none⟩ (.int .i64 bg)) b F' (bl.set i (ringB bl[i].1 b1 b2 b3 bg, bl[i].2)) E D (.slice (some ⟨g, 0, none⟩) n cap) vL vD
      ∧ Went F w F' ((((w.setCell ⟨g, i * 10 + 6, none⟩ (.int .i64 b1)).setCell ⟨g, i * 10 + 7, none⟩ (.int .i64 b2)).setCell ⟨g, i * 10 + 8, none⟩ (.int .i64 b3)).setCell ⟨g, i * 10 + 9, none⟩ (.int .i64 bg)) := by
  have hA := h.acl _ (List.getElem_mem hi)
  obtain ⟨m1, e1⟩ := h.setC hi (j := 6) (by omega) (u := .int .i64 b1) (y := ({ bl[i].1 with r1 := b1 }, bl[i].2)) rfl hA
  have hi1 : i < (bl.set i ({ bl[i].1 with r1 := b1 }, bl[i].2)).length := by rw [List.length_set]; exact hi
  have hA1 := m1.acl _ (List.getElem_mem hi1)
  obtain ⟨m2, e2⟩ := m1.setC hi1 (j := 7) (by omega) (u := .int .i64 b2) (y := ({ bl[i].1 with r1 := b1, r2 := b2 }, bl[i].2)) (by rw [List.getElem_set_self]; rfl) (by simpa using hA1)
  rw [List.set_set] at m2
  have hi2 : i < (bl.set i ({ bl[i].1 with r1 := b1, r2 := b2 }, bl[i].2)).length := by rw [List.length_set]; exact hi
  have hA2 := m2.acl _ (List.getElem_mem hi2)
  obtain ⟨m3, e3⟩ := m2.setC hi2 (j := 8) (by omega) (u := .int .i64 b3) (y := ({ bl[i].1 with r1 := b1, r2 := b2, r3 := b3 }, bl[i].2)) (by rw [List.getElem_set_self]; rfl) (by simpa using hA2)
  rw [List.set_set] at m3
  have hi3 : i < (bl.set i ({ bl[i].1 with r1 := b1, r2 := b2, r3 := b3 }, bl[i].2)).length := by rw [List.length_set]; exact hi
  have hA3 := m3.acl _ (List.getElem_mem hi3)
  obtain ⟨m4, e4⟩ := m3.setC hi3 (j := 9) (by omega) (u := .int .i64 bg) (y := (ringB bl[i].1 b1 b2 b3 bg, bl[i].2)) (by rw [List.getElem_set_self]; rfl) (by simpa [ringB] using hA3)
  rw [List.set_set] at m4
  have hF : ∀ k, bl[i].2.ownBlock = some k → F k := fun k e => h.fA _ (List.getElem_mem hi) k e
  refine ⟨_, m4, ?_⟩
  have W1 : Went F w F _ := e1
  have step : ∀ {V V' : World} {F1 : Nat → Prop}, (∀ k, F1 k → F k) → (∀ k, F k → F1 k) → Went F w F V → Went F1 V F1 V' → Went F w F V' := fun h1 h2 hw hv =>
    ⟨hv.os.trans hw.os, hv.tape.trans hw.tape, hv.output.trans hw.output, Nat.le_trans hw.size hv.size, fun i hi hn => (hv.block i (Nat.lt_of_lt_of_le hi hw.size) (fun hf => hn (h1 i hf))).trans (hw.block i hi hn), fun _ h => Or.inl h⟩
  have W2 := step (fun k hk => hk.elim id (hF k)) (fun k hk => Or.inl hk) W1 e2
  have W3 := step (fun k hk => hk.elim (fun hk => hk.elim id (hF k)) (hF k)) (fun k hk => Or.inl (Or.inl hk)) W2 e3
  have W4 := step (fun k hk => hk.elim (fun hk => hk.elim (fun hk => hk.elim id (hF k)) (hF k)) (hF k)) (fun k hk => Or.inl (Or.inl (Or.inl hk))) W3 e4
  exact W4.mk' (fun k hk => Or.inl (hk.elim (fun hk => hk.elim (fun hk => hk.elim (fun hk => hk.elim id (hF k)) (hF k)) (hF k)) (hF k)))

theorem ptr_some113 (w : World) (k : Nat) : (binOp .eql 111 (TP k) (.pointer none)).run Tryd.prog w = .ok (.bool false) w ∧ (binOp .neq 111 (TP k) (.pointer none)).run Tryd.prog w = .ok (.bool true) w := ⟨by kernel_rfl, by kernel_rfl⟩

theorem mring_bad (h : MAt w b F m) {d : Int} {s : Txt} {k : Nat} (h1 : at? m.E d s = some k) {e : En} (hE : m.E[k]? = some e) {x : Br} (hX : m.B[e.2.1]? = some x) (hk : x.kind = 1) {z : Nat} {b1 b2 b3 bg : Int} (hz : w.heap[z]? = some (W.BO b1 b2 b3 bg)) (hl : W.bmay b1 b2 b3 bg = false) :
    Calls Tryd.prog 55 #[TP b, .int .i64 d, .string (bs s), .slice none 0 0, TP z] w fun e' w' => e' = .returned (.int .i64 1) ∧ Below w.heap.size w w' := by
  have a1 := mat_is h (d := d) (s := s) (r := (k : Int)) (by rw [h1]; rfl)
  obtain ⟨bl, vB, vL, vD, h5, hB⟩ := h
  have H := Lib.hid h5
  have HB := Lib.hid hB
  have hkl : k < m.E.length := (List.getElem?_eq_some_iff.1 hE).1
  have hke : m.E[k] = e := (List.getElem?_eq_some_iff.1 hE).2
  obtain ⟨aL, cap, rfl, hc, hn, hg⟩ := h5.eForm
  obtain ⟨a2, cap2, rfl, hc2, hg2, hn2⟩ := row_form h5.rB
  obtain ⟨g, rfl, hgl, q0, q1, q2⟩ := h5.eAt hkl
  have hid : e.2.1 < bl.length := by rw [← hke]; exact h5.ids _ (List.getElem_mem hkl)
  have hx : (bl[e.2.1]).1 = x := by
    rw [← hB, List.getElem?_map, List.getElem?_eq_getElem hid] at hX
    simpa using hX
  obtain ⟨g2, rfl, _, _, hgl2, r0, _, _, _, _, _, r6, r7, r8, r9, hfz⟩ := h5.brAt hid
  rw [hke] at q1
  rw [hx] at r0
  rw [hk] at r0
  have HX := Lib.hid hx
  have HID := Lib.hid hid
  generalize hii : e.2.1 = ii at *
  have c0 := h5.c0
  have c1 := h5.c1
  have bl5 := h5.lt
  have hlen := h5.len.2.1
  have hlenB := h5.len.1
  have hnil := ptr_nil113
  clear h5 hB h1 hE hX hke hx hk q0 q2 r6 r7 r8 r9 hii
  have p0 := fun W => (ptr_some113 W z).1
  have p1 := fun W => (ptr_some113 W z).2
  obtain ⟨z0, z1, z2, z3⟩ : w.cell? ⟨z, 0, none⟩ = some (.int .i64 b1) ∧ w.cell? ⟨z, 1, none⟩ = some (.int .i64 b2) ∧ w.cell? ⟨z, 2, none⟩ = some (.int .i64 b3) ∧ w.cell? ⟨z, 3, none⟩ = some (.int .i64 bg) := by simp [World.cell?, hz]
  have zl := (Array.getElem?_eq_some_iff.1 hz).1
  have HLL := Lib.hid hl
  clear hz hl
  go_enter Tryd.func55, Tryd.ntmps55
  go_wp2_with (go_at_call 45; ((with_reducible refine a1.mono ?_); rintro e w1 ⟨rfl, rfl⟩))
  go_quiet (fail)
  clear c0 c1 q1
  go_wp2_with (go_at_call 67; ((refine (refRing_is HLL.out _).mono ?_); rintro e w1 ⟨rfl, rfl⟩))
  go_ret
  exact ⟨rfl, bel2 (bel_drewN _ _) (one_new _ _)⟩

set_option maxHeartbeats 4000000 in
theorem mring_at (h : MAt w b F m) {d : Int} {s : Txt} {k : Nat} (h1 : at? m.E d s = some k) {e : En} (hE : m.E[k]? = some e) {x : Br} (hX : m.B[e.2.1]? = some x) (hk : x.kind = 1) {z : Nat} {b1 b2 b3 bg : Int} (hz : w.heap[z]? = some (W.BO b1 b2 b3 bg)) (hl : W.bmay b1 b2 b3 bg = true) :
    Calls Tryd.prog 55 #[TP b, .int .i64 d, .string (bs s), .slice none 0 0, TP z] w fun e' w' => e' = .returned (.int .i64 0) ∧ Now F w b (setM m e.2.1 (ringB x b1 b2 b3 bg)) w' := by
  have a1 := mat_is h (d := d) (s := s) (r := (k : Int)) (by rw [h1]; rfl)
  obtain ⟨bl, vB, vL, vD, h5, hB⟩ := h
  have H := Lib.hid h5
  have HB := Lib.hid hB
  have hkl : k < m.E.length := (List.getElem?_eq_some_iff.1 hE).1
  have hke : m.E[k] = e := (List.getElem?_eq_some_iff.1 hE).2
  obtain ⟨aL, cap, rfl, hc, hn, hg⟩ := h5.eForm
  obtain ⟨a2, cap2, rfl, hc2, hg2, hn2⟩ := row_form h5.rB
  obtain ⟨g, rfl, hgl, q0, q1, q2⟩ := h5.eAt hkl
  have hid : e.2.1 < bl.length := by rw [← hke]; exact h5.ids _ (List.getElem_mem hkl)
  have hx : (bl[e.2.1]).1 = x := by
    rw [← hB, List.getElem?_map, List.getElem?_eq_getElem hid] at hX
    simpa using hX
  obtain ⟨g2, rfl, _, _, hgl2, r0, _, _, _, _, _, r6, r7, r8, r9, hfz⟩ := h5.brAt hid
  rw [hke] at q1
  rw [hx] at r0
  rw [hk] at r0
  have HX := Lib.hid hx
  have HID := Lib.hid hid
  generalize hii : e.2.1 = ii at *
  have c0 := h5.c0
  have c1 := h5.c1
  have bl5 := h5.lt
  have hlen := h5.len.2.1
  have hlenB := h5.len.1
  have hnil := ptr_nil113
  clear h5 hB h1 hE hX hke hx hk q0 q2 r6 r7 r8 r9 hii
  have p0 := fun W => (ptr_some113 W z).1
  have p1 := fun W => (ptr_some113 W z).2
  obtain ⟨z0, z1, z2, z3⟩ : w.cell? ⟨z, 0, none⟩ = some (.int .i64 b1) ∧ w.cell? ⟨z, 1, none⟩ = some (.int .i64 b2) ∧ w.cell? ⟨z, 2, none⟩ = some (.int .i64 b3) ∧ w.cell? ⟨z, 3, none⟩ = some (.int .i64 bg) := by simp [World.cell?, hz]
  have zl := (Array.getElem?_eq_some_iff.1 hz).1
  have HLL := Lib.hid hl
  have HZ := Lib.hid hz
  clear hz hl
  go_enter Tryd.func55, Tryd.ntmps55
  go_wp2_with (go_at_call 45; ((with_reducible refine a1.mono ?_); rintro e w1 ⟨rfl, rfl⟩))
  go_quiet (fail)
  clear c0 c1 q1
  go_wp2_with (go_at_call 67; ((refine (refRing_b HLL.out _).mono ?_); rintro e w1 ⟨rfl, b9⟩; have B2 := Lib.hid (bel2 (bel_drewN w nq) b9); have M2 := H.out.below B2.out; obtain ⟨_, k6, k7, k8, k9, kf, kl⟩ := M2.five HID.out; obtain ⟨y0, y1, y2, y3, yl⟩ := bo_cells ((B2.out.block z zl).trans HZ.out); clear z0 z1 z2 z3 b9))
  go_ret
  obtain ⟨F', s1, s2⟩ := M2.setR HID.out b1 b2 b3 bg
  refine ⟨rfl, F', ⟨_, _, _, _, s1, ?_⟩, (Went.of_below B2.out).trans s2⟩
  rw [set_map HB.out, HX.out]
  rfl

theorem maccess_of {d : Int} {s : Txt} {v : Value} {r : Int} {Q : World → Prop} (hc : Calls Tryd.prog 55 #[TP b, .int .i64 d, .string (bs s), v, .pointer none] w fun e w' => e = .returned (.int .i64 r) ∧ Q w') :
    Calls Tryd.prog 28 #[TP b, .int .i64 d, .string (bs s), v] w fun e w' => e = .returned (.int .i64 r) ∧ Q w' := by
  go_enter Tryd.func28, Tryd.ntmps28
  go_wp2_with (go_at_call 55; ((refine hc.mono ?_); rintro e w1 ⟨rfl, q1⟩))
  go_ret
  exact ⟨rfl, q1⟩
theorem mringed_of {d : Int} {s : Txt} {r1 r2 r3 gt : Int} {r : Int} {Q : World → Prop} (hc : Calls Tryd.prog 55 #[TP b, .int .i64 d, .string (bs s), .slice none 0 0, TP w.heap.size] (w.alloc (W.BO r1 r2 r3 gt)) fun e w' => e = .returned (.int .i64 r) ∧ Q w') :
    Calls Tryd.prog 30 #[TP b, .int .i64 d, .string (bs s), .agg #[.int .i64 r1, .int .i64 r2, .int .i64 r3, .int .i64 gt]] w fun e w' => e = .returned (.int .i64 r) ∧ Q w' := by
  go_enter Tryd.func30, Tryd.ntmps30
  go_wp2_with (go_at_call 55; ((refine hc.mono ?_); rintro e w1 ⟨rfl, q1⟩))
  go_ret
  exact ⟨rfl, q1⟩

end

end Go.Proofs.YtpcdcmoapenbdaaDoor.T
