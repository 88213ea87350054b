/-
  The document's own walker: what a walk leads to; in.
  The document's own walker: to.
  The document's own walker: find; the four walks of the document's tree.
  The document's own In; Find, of a path.
  The document's own walks of what is no path; Find.
  The document's own Dir and To.
-/
import Derived.Test.YtpcdcmoapenbdaaDoorMDels
import Derived.Test.YtpcdcmoapenbdaaDoorWFolls
import Derived.BigQuiet
namespace Go.Proofs.YtpcdcmoapenbdaaDoor.T
open Go.ChangeShapes Go.WideShapes Go.ChangeAt Go.RowKit
open Go.Proofs.YtpcdcmoapenbdaaDoor.N (bs bs_data bs_size bs_inj bs_of Glob)
open Go.Proofs.YtpcdcmoapenbdaaDoor.A (Tm TRow)

/-- a list that lies in the tree -/
def Held (F : Nat → Prop) (w : World) (a : Option Addr) (c : Nat) (l : List Tm) : Prop := A.Own 0 w (.slice a l.length c) l ∧ ∀ k, (Value.slice a l.length c).ownBlock = some k → F k
theorem Held.nil (F : Nat → Prop) (w : World) : Held F w none 0 [] := ⟨A.Own.nil _ _, fun _ e => by cases e⟩
theorem Held.of {F : Nat → Prop} {w w' : World} {a : Option Addr} {c : Nat} {l : List Tm} (h : Held F w a c l) (hk : ∀ i, F i → w'.heap[i]? = w.heap[i]?) : Held F w' a c l := ⟨row_of h.1 (fun k e => hk k (h.2 k e)), h.2⟩

/-- the walker's box -/
@[reducible] def WkO (b : Nat) (k : Nat) : Obj := .cells #[TP b, .int .i64 k] 119 (0, 0)
def Wk (w : World) (q b k : Nat) : Prop := w.heap[q]? = some (WkO b k)
theorem Wk.cell {w : World} {q b k : Nat} (h : Wk w q b k) : w.cell? ⟨q, 0, none⟩ = some (TP b) ∧ w.cell? ⟨q, 1, none⟩ = some (.int .i64 k) := by
  unfold Wk at h
  simp [World.cell?, h]
theorem Wk.fz {w : World} {q b k : Nat} (h : Wk w q b k) (i : Nat) : w.frozen? ⟨q, i, none⟩ = false := by
  unfold Wk at h
  simp [World.frozen?, h]
theorem Wk.lt {w : World} {q b k : Nat} (h : Wk w q b k) : q < w.heap.size := (Array.getElem?_eq_some_iff.1 h).1
theorem Wk.below {w w' : World} {q b k : Nat} (h : Wk w q b k) (hb : Below w.heap.size w w') : Wk w' q b k := (hb.block q h.lt).trans h
theorem Wk.far {w w' : World} {q b k : Nat} (h : Wk w q b k) (e : w'.heap[q]? = w.heap[q]?) : Wk w' q b k := e.trans h
theorem Wk.put {w : World} {q b k : Nat} (h : Wk w q b k) (k' : Nat) : Wk (w.setCell ⟨q, 1, none⟩ (.int .i64 k')) q b k' := by
  unfold Wk at h ⊢
  exact (head_set h 1 (.int .i64 k')).trans (by simp)

@[reducible] def ZmO : Obj := .cells #[.int .i64 0, .int .i64 0, .int .i64 0, .string ⟨#[]⟩, .bool false, .slice none 0 0, .int .i64 0, .int .i64 0, .int .i64 0, .int .i64 0] 36 (0, 0)
theorem Wk.lit {w : World} {q b k : Nat} (h : Wk w q b k) : (w.alloc ZmO).cell? ⟨q, 0, none⟩ = some (TP b) ∧ (w.alloc ZmO).cell? ⟨q, 1, none⟩ = some (.int .i64 k) := (h.below (one_new w ZmO)).cell
theorem fol_dir (L : Int → Txt → Option Br) (n : Nat) {x : Br} (h : x.kind = 2) (p : Txt) (ps : List Txt) : fol L n x (p :: ps) = fol L n (dirN x.dir) (p :: ps) := by
  cases n <;> simp [fol, stp, h, dirN]

/-- where a walk leads, whatever follows -/
def Leads (L : Int → Txt → Option Br) (n : Nat) (x : Br) (ps : List Txt) (E : Int) (y : Br) (n' : Nat) : Prop :=
  (E = 0 ∧ n' ≤ n ∧ ∀ rest, fol L n x (ps ++ rest) = fol L n' y rest) ∨ (E ≠ 0 ∧ y = noBr ∧ ∀ rest, fol L n x (ps ++ rest) = (E, noBr))

/-- what the walker's in and find answer -/
def Led (F : Nat → Prop) (L : Int → Txt → Option Br) (w : World) (q b n : Nat) (x : Br) (ps : List Txt) (e : Ending) (w' : World) : Prop :=
  ∃ E y n' a' c', e = .returned (.tuple #[BrV y (.slice a' y.acl.length c'), .int .i64 E]) ∧ Held F w a' c' y.acl ∧ Leads L n x ps E y n' ∧ (E = 0 → Wk w' q b (8 - n')) ∧ Went (· = q) w (· = q) w'

/-- the links of the document's tree are paths -/
def LinksM (m : Ms) : Prop := ∀ x ∈ m.B, x.kind = 3 → x.link.length ≤ 168 ∧ N.er x.link = 0
theorem lkM_mem {m : Ms} {d : Int} {s : Txt} {x : Br} (h : lkM m d s = some x) : x ∈ m.B := by
  unfold lkM at h
  cases ha : at? m.E d s with
  | none => simp [ha] at h
  | some k =>
    simp only [ha] at h
    cases he : m.E[k]? with
    | none => simp [he] at h
    | some e =>
      simp only [he, Option.bind_some] at h
      exact List.mem_of_getElem? h

section
variable {w : World} {b : Nat} {F : Nat → Prop} {m : Ms}

set_option maxHeartbeats 4000000 in
set_option maxRecDepth 8000 in
theorem mlook_held (h : MAt w b F m) {d : Int} {s : Txt} {k : Nat} (hL : at? m.E d s = some k) {e : En} (hE : m.E[k]? = some e) {x : Br} (hX : m.B[e.2.1]? = some x) :
    Calls Tryd.prog 80 #[TP b, .int .i64 d, .string (bs s)] w fun e' w' => ∃ a' c', e' = .returned (.tuple #[BrV x (.slice a' x.acl.length c'), .bool true]) ∧ Held F w a' c' x.acl ∧ Below w.heap.size w w' := by
  have ha := mat_any (h.below (one_new w (BmO noBr (.slice none 0 0)))) d s
  rw [hL] at ha
  have X0 := Lib.hid (BmAt.new w noBr (.slice none 0 0))
  obtain ⟨bl, vB, vL, vD, h0, hB⟩ := h
  have h := h0.below (one_new w (BmO noBr (.slice none 0 0)))
  have hkl : k < m.E.length := (List.getElem?_eq_some_iff.1 hE).1
  have hke : m.E[k] = e := (List.getElem?_eq_some_iff.1 hE).2
  obtain ⟨a, cap, rfl, hc, hn, hg⟩ := h.eForm
  obtain ⟨a2, cap2, rfl, hc2, hg2, hn2⟩ := row_form h.rB
  obtain ⟨g, rfl, hgl, q0, q1, q2⟩ := h.eAt hkl
  have hid : e.2.1 < bl.length := by rw [← hke]; exact h.ids _ (List.getElem_mem hkl)
  have hx : (bl[e.2.1]).1 = x := by
    rw [← hB, List.getElem?_map, List.getElem?_eq_getElem hid] at hX
    simpa using hX
  obtain ⟨g2, rfl, _, _, hgl2, r0, r1, r2, r3, r4, r5, r6, r7, r8, r9, _⟩ := h.brAt hid
  obtain ⟨a', c', hv, hrow⟩ := own_trow (h0.acl _ (List.getElem_mem hid))
  have HH : Hid (Held F w a' c' x.acl) := Lib.hid ⟨by have := h0.acl _ (List.getElem_mem hid); rw [hv, hx] at this; exact this, fun kk ek => h0.fA _ (List.getElem_mem hid) kk (by rw [hv, hx]; exact ek)⟩
  rw [hke] at q0 q1 q2
  rw [hx] at r0 r1 r2 r3 r4 r6 r7 r8 r9 hrow hv
  rw [hv] at r5
  have c0 := h.c0
  have c1 := h.c1
  have hlt := h.lt
  have hlen := h.len.2.1
  have hlenB := h.len.1
  have HR := Lib.hid hrow
  have hltw := h0.lt
  obtain ⟨s0, s1, s2, s3, s4, s5, s6, s7, s8, s9⟩ := X0.out.cell
  have f2 := X0.out.fz
  have xl := X0.out.lt
  generalize hii : e.2.1 = ii at q1 r0 r1 r2 r3 r4 r5 r6 r7 r8 r9 hid
  clear h h0 hB hX hE hke hx hii hrow hv
  go_enter Tryd.func80, Tryd.ntmps80
  go_wp2_with (go_at_call 45; ((refine ha.mono ?_); rintro e w1 ⟨rfl, rfl⟩; simp only [atN]))
  refine (show Code.wp _ _ _ _ (w.alloc (BmO noBr (.slice none 0 0))) from ?_)
  have B0 := Lib.hid (one_new w (BmO noBr (.slice none 0 0)))
  generalize w.alloc (BmO noBr (.slice none 0 0)) = V at *
  clear ha q0 q2 hn hg hn2 hg2
  go_still_tail 14, (by kernel_rfl)
  change wpList _ _ _ _ _ V.drew
  have X1 : Hid (BmAt V.drew w.heap.size noBr (.slice none 0 0)) := X0
  have B1 : Hid (Below w.heap.size w V.drew) := Lib.hid B0.out.drew
  clear X0 B0 c0 c1 q1 r0 r1 r2 r3 r4 r5 r6 r7 r8 r9 s0 s1 s2 s3 s4 s5 s6 s7 s8 s9 f2 xl
  generalize V.drew = V2 at *
  obtain ⟨s0, s1, s2, s3, s4, s5, s6, s7, s8, s9⟩ := X1.out.cell
  have f2 := X1.out.fz
  have xl := X1.out.lt
  go_wp2
  have X5 := X1.out.stored x (.slice a' x.acl.length c')
  have L5 := Below.setBr B1.out (k := w.heap.size) (Nat.le_refl _) x (.slice a' x.acl.length c')
  refine (show bodyPost _ _ _ _ _ (setBr V2 w.heap.size x (.slice a' x.acl.length c')) from ?_)
  generalize setBr V2 w.heap.size x (.slice a' x.acl.length c') = V5 at X5 L5 ⊢
  obtain ⟨g0, g1, g2', g3, g4, g5, g6, g7, g8, g9⟩ := X5.cell
  exact bodyPost_ret (v := .tuple #[BrV x (.slice a' x.acl.length c'), .bool true]) (by simp [results, Tryd.results80, go_sem, g0, g1, g2', g3, g4, g5, g6, g7, g8, g9]) rfl ⟨a', c', rfl, HH.out, L5⟩


theorem mlook_lk (h : MAt w b F m) {d : Int} {s : Txt} {x : Br} (hx : lkM m d s = some x) :
    Calls Tryd.prog 80 #[TP b, .int .i64 d, .string (bs s)] w fun e' w' => ∃ a' c', e' = .returned (.tuple #[BrV x (.slice a' x.acl.length c'), .bool true]) ∧ Held F w a' c' x.acl ∧ Below w.heap.size w w' := by
  unfold lkM at hx
  cases ha : at? m.E d s with
  | none => simp [ha] at hx
  | some k =>
    simp only [ha] at hx
    cases he : m.E[k]? with
    | none => simp [he] at hx
    | some e =>
      simp only [he, Option.bind_some] at hx
      exact mlook_held h ha he hx
theorem at_of_lkM (h : MAt w b F m) {d : Int} {s : Txt} (hx : lkM m d s = none) : at? m.E d s = none := by
  cases ha : at? m.E d s with
  | none => rfl
  | some k =>
    exfalso
    obtain ⟨bl, vB, vL, vD, h, hB⟩ := h
    unfold lkM at hx
    have hk : k < m.E.length := (List.findIdx?_eq_some_iff_getElem.1 ha).1
    simp only [ha, List.getElem?_eq_getElem hk, Option.bind_some] at hx
    have := h.ids _ (List.getElem_mem hk)
    rw [List.getElem?_eq_none_iff, ← hB, List.length_map] at hx
    omega

/-- a box, and another world behind the walker's turn -/
theorem went_below {q : Nat} {V : World} (h : Below w.heap.size w V) : Went (· = q) w (· = q) V := Went.of_below h
theorem wentq_setBr {q k : Nat} {V : World} (h : Went (· = q) w (· = q) V) (hk : w.heap.size ≤ k) (x : Br) (av : Value) : Went (· = q) w (· = q) (setBr V k x av) := h.setOut hk x av

set_option maxHeartbeats 2000000 in
set_option maxRecDepth 8000 in
theorem rin_no {q n : Nat} (h : MAt w b F m) (hw : Wk w q b (8 - n)) {d : Int} {s : Txt} (hx : lkM m d s = none) :
    Calls Tryd.prog 63 #[TP q, .int .i64 d, .string (bs s)] w (Led F (lkM m) w q b n (dirN d) [s]) := by
  have hl := mlook_no (h.below (one_new w (BmO noBr (.slice none 0 0)))) (at_of_lkM h hx)
  have X0 := Lib.hid (BmAt.new w noBr (.slice none 0 0))
  have W0 := Lib.hid (hw.below (one_new w (BmO noBr (.slice none 0 0))))
  have wl := hw.lt
  have HX := Lib.hid hx
  obtain ⟨w0, w1⟩ := hw.lit
  clear h hw hx
  go_enter Tryd.func63, Tryd.ntmps63
  go_wp2_with (go_at_call 80; ((refine hl.mono ?_); rintro e w2 ⟨rfl, b2⟩; have B2 := Lib.hid (bel2 (one_new w (BmO noBr (.slice none 0 0))) b2); have X2 := Lib.hid (BmAt.below X0.out b2); have X3 := Lib.hid (BmAt.below X2.out (one_new w2 (BmO noBr (.slice none 0 0)))); obtain ⟨y0, y1, y2, y3, y4, y5, y6, y7, y8, y9⟩ := X3.out.cell; have yf := X3.out.fz; have yl := X3.out.lt; clear b2))
  refine (show bodyPost _ _ _ _ _ (setBr (w2.alloc (BmO noBr (.slice none 0 0))) w.heap.size noBr (.slice none 0 0)) from ?_)
  have Z := BmAt.stored X3.out noBr (.slice none 0 0)
  have T := wentq_setBr (q := q) (went_below (bel2 B2.out (one_new w2 (BmO noBr (.slice none 0 0))))) (Nat.le_refl _) noBr (.slice none 0 0)
  generalize setBr (w2.alloc (BmO noBr (.slice none 0 0))) w.heap.size noBr (.slice none 0 0) = V5 at Z T ⊢
  obtain ⟨g0, g1, g2, g3, g4, g5, g6, g7, g8, g9⟩ := Z.cell
  exact bodyPost_ret (v := .tuple #[BrV noBr (.slice none 0 0), .int .i64 4]) (by simp [results, Tryd.results63, go_sem, g0, g1, g2, g3, g4, g5, g6, g7, g8, g9]) rfl ⟨4, noBr, n, none, 0, rfl, Held.nil _ _, Or.inr ⟨by decide, rfl, fun rest => fol_none _ rfl HX.out _⟩, fun e => absurd e (by decide), T⟩

set_option maxHeartbeats 4000000 in
set_option maxRecDepth 8000 in
theorem rin_yes {q n : Nat} (h : MAt w b F m) (hw : Wk w q b (8 - n)) {d : Int} {s : Txt} {x : Br} (hx : lkM m d s = some x) (hk : ¬ x.kind = 3) :
    Calls Tryd.prog 63 #[TP q, .int .i64 d, .string (bs s)] w (Led F (lkM m) w q b n (dirN d) [s]) := by
  have hl := mlook_lk (h.below (one_new w (BmO noBr (.slice none 0 0)))) hx
  have X0 := Lib.hid (BmAt.new w noBr (.slice none 0 0))
  have W0 := Lib.hid (hw.below (one_new w (BmO noBr (.slice none 0 0))))
  have wl := hw.lt
  have HX := Lib.hid hx
  have HF := Lib.hid h.ltF
  have n1 : w.heap.size ≠ q := by omega
  have n1' : q ≠ w.heap.size := n1.symm
  obtain ⟨w0, w1⟩ := hw.lit
  have e1 : (x.kind == 3) = false := by simpa using hk
  have e2 : (x.kind != 3) = true := by simpa using hk
  have HK := Lib.hid hk
  clear h hw hx hk
  go_enter Tryd.func63, Tryd.ntmps63
  go_wp2_with (first
    | (go_at_call 80; ((refine hl.mono ?_); rintro e w2 ⟨a2, c2, rfl, h2, b2⟩; have HH := Lib.hid h2; have B2 := Lib.hid (bel2 (one_new w (BmO noBr (.slice none 0 0))) b2); have X2 := Lib.hid (BmAt.below X0.out b2); have X3 := Lib.hid (BmAt.below X2.out (one_new w2 (BmO x (.slice a2 x.acl.length c2)))); have X4 := Lib.hid (BmAt.new w2 x (.slice a2 x.acl.length c2)); have W3 := Lib.hid (Wk.below (Wk.below W0.out b2) (one_new w2 (BmO x (.slice a2 x.acl.length c2)))); obtain ⟨y0, y1, y2, y3, y4, y5, y6, y7, y8, y9⟩ := X3.out.cell; obtain ⟨z0, z1, z2, z3, z4, z5, z6, z7, z8, z9⟩ := X4.out.cell; obtain ⟨u0, u1⟩ := W3.out.cell; have uf := W3.out.fz; have ul := W3.out.lt; have yf := X3.out.fz; have yl := X3.out.lt; have zl := X4.out.lt; clear b2 h2)))
  refine (show bodyPost _ _ _ _ _ (setBr (w2.alloc (BmO x (.slice a2 x.acl.length c2))) w.heap.size x (.slice a2 x.acl.length c2)) from ?_)
  have Z := BmAt.stored X3.out x (.slice a2 x.acl.length c2)
  have T := wentq_setBr (q := q) (went_below (bel2 B2.out (one_new w2 (BmO x (.slice a2 x.acl.length c2))))) (Nat.le_refl _) x (.slice a2 x.acl.length c2)
  have W5 := W3.out.far (w' := setBr (w2.alloc (BmO x (.slice a2 x.acl.length c2))) w.heap.size x (.slice a2 x.acl.length c2)) (heap_setBr n1' _ _)
  generalize setBr (w2.alloc (BmO x (.slice a2 x.acl.length c2))) w.heap.size x (.slice a2 x.acl.length c2) = V5 at Z T W5 ⊢
  obtain ⟨g0, g1, g2, g3, g4, g5, g6, g7, g8, g9⟩ := Z.cell
  exact bodyPost_ret (v := .tuple #[BrV x (.slice a2 x.acl.length c2), .int .i64 0]) (by simp [results, Tryd.results63, go_sem, g0, g1, g2, g3, g4, g5, g6, g7, g8, g9]) rfl ⟨0, x, n, a2, c2, rfl, HH.out.of (fun i hi => (heap_alloc_old w _ (HF.out i hi)).symm), Or.inl ⟨rfl, Nat.le_refl _, fun rest => fol_on _ rfl HX.out HK.out _⟩, fun _ => W5, T⟩

theorem link_at {q : Nat} {V : World} {v : Value} (h : MAt w b F m) (hq : ¬ F q) (hb : Below w.heap.size w V) : MAt (V.setCell ⟨q, 1, none⟩ v) b F m :=
  h.keep (by simpa using hb.size) (fun i hi => (other_set _ _ (fun e : i = q => hq (by rw [← e]; exact hi))).trans (hb.block i (h.ltF i hi)))
theorem link_leads {L : Int → Txt → Option Br} {n n' : Nat} {d : Int} {s : Txt} {x y : Br} {E : Int} (hx : L d s = some x) (hk : x.kind = 3) (h : Leads L n (dirN 0) (N.ps x.link) E y n') : Leads L (n + 1) (dirN d) [s] E y n' := by
  have e : ∀ rest, fol L (n + 1) (dirN d) ([s] ++ rest) = fol L n (dirN 0) (N.ps x.link ++ rest) := fun rest => fol_link rfl hx hk rest
  rcases h with ⟨h1, h2, h3⟩ | ⟨h1, h2, h3⟩
  · exact Or.inl ⟨h1, by omega, fun rest => (e rest).trans (h3 rest)⟩
  · exact Or.inr ⟨h1, h2, fun rest => (e rest).trans (h3 rest)⟩

set_option maxHeartbeats 4000000 in
set_option maxRecDepth 8000 in
theorem rin_stop {q : Nat} (h : MAt w b F m) (hw : Wk w q b 8) {d : Int} {s : Txt} {x : Br} (hx : lkM m d s = some x) (hk : x.kind = 3) :
    Calls Tryd.prog 63 #[TP q, .int .i64 d, .string (bs s)] w (Led F (lkM m) w q b 0 (dirN d) [s]) := by
  have hl := mlook_lk (h.below (one_new w (BmO noBr (.slice none 0 0)))) hx
  have X0 := Lib.hid (BmAt.new w noBr (.slice none 0 0))
  have W0 := Lib.hid (hw.below (one_new w (BmO noBr (.slice none 0 0))))
  have wl := hw.lt
  have HX := Lib.hid hx
  have HF := Lib.hid h.ltF
  have n1 : w.heap.size ≠ q := by omega
  have n1' : q ≠ w.heap.size := n1.symm
  obtain ⟨w0, w1⟩ := hw.lit
  have e1 : (x.kind == 3) = true := by simpa using hk
  have e2 : (x.kind != 3) = false := by simpa using hk
  have HK := Lib.hid hk
  clear h hw hx hk
  go_enter Tryd.func63, Tryd.ntmps63
  go_wp2_with (first
    | (go_at_call 80; ((refine hl.mono ?_); rintro e w2 ⟨a2, c2, rfl, h2, b2⟩; have HH := Lib.hid h2; have B2 := Lib.hid (bel2 (one_new w (BmO noBr (.slice none 0 0))) b2); have X2 := Lib.hid (BmAt.below X0.out b2); have X3 := Lib.hid (BmAt.below X2.out (one_new w2 (BmO x (.slice a2 x.acl.length c2)))); have X4 := Lib.hid (BmAt.new w2 x (.slice a2 x.acl.length c2)); have W3 := Lib.hid (Wk.below (Wk.below W0.out b2) (one_new w2 (BmO x (.slice a2 x.acl.length c2)))); obtain ⟨y0, y1, y2, y3, y4, y5, y6, y7, y8, y9⟩ := X3.out.cell; obtain ⟨z0, z1, z2, z3, z4, z5, z6, z7, z8, z9⟩ := X4.out.cell; obtain ⟨u0, u1⟩ := W3.out.cell; have uf := W3.out.fz; have ul := W3.out.lt; have yf := X3.out.fz; have yl := X3.out.lt; have zl := X4.out.lt; clear b2 h2)))
  refine (show bodyPost _ _ _ _ _ (setBr ((w2.alloc (BmO x (.slice a2 x.acl.length c2))).setCell ⟨q, 1, none⟩ (.int .i64 9)) w.heap.size noBr (.slice none 0 0)) from ?_)
  have Z := BmAt.stored (w := (w2.alloc (BmO x (.slice a2 x.acl.length c2))).setCell ⟨q, 1, none⟩ (.int .i64 9)) (k := w.heap.size) (b0 := noBr) (v0 := .slice none 0 0) ((other_set _ _ n1).trans X3.out) noBr (.slice none 0 0)
  have T := wentq_setBr (q := q) (Went.set (i := 1) (v := .int .i64 9) (went_below (q := q) (bel2 B2.out (one_new w2 (BmO x (.slice a2 x.acl.length c2))))) rfl) (Nat.le_refl _) noBr (.slice none 0 0)
  generalize setBr ((w2.alloc (BmO x (.slice a2 x.acl.length c2))).setCell ⟨q, 1, none⟩ (.int .i64 9)) w.heap.size noBr (.slice none 0 0) = V5 at Z T ⊢
  obtain ⟨g0, g1, g2, g3, g4, g5, g6, g7, g8, g9⟩ := Z.cell
  exact bodyPost_ret (v := .tuple #[BrV noBr (.slice none 0 0), .int .i64 14]) (by simp [results, Tryd.results63, go_sem, g0, g1, g2, g3, g4, g5, g6, g7, g8, g9]) rfl ⟨14, noBr, 0, none, 0, rfl, Held.nil _ _, Or.inr ⟨by decide, rfl, fun rest => fol_stop rfl HX.out HK.out _⟩, fun e => absurd e (by decide), T⟩

set_option maxHeartbeats 4000000 in
set_option maxRecDepth 8000 in
theorem rin_link {q n k : Nat} (h : MAt w b F m) (hL : LinksM m) (hq : ¬ F q) (hw : Wk w q b k) (hkn : k + 1 = 8 - n) {d : Int} {s : Txt} {x : Br} (hx : lkM m d s = some x) (hk : x.kind = 3)
    (hf : ∀ (V : World) (l : Txt), MAt V b F m → Wk V q b (8 - n) → l.length ≤ 168 → N.er l = 0 → Calls Tryd.prog 62 #[TP q, .string (bs l)] V (Led F (lkM m) V q b n (dirN 0) (N.ps l))) :
    Calls Tryd.prog 63 #[TP q, .int .i64 d, .string (bs s)] w (Led F (lkM m) w q b (n + 1) (dirN d) [s]) := by
  have hl := mlook_lk (h.below (one_new w (BmO noBr (.slice none 0 0)))) hx
  have X0 := Lib.hid (BmAt.new w noBr (.slice none 0 0))
  have W0 := Lib.hid (hw.below (one_new w (BmO noBr (.slice none 0 0))))
  have wl := hw.lt
  have HX := Lib.hid hx
  have HF := Lib.hid h.ltF
  have n1 : w.heap.size ≠ q := by omega
  have n1' : q ≠ w.heap.size := n1.symm
  obtain ⟨w0, w1⟩ := hw.lit
  have e1 : (x.kind == 3) = true := by simpa using hk
  have e2 : (x.kind != 3) = false := by simpa using hk
  have HK := Lib.hid hk
  have HLl := Lib.hid (hL x (lkM_mem hx) hk)
  have HM := Lib.hid h
  have HKN := Lib.hid hkn
  have HQ := Lib.hid hq
  have v1 : IntKind.i64.wrap ((k : Int) + 1) = (k : Int) + 1 := IntWalk.i64_in _ (by omega)
  have v2 : decide ((8 : Int) < (k : Int) + 1) = false := by simp; omega
  have v3 : ¬ (8 : Int) < (k : Int) + 1 := by omega
  clear h hw hx hk hL hkn hq
  go_enter Tryd.func63, Tryd.ntmps63
  go_wp2_with (first
    | (go_at_call 80; ((refine hl.mono ?_); rintro e w2 ⟨a2, c2, rfl, h2, b2⟩; have HH := Lib.hid h2; have B2 := Lib.hid (bel2 (one_new w (BmO noBr (.slice none 0 0))) b2); have X2 := Lib.hid (BmAt.below X0.out b2); have X3 := Lib.hid (BmAt.below X2.out (one_new w2 (BmO x (.slice a2 x.acl.length c2)))); have X4 := Lib.hid (BmAt.new w2 x (.slice a2 x.acl.length c2)); have W3 := Lib.hid (Wk.below (Wk.below W0.out b2) (one_new w2 (BmO x (.slice a2 x.acl.length c2)))); obtain ⟨y0, y1, y2, y3, y4, y5, y6, y7, y8, y9⟩ := X3.out.cell; obtain ⟨z0, z1, z2, z3, z4, z5, z6, z7, z8, z9⟩ := X4.out.cell; obtain ⟨u0, u1⟩ := W3.out.cell; have uf := W3.out.fz; have ul := W3.out.lt; have yf := X3.out.fz; have yl := X3.out.lt; have zl := X4.out.lt; clear b2 h2))
    | (go_at_call 62; ((refine (hf ((w2.alloc (BmO x (.slice a2 x.acl.length c2))).setCell ⟨q, 1, none⟩ (.int .i64 ((k : Int) + 1))) x.link (link_at HM.out HQ.out (bel2 B2.out (one_new w2 (BmO x (.slice a2 x.acl.length c2))))) (by rw [← HKN.out]; exact W3.out.put (k + 1)) HLl.out.1 HLl.out.2).mono ?_); rintro e w5 ⟨E, y, n', a5, c5, rfl, h5, l5, k5, t5⟩; have H5 := Lib.hid h5; have L5 := Lib.hid l5; have K5 := Lib.hid k5; have T5 := Lib.hid t5; have X5 : Hid (BmAt w5 w.heap.size noBr (.slice none 0 0)) := Lib.hid ((t5.block w.heap.size (by simpa using yl) n1).trans ((other_set _ _ n1).trans X3.out)); clear h5 l5 k5 t5; obtain ⟨x0, x1, x2, x3, x4, x5, x6, x7, x8, x9⟩ := X5.out.cell; have xf := X5.out.fz; have xl := X5.out.lt)))
  refine (show bodyPost _ _ _ _ _ (setBr w5 w.heap.size y (.slice a5 y.acl.length c5)) from ?_)
  have BB := bel2 B2.out (one_new w2 (BmO x (.slice a2 x.acl.length c2)))
  have Z := BmAt.stored X5.out y (.slice a5 y.acl.length c5)
  have T := wentq_setBr (q := q) ((Went.set (i := 1) (v := .int .i64 ((k : Int) + 1)) (went_below (q := q) BB) rfl).trans T5.out) (Nat.le_refl _) y (.slice a5 y.acl.length c5)
  have W5 : E = 0 → Wk (setBr w5 w.heap.size y (.slice a5 y.acl.length c5)) q b (8 - n') := fun e => (K5.out e).far (heap_setBr n1' _ _)
  generalize setBr w5 w.heap.size y (.slice a5 y.acl.length c5) = V5 at Z T W5 ⊢
  obtain ⟨g0, g1, g2, g3, g4, g5, g6, g7, g8, g9⟩ := Z.cell
  exact bodyPost_ret (v := .tuple #[BrV y (.slice a5 y.acl.length c5), .int .i64 E]) (by simp [results, Tryd.results63, go_sem, g0, g1, g2, g3, g4, g5, g6, g7, g8, g9]) rfl ⟨E, y, n', a5, c5, rfl, H5.out.of (fun i hi => ((other_set _ _ (fun e : i = q => HQ.out (by rw [← e]; exact hi))).trans (BB.block i (HF.out i hi))).symm), link_leads HX.out HK.out L5.out, W5, T⟩

end

end Go.Proofs.YtpcdcmoapenbdaaDoor.T

namespace Go.Proofs.YtpcdcmoapenbdaaDoor.T
open Go.ChangeShapes Go.WideShapes Go.ChangeAt Go.RowKit
open Go.Proofs.YtpcdcmoapenbdaaDoor.N (bs bs_data bs_size bs_inj bs_of Glob Row)
open Go.Proofs.YtpcdcmoapenbdaaDoor.A (Tm TRow)

/-- where a path's directory is -/
def LeadTo (L : Int → Txt → Option Br) (n : Nat) (qs : List Txt) (E d' : Int) (n' : Nat) : Prop :=
  (E = 0 ∧ n' ≤ n ∧ ∃ x : Br, x.kind = 2 ∧ x.dir = d' ∧ ∀ rest, fol L n (dirN 0) (qs ++ rest) = fol L n' x rest) ∨
  (E ≠ 0 ∧ d' = 0 ∧ ((∀ rest, fol L n (dirN 0) (qs ++ rest) = (E, noBr)) ∨ (E = 15 ∧ ∃ x : Br, ¬ x.kind = 2 ∧ ∀ rest, fol L n (dirN 0) (qs ++ rest) = fol L n' x rest)))

/-- parts that lie there -/
structure Pt (V : World) (bk o : Nat) (ps : List Txt) : Prop where
  lt : bk < V.heap.size
  at_ : ∀ j p, ps[j]? = some p → V.cell? ⟨bk, o + j, none⟩ = some (.string (bs p))
theorem Pt.went {V V' : World} {bk o q : Nat} {ps : List Txt} (h : Pt V bk o ps) (hq : bk ≠ q) (ht : Went (· = q) V (· = q) V') : Pt V' bk o ps :=
  ⟨Nat.lt_of_lt_of_le h.lt ht.size, fun j p e => (cell_of_heap (ht.block bk h.lt hq)).trans (h.at_ j p e)⟩
theorem Pt.ne {V : World} {bk o q b k : Nat} {p : Txt} {ps : List Txt} (h : Pt V bk o (p :: ps)) (hw : Wk V q b k) : bk ≠ q := by
  rintro rfl
  have h1 := h.at_ 0 p rfl
  unfold Wk at hw
  simp only [World.cell?, hw] at h1
  rcases o with _ | _ | o
  · simp at h1
  · simp at h1
  · simp at h1

/-- so far -/
structure Tt (L : Int → Txt → Option Br) (w W : World) (q b n bk o : Nat) (qs : List Txt) (z : Txt) (j : Nat) (dd : Int) (n' : Nat) : Prop where
  went : Went (· = q) w (· = q) W
  wk : Wk W q b (8 - n')
  part : Pt W bk o (qs ++ [z])
  le : n' ≤ n
  lead : ∃ x : Br, x.kind = 2 ∧ x.dir = dd ∧ ∀ rest, fol L n (dirN 0) (qs.take j ++ rest) = fol L n' x rest

section
variable {L : Int → Txt → Option Br} {w W : World} {q b n bk o : Nat} {qs : List Txt} {z : Txt} {j : Nat} {dd : Int} {n' : Nat}

theorem Tt.ne (h : Tt L w W q b n bk o qs z j dd n') : bk ≠ q := by
  have h1 := h.part
  cases hq : qs ++ [z] with
  | nil => simp at hq
  | cons p ps =>
    rw [hq] at h1
    exact h1.ne h.wk
theorem take_rest (hj : j < qs.length) (rest : List Txt) : qs.take (j + 1) ++ rest = qs.take j ++ (qs[j] :: rest) := by
  rw [List.take_succ_eq_append_getElem hj, List.append_assoc]
  rfl
/-- one part more -/
theorem Tt.more (h : Tt L w W q b n bk o qs z j dd n') (hj : j < qs.length) {y : Br} {n'' : Nat} {E : Int} (hl : Leads L n' (dirN dd) [qs[j]] E y n'') (hE : E = 0) : n'' ≤ n ∧ ∀ rest, fol L n (dirN 0) (qs.take (j + 1) ++ rest) = fol L n'' y rest := by
  obtain ⟨x, hx, hd, h1⟩ := h.lead
  rcases hl with ⟨_, h3, h4⟩ | ⟨h2, _⟩
  · exact ⟨Nat.le_trans h3 h.le, fun rest => by rw [take_rest hj, h1, fol_dir L n' hx, hd]; exact h4 rest⟩
  · exact absurd hE h2
theorem Tt.bad (h : Tt L w W q b n bk o qs z j dd n') (hj : j < qs.length) {y : Br} {n'' : Nat} {E : Int} (hl : Leads L n' (dirN dd) [qs[j]] E y n'') (hE : ¬ E = 0) : LeadTo L n qs E 0 n'' := by
  obtain ⟨x, hx, hd, h1⟩ := h.lead
  rcases hl with ⟨h2, _⟩ | ⟨_, _, h4⟩
  · exact absurd h2 hE
  · refine Or.inr ⟨hE, rfl, Or.inl fun rest => ?_⟩
    have e : qs ++ rest = qs.take (j + 1) ++ (qs.drop (j + 1) ++ rest) := by rw [← List.append_assoc, List.take_append_drop]
    rw [e, take_rest hj, h1, fol_dir L n' hx, hd]
    exact h4 _
theorem Tt.kind (h : Tt L w W q b n bk o qs z j dd n') (hj : j < qs.length) {y : Br} {n'' : Nat} {E : Int} (hl : Leads L n' (dirN dd) [qs[j]] E y n'') (hE : E = 0) (hk : ¬ y.kind = 2) : LeadTo L n qs 15 0 n'' := by
  have h1 := (h.more hj hl hE).2
  refine Or.inr ⟨by decide, rfl, ?_⟩
  have e : ∀ rest, qs ++ rest = qs.take (j + 1) ++ (qs.drop (j + 1) ++ rest) := fun rest => by rw [← List.append_assoc, List.take_append_drop]
  cases hd : qs.drop (j + 1) with
  | nil => exact Or.inr ⟨rfl, y, hk, fun rest => by rw [e, hd, h1]; rfl⟩
  | cons p ps => exact Or.inl fun rest => by rw [e, hd, h1]; exact fol_kind L n'' hk _ _
end

/-- the document's Split, of a path that has parts -/
theorem refSplit_to {l z : Txt} {qs : List Txt} (hl : l.length ≤ maxLen) (he : N.er l = 0) (hp : N.ps l = qs ++ [z]) (w : World) :
    Calls Tryd.prog 32 #[.string (bs l)] w fun e w' => ∃ bk o c, e = .returned (.tuple #[.slice (some ⟨bk, o, none⟩) (qs.length + 1) c, .int .i64 0]) ∧ qs.length + 1 ≤ c ∧ Pt w' bk o (qs ++ [z]) ∧ Below w.heap.size w w' := by
  have h := N.refSplit_any (bs l) w (by rw [bs_size]; exact hl)
  rw [bs_data] at h
  refine h.mono ?_
  rintro e w' ⟨a, c, rfl, ⟨h1, h2⟩, hb⟩
  rw [hp] at h1 h2 ⊢
  rw [he]
  obtain ⟨bk, o, rfl, h3, h4⟩ := h2 (by simp)
  exact ⟨bk, o, c, by simp, by simpa using h1, ⟨h3, h4⟩, hb⟩

section
variable {w : World} {b : Nat} {F : Nat → Prop} {m : Ms}

/-- what the walker's to answers -/
def LedTo (L : Int → Txt → Option Br) (w : World) (q b n : Nat) (qs : List Txt) (z : Txt) (e : Ending) (w' : World) : Prop :=
  ∃ E d' n', e = .returned (.tuple #[.int .i64 d', .string (bs (if E = 0 then z else [])), .int .i64 E]) ∧ LeadTo L n qs E d' n' ∧ (E = 0 → Wk w' q b (8 - n')) ∧ Went (· = q) w (· = q) w'

theorem keepq {q : Nat} {W : World} (h : MAt w b F m) (hq : ¬ F q) (ht : Went (· = q) w (· = q) W) : MAt W b F m :=
  h.keep ht.size (fun i hi => ht.block i (h.ltF i hi) (fun e => hq (by rw [← e]; exact hi)))

set_option maxHeartbeats 4000000 in
set_option maxRecDepth 8000 in
theorem rto_any {q n : Nat} (h : MAt w b F m) (hq : ¬ F q) (hw : Wk w q b (8 - n)) {l z : Txt} {qs : List Txt} (hl : l.length ≤ maxLen) (he : N.er l = 0) (hp : N.ps l = qs ++ [z])
    (hI : ∀ (V : World) (n' : Nat) (d : Int) (s : Txt), n' ≤ n → MAt V b F m → Wk V q b (8 - n') → Calls Tryd.prog 63 #[TP q, .int .i64 d, .string (bs s)] V (Led F (lkM m) V q b n' (dirN d) [s])) :
    Calls Tryd.prog 79 #[TP q, .string (bs l)] w (LedTo (lkM m) w q b n qs z) := by
  have hs := refSplit_to hl he hp w
  have H := Lib.hid h
  have HQ := Lib.hid hq
  have HW := Lib.hid hw
  have hql : qs.length ≤ 16 := by have := N.ps_len l; rw [hp, List.length_append] at this; simp at this; omega
  have e0 : (((qs.length : Int) + 1) == 0) = false := by rw [beq_eq_false_iff_ne]; omega
  clear h hq hw hl he hp
  go_enter Tryd.func79, Tryd.ntmps79
  go_wp2_with (go_at_call 32; ((refine hs.mono ?_); rintro e w1 ⟨bk, o, c, rfl, hc, pt, b1⟩; have P1 := Lib.hid pt; have B1 := Lib.hid b1; clear pt b1))
  go_loopw [9, 10] (fun d i W => ∃ (j : Nat) (dd : Int) (n' : Nat), j ≤ qs.length ∧ d = .int .i64 dd ∧ i = .int .i64 j ∧ Tt (lkM m) w W q b n bk o qs z j dd n') (fun _ i _ => qs.length - (intOf i).toNat)
  case atStart => exact ⟨0, 0, n, Nat.zero_le _, rfl, rfl, went_below B1.out, HW.out.below B1.out, P1.out, Nat.le_refl _, dirN 0, rfl, rfl, fun rest => rfl⟩
  case round =>
    obtain ⟨j, dd, n', hj, rfl, rfl, tt⟩ := hrel
    have TT := Lib.hid tt
    have lb := tt.part.lt
    have v1 : IntKind.i64.wrap (qs.length : Int) = (qs.length : Int) := IntWalk.i64_in _ (by omega)
    by_cases hjl : j < qs.length
    · have cj := tt.part.at_ j qs[j] (by rw [List.getElem?_append_left hjl, List.getElem?_eq_getElem hjl])
      clear tt
      go_wp2_with (go_at_call 63; ((refine (hI _ n' dd qs[j] TT.out.le (keepq H.out HQ.out TT.out.went) TT.out.wk).mono ?_); rintro e w5 ⟨E, y, n'', a5, c5, rfl, h5, l5, k5, t5⟩; have L5 := Lib.hid l5; have K5 := Lib.hid k5; have T5 := Lib.hid t5; have X5 := Lib.hid (BmAt.new w5 y (.slice a5 y.acl.length c5)); obtain ⟨x0, x1, x2, x3, x4, x5, x6, x7, x8, x9⟩ := X5.out.cell; have xl := X5.out.lt; clear h5 l5 k5 t5))
      · have hE : ¬ E = 0 := by simpa using ‹(E != 0) = true›
        have wt := TT.out.went.trans (T5.out.trans (went_below (q := q) (one_new w5 (BmO y (.slice a5 y.acl.length c5)))))
        exact bodyPost_ret (v := .tuple #[.int .i64 0, .string ⟨#[]⟩, .int .i64 E]) (by simp [results, Tryd.results79, go_sem]) rfl ⟨E, 0, n'', by rw [if_neg hE]; rfl, TT.out.bad hjl L5.out hE, fun e => absurd e hE, wt⟩
      · have hE : E = 0 := by simpa using ‹(E != 0) = false›
        have hk : ¬ y.kind = 2 := by simpa using ‹(y.kind != 2) = true›
        have wt := TT.out.went.trans (T5.out.trans (went_below (q := q) (one_new w5 (BmO y (.slice a5 y.acl.length c5)))))
        exact bodyPost_ret (v := .tuple #[.int .i64 0, .string ⟨#[]⟩, .int .i64 15]) (by simp [results, Tryd.results79, go_sem]) rfl ⟨15, 0, n'', rfl, TT.out.kind hjl L5.out hE hk, fun e => absurd e (by decide), wt⟩
      · have hE : E = 0 := by simpa using ‹(E != 0) = false›
        have hk : y.kind = 2 := by simpa using ‹(y.kind != 2) = false›
        have wt := TT.out.went.trans (T5.out.trans (went_below (q := q) (one_new w5 (BmO y (.slice a5 y.acl.length c5)))))
        have mo := TT.out.more hjl L5.out hE
        have ne := TT.out.ne
        have pp := (TT.out.part.went ne T5.out).went ne (went_below (q := q) (one_new w5 (BmO y (.slice a5 y.acl.length c5))))
        have wk := (K5.out hE).below (one_new w5 (BmO y (.slice a5 y.acl.length c5)))
        go_roundw
        case rel => exact ⟨j + 1, y.dir, n'', by omega, rfl, by go_num, wt, wk, pp, mo.1, y, hk, rfl, mo.2⟩
        case measure => simp [intOf]; omega
    · obtain rfl : j = qs.length := by omega
      have cj := tt.part.at_ qs.length z (by rw [List.getElem?_append_right (Nat.le_refl _)]; simp)
      clear tt
      go_wp2
      go_quiet (fail)
      go_wp2
      have wt := TT.out.went.trans (went_below (q := q) (below_drewN (Below.refl wr.heap.size wr) nq))
      obtain ⟨x, hx, hd, hr⟩ := TT.out.lead
      rw [List.take_length] at hr
      exact bodyPost_ret (v := .tuple #[.int .i64 dd, .string (bs z), .int .i64 0]) (by simp [results, Tryd.results79, go_sem]) rfl ⟨0, dd, n', rfl, Or.inl ⟨rfl, TT.out.le, x, hx, hd, hr⟩, fun _ => TT.out.wk, wt⟩

end

end Go.Proofs.YtpcdcmoapenbdaaDoor.T

namespace Go.Proofs.YtpcdcmoapenbdaaDoor.T
open Go.ChangeShapes Go.WideShapes Go.ChangeAt Go.RowKit
open Go.Proofs.YtpcdcmoapenbdaaDoor.N (bs bs_data bs_size bs_inj bs_of Glob Row)
open Go.Proofs.YtpcdcmoapenbdaaDoor.A (Tm TRow)

theorem find_err {L : Int → Txt → Option Br} {n n' : Nat} {qs : List Txt} {z : Txt} {E d' : Int} (h : LeadTo L n qs E d' n') (hE : ¬ E = 0) : Leads L n (dirN 0) (qs ++ [z]) E noBr n' := by
  rcases h with ⟨h1, _⟩ | ⟨_, _, h3 | ⟨h3, x, hx, h4⟩⟩
  · exact absurd h1 hE
  · exact Or.inr ⟨hE, rfl, fun rest => by rw [List.append_assoc]; exact h3 _⟩
  · exact Or.inr ⟨hE, rfl, fun rest => by rw [List.append_assoc, h4, h3]; exact fol_kind L n' hx _ _⟩
theorem find_on {L : Int → Txt → Option Br} {n n' n'' : Nat} {qs : List Txt} {z : Txt} {E d' : Int} {y : Br} (h : LeadTo L n qs 0 d' n') (h2 : Leads L n' (dirN d') [z] E y n'') : Leads L n (dirN 0) (qs ++ [z]) E y n'' := by
  rcases h with ⟨_, h1, x, hx, hd, h3⟩ | ⟨h, _⟩
  · have e : ∀ rest, fol L n (dirN 0) ((qs ++ [z]) ++ rest) = fol L n' (dirN d') ([z] ++ rest) := fun rest => by
      rw [List.append_assoc, h3, ← hd]
      exact fol_dir L n' hx _ _
    rcases h2 with ⟨a1, a2, a3⟩ | ⟨a1, a2, a3⟩
    · exact Or.inl ⟨a1, Nat.le_trans a2 h1, fun rest => (e rest).trans (a3 rest)⟩
    · exact Or.inr ⟨a1, a2, fun rest => (e rest).trans (a3 rest)⟩
  · exact absurd rfl h
theorem LeadTo.le {L : Int → Txt → Option Br} {n n' : Nat} {qs : List Txt} {d' : Int} (h : LeadTo L n qs 0 d' n') : n' ≤ n := by
  rcases h with ⟨_, h, _⟩ | ⟨h, _⟩
  · exact h
  · exact absurd rfl h

section
variable {w : World} {b : Nat} {F : Nat → Prop} {m : Ms}

set_option maxHeartbeats 4000000 in
theorem rfind_root {q n : Nat} (hw : Wk w q b (8 - n)) {l : Txt} (hl : l = [62]) :
    Calls Tryd.prog 62 #[TP q, .string (bs l)] w (Led F (lkM m) w q b n (dirN 0) []) := by
  have HW := Lib.hid hw
  have t1 : ((bs l).toList == [62]) = true := by rw [A.bs_toList, hl]; rfl
  clear hw hl
  go_enter Tryd.func62, Tryd.ntmps62
  go_wp2
  refine (show bodyPost _ _ _ _ _ (w.alloc (BmO (dirN 0) (.slice none 0 0))) from ?_)
  have Z := BmAt.new w (dirN 0) (.slice none 0 0)
  have T := went_below (q := q) (one_new w (BmO (dirN 0) (.slice none 0 0)))
  have W5 := HW.out.below (one_new w (BmO (dirN 0) (.slice none 0 0)))
  generalize w.alloc (BmO (dirN 0) (.slice none 0 0)) = V5 at Z T W5 ⊢
  obtain ⟨g0, g1, g2, g3, g4, g5, g6, g7, g8, g9⟩ := Z.cell
  exact bodyPost_ret (v := .tuple #[BrV (dirN 0) (.slice none 0 0), .int .i64 0]) (by simp [results, Tryd.results62, go_sem, g0, g1, g2, g3, g4, g5, g6, g7, g8, g9]) rfl ⟨0, dirN 0, n, none, 0, rfl, Held.nil _ _, Or.inl ⟨rfl, Nat.le_refl _, fun rest => rfl⟩, fun _ => W5, T⟩

set_option maxHeartbeats 4000000 in
set_option maxRecDepth 8000 in
theorem rfind_on {q n : Nat} (h : MAt w b F m) (hq : ¬ F q) (hw : Wk w q b (8 - n)) {l z : Txt} {qs : List Txt} (hl : l.length ≤ maxLen) (he : N.er l = 0) (hp : N.ps l = qs ++ [z]) (hn : ¬ l = [62])
    (hI : ∀ (V : World) (n' : Nat) (d : Int) (s : Txt), n' ≤ n → MAt V b F m → Wk V q b (8 - n') → Calls Tryd.prog 63 #[TP q, .int .i64 d, .string (bs s)] V (Led F (lkM m) V q b n' (dirN d) [s])) :
    Calls Tryd.prog 62 #[TP q, .string (bs l)] w (Led F (lkM m) w q b n (dirN 0) (N.ps l)) := by
  have ht := rto_any (h.below (one_new w (BmO noBr (.slice none 0 0)))) hq (hw.below (one_new w (BmO noBr (.slice none 0 0)))) hl he hp hI
  have X0 := Lib.hid (BmAt.new w noBr (.slice none 0 0))
  have H := Lib.hid h
  have HQ := Lib.hid hq
  have wl := hw.lt
  have HF := Lib.hid h.ltF
  have n1 : w.heap.size ≠ q := by omega
  have n1' : q ≠ w.heap.size := n1.symm
  have t1 : ((bs l).toList == [62]) = false := by rw [A.bs_toList, beq_eq_false_iff_ne]; exact hn
  rw [hp]
  clear h hq hw hl he hp hn
  go_enter Tryd.func62, Tryd.ntmps62
  go_wp2_with (first
    | (go_at_call 79; ((refine ht.mono ?_); rintro e w1 ⟨E, d', n', rfl, lt1, k1, tq⟩; have L1 := Lib.hid lt1; have K1 := Lib.hid k1; have T1 := Lib.hid tq; have X1 : Hid (BmAt w1 w.heap.size noBr (.slice none 0 0)) := Lib.hid ((tq.block w.heap.size (by simp) n1).trans X0.out); clear lt1 k1 tq; obtain ⟨x0, x1, x2, x3, x4, x5, x6, x7, x8, x9⟩ := X1.out.cell; have xf := X1.out.fz; have xl := X1.out.lt; have HZ : Hid (E = 0 → (if E = 0 then z else []) = z) := Lib.hid (fun e => if_pos e); generalize (if E = 0 then z else []) = zz at HZ ⊢))
    | (go_at_call 63; ((have hE : E = 0 := by simpa using ‹(E != 0) = false›); have hz := HZ.out hE; subst hz; subst hE; (refine (hI w1 n' d' zz L1.out.le (keepq H.out HQ.out ((went_below (q := q) (one_new w (BmO noBr (.slice none 0 0)))).trans T1.out)) (K1.out rfl)).mono ?_); rintro e w5 ⟨E5, y, n5, a5, c5, rfl, h5, l5, k5, t5⟩; have H5 := Lib.hid h5; have L5 := Lib.hid (find_on L1.out l5); have K5 := Lib.hid k5; have T5 := Lib.hid t5; have X5 : Hid (BmAt w5 w.heap.size noBr (.slice none 0 0)) := Lib.hid ((t5.block w.heap.size xl n1).trans X1.out); clear h5 l5 k5 t5 x0 x1 x2 x3 x4 x5 x6 x7 x8 x9 xf; obtain ⟨x0, x1, x2, x3, x4, x5, x6, x7, x8, x9⟩ := X5.out.cell; have xf := X5.out.fz; have xl5 := X5.out.lt)))
  · have hE : ¬ E = 0 := by simpa using ‹(E != 0) = true›
    refine (show bodyPost _ _ _ _ _ (setBr w1 w.heap.size noBr (.slice none 0 0)) from ?_)
    have Z := BmAt.stored X1.out noBr (.slice none 0 0)
    have T := wentq_setBr (q := q) ((went_below (q := q) (one_new w (BmO noBr (.slice none 0 0)))).trans T1.out) (Nat.le_refl _) noBr (.slice none 0 0)
    generalize setBr w1 w.heap.size noBr (.slice none 0 0) = V5 at Z T ⊢
    obtain ⟨g0, g1, g2, g3, g4, g5, g6, g7, g8, g9⟩ := Z.cell
    exact bodyPost_ret (v := .tuple #[BrV noBr (.slice none 0 0), .int .i64 E]) (by simp [results, Tryd.results62, go_sem, g0, g1, g2, g3, g4, g5, g6, g7, g8, g9]) rfl ⟨E, noBr, n', none, 0, rfl, Held.nil _ _, find_err L1.out hE, fun e => absurd e hE, T⟩
  · refine (show bodyPost _ _ _ _ _ (setBr w5 w.heap.size y (.slice a5 y.acl.length c5)) from ?_)
    have wt := (went_below (q := q) (one_new w (BmO noBr (.slice none 0 0)))).trans T1.out
    have Z := BmAt.stored X5.out y (.slice a5 y.acl.length c5)
    have T := wentq_setBr (q := q) (wt.trans T5.out) (Nat.le_refl _) y (.slice a5 y.acl.length c5)
    have W5 : E5 = 0 → Wk (setBr w5 w.heap.size y (.slice a5 y.acl.length c5)) q b (8 - n5) := fun e => (K5.out e).far (heap_setBr n1' _ _)
    generalize setBr w5 w.heap.size y (.slice a5 y.acl.length c5) = V5 at Z T W5 ⊢
    obtain ⟨g0, g1, g2, g3, g4, g5, g6, g7, g8, g9⟩ := Z.cell
    exact bodyPost_ret (v := .tuple #[BrV y (.slice a5 y.acl.length c5), .int .i64 E5]) (by simp [results, Tryd.results62, go_sem, g0, g1, g2, g3, g4, g5, g6, g7, g8, g9]) rfl ⟨E5, y, n5, a5, c5, rfl, H5.out.of (fun i hi => (wt.block i (HF.out i hi) (fun e : i = q => HQ.out (by rw [← e]; exact hi))).symm), L5.out, W5, T⟩

theorem root_of {l : Txt} (he : N.er l = 0) (hp : N.ps l = []) : l = [62] := by
  unfold N.er at he
  cases h : N.partsOf l with
  | none => rw [h] at he; cases he
  | some q =>
    have e : q = [] := by rw [N.ps, h] at hp; exact hp
    subst e
    exact (N.partsOf_some h).1

/-- find, of a path -/
theorem rfind_any {q n : Nat} (h : MAt w b F m) (hq : ¬ F q) (hw : Wk w q b (8 - n)) {l : Txt} (hl : l.length ≤ maxLen) (he : N.er l = 0)
    (hI : ∀ (V : World) (n' : Nat) (d : Int) (s : Txt), n' ≤ n → MAt V b F m → Wk V q b (8 - n') → Calls Tryd.prog 63 #[TP q, .int .i64 d, .string (bs s)] V (Led F (lkM m) V q b n' (dirN d) [s])) :
    Calls Tryd.prog 62 #[TP q, .string (bs l)] w (Led F (lkM m) w q b n (dirN 0) (N.ps l)) := by
  rcases List.eq_nil_or_concat (N.ps l) with hp | ⟨qs, z, hp⟩
  · rw [hp]
    exact rfind_root hw (root_of he hp)
  · rw [List.concat_eq_append] at hp
    exact rfind_on h hq hw hl he hp (fun e => by rw [e] at hp; exact absurd (congrArg List.length hp) (by simp [show N.ps [62] = [] from by decide])) hI

/-- in, where n links more may be followed -/
theorem rin_any (hL : LinksM m) {q : Nat} (hq : ¬ F q) : ∀ (n : Nat), n ≤ 8 → ∀ (V : World) (d : Int) (s : Txt), MAt V b F m → Wk V q b (8 - n) → Calls Tryd.prog 63 #[TP q, .int .i64 d, .string (bs s)] V (Led F (lkM m) V q b n (dirN d) [s]) := by
  intro n
  induction n using Nat.strongRecOn with
  | ind n ih =>
    intro hn V d s h hw
    cases hx : lkM m d s with
    | none => exact rin_no h hw hx
    | some x =>
      by_cases hk : x.kind = 3
      · cases n with
        | zero => exact rin_stop h hw hx hk
        | succ n =>
          refine rin_link h hL hq (k := 8 - (n + 1)) hw (by omega) hx hk ?_
          intro V l h' hw' hl he
          exact rfind_any h' hq hw' (by unfold maxLen; omega) he (fun V n' d s hn' h'' hw'' => ih n' (by omega) (by omega) V d s h'' hw'')
      · exact rin_yes h hw hx hk

end

end Go.Proofs.YtpcdcmoapenbdaaDoor.T

namespace Go.Proofs.YtpcdcmoapenbdaaDoor.T
open Go.ChangeShapes Go.WideShapes Go.ChangeAt Go.RowKit
open Go.Proofs.YtpcdcmoapenbdaaDoor.N (bs bs_data bs_size bs_inj bs_of Glob Row)
open Go.Proofs.YtpcdcmoapenbdaaDoor.A (Tm TRow)

theorem leads_is {L : Int → Txt → Option Br} {n n' : Nat} {x y : Br} {ps : List Txt} {E : Int} (h : Leads L n x ps E y n') : fol L n x ps = (E, y) := by
  rcases h with ⟨h1, _, h3⟩ | ⟨_, h2, h3⟩
  · have := h3 []
    rw [List.append_nil, fol_nil] at this
    rw [this, h1]
  · have := h3 []
    rw [List.append_nil] at this
    rw [this, h2]

/-- what the document's In and Find answer -/
def LedM (w : World) (R : Int × Br) (e : Ending) (w' : World) : Prop :=
  ∃ a' c', e = .returned (.tuple #[BrV R.2 (.slice a' R.2.acl.length c'), .int .i64 R.1]) ∧ TRow w' a' c' R.2.acl ∧ Below w.heap.size w w'

section
variable {w : World} {b : Nat} {F : Nat → Prop} {m : Ms}

@[reducible] def twoW (w : World) (b : Nat) : World := (w.alloc (BmO noBr (.slice none 0 0))).alloc (WkO b 0)
theorem two_bel (w : World) (b : Nat) : Below w.heap.size w (twoW w b) := bel2 (one_new w _) (one_new _ _)
theorem two_wk (w : World) (b : Nat) : Wk (twoW w b) (w.heap.size + 1) b (8 - 8) := alloc2_new' w _ _
theorem two_box (w : World) (b : Nat) : BmAt (twoW w b) w.heap.size noBr (.slice none 0 0) := (BmAt.new w _ _).below (one_new _ _)
theorem two_end {V : World} {x : Br} {a : Option Addr} {c : Nat} (h : MAt w b F m) (hh : Held F (twoW w b) a c x.acl) (ht : Went (· = w.heap.size + 1) (twoW w b) (· = w.heap.size + 1) V) :
    TRow (setBr V w.heap.size x (.slice a x.acl.length c)) a c x.acl ∧ Below w.heap.size w (setBr V w.heap.size x (.slice a x.acl.length c)) := by
  constructor
  · have h1 : Held F (setBr V w.heap.size x (.slice a x.acl.length c)) a c x.acl := hh.of (fun i hi => by
      have hl := h.ltF i hi
      exact (heap_setBr (by omega) _ _).trans (ht.block i (Nat.lt_of_lt_of_le hl (two_bel w b).size) (by omega)))
    obtain ⟨a', c', e, h2⟩ := own_trow h1.1
    cases e
    exact h2
  · exact Below.setBr ((two_bel w b).trans (ht.below (B := w.heap.size) (fun i e => by omega) (two_bel w b).size)) (Nat.le_refl _) _ _

set_option maxHeartbeats 2000000 in
set_option maxRecDepth 8000 in
theorem rIn_any (h : MAt w b F m) (hL : LinksM m) (d : Int) (s : Txt) :
    Calls Tryd.prog 38 #[TP b, .int .i64 d, .string (bs s)] w (LedM w (wIn (lkM m) d s)) := by
  have hc := rin_any (b := b) (F := F) hL (q := w.heap.size + 1) (fun hf => by have := h.ltF _ hf; omega) 8 (Nat.le_refl _) (twoW w b) d s (h.below (two_bel w b)) (two_wk w b)
  have H := Lib.hid h
  clear h hL
  unfold wIn
  go_enter Tryd.func38, Tryd.ntmps38
  go_wp2_with (go_at_call 63; ((refine hc.mono ?_); rintro e w5 ⟨E, y, n5, a5, c5, rfl, h5, l5, k5, t5⟩; have H5 := Lib.hid h5; have L5 := Lib.hid (leads_is l5); have T5 := Lib.hid t5; have X5 : Hid (BmAt w5 w.heap.size noBr (.slice none 0 0)) := Lib.hid ((t5.block w.heap.size (two_box w b).lt (by omega)).trans (two_box w b)); clear h5 l5 k5 t5; obtain ⟨x0, x1, x2, x3, x4, x5, x6, x7, x8, x9⟩ := X5.out.cell; have xf := X5.out.fz; have xl := X5.out.lt))
  refine (show bodyPost _ _ _ _ _ (setBr w5 w.heap.size y (.slice a5 y.acl.length c5)) from ?_)
  obtain ⟨R5, B5⟩ := two_end H.out H5.out T5.out
  have Z := BmAt.stored X5.out y (.slice a5 y.acl.length c5)
  generalize setBr w5 w.heap.size y (.slice a5 y.acl.length c5) = V5 at Z R5 B5 ⊢
  obtain ⟨g0, g1, g2, g3, g4, g5, g6, g7, g8, g9⟩ := Z.cell
  exact bodyPost_ret (v := .tuple #[BrV y (.slice a5 y.acl.length c5), .int .i64 E]) (by simp [results, Tryd.results38, go_sem, g0, g1, g2, g3, g4, g5, g6, g7, g8, g9]) rfl (by rw [L5.out]; exact ⟨a5, c5, rfl, R5, B5⟩)

end

end Go.Proofs.YtpcdcmoapenbdaaDoor.T

namespace Go.Proofs.YtpcdcmoapenbdaaDoor.T
open Go.ChangeShapes Go.WideShapes Go.ChangeAt Go.RowKit
open Go.Proofs.YtpcdcmoapenbdaaDoor.N (bs bs_data bs_size bs_inj bs_of Glob Row)
open Go.Proofs.YtpcdcmoapenbdaaDoor.A (Tm TRow)

section
variable {w : World} {b : Nat} {F : Nat → Prop} {m : Ms}

theorem refSplit_no {l : Txt} (hl : l.length ≤ maxLen) (hp : N.ps l = []) (w : World) :
    Calls Tryd.prog 32 #[.string (bs l)] w fun e w' => ∃ a c, e = .returned (.tuple #[.slice a 0 c, .int .i64 (N.er l)]) ∧ Below w.heap.size w w' := by
  have h := N.refSplit_any (bs l) w (by rw [bs_size]; exact hl)
  rw [bs_data] at h
  refine h.mono ?_
  rintro e w' ⟨a, c, rfl, _, hb⟩
  rw [hp]
  exact ⟨a, c, rfl, hb⟩

set_option maxHeartbeats 2000000 in
theorem rto_no {q : Nat} {l : Txt} (hl : l.length ≤ maxLen) (hp : N.ps l = []) :
    Calls Tryd.prog 79 #[TP q, .string (bs l)] w fun e w' => e = .returned (.tuple #[.int .i64 0, .string ⟨#[]⟩, .int .i64 3]) ∧ Below w.heap.size w w' := by
  have hs := refSplit_no hl hp w
  have he := er_of l
  clear hl hp
  generalize N.er l = r at hs he
  rcases he with rfl | ⟨rfl, _⟩
  · go_enter Tryd.func79, Tryd.ntmps79
    go_wp2_with (go_at_call 32; ((refine hs.mono ?_); rintro e w1 ⟨a, c, rfl, b1⟩))
    exact bodyPost_ret (v := .tuple #[.int .i64 0, .string ⟨#[]⟩, .int .i64 3]) (by simp [results, Tryd.results79, go_sem]) rfl ⟨rfl, b1⟩
  · go_enter Tryd.func79, Tryd.ntmps79
    go_wp2_with (go_at_call 32; ((refine hs.mono ?_); rintro e w1 ⟨a, c, rfl, b1⟩))
    exact bodyPost_ret (v := .tuple #[.int .i64 0, .string ⟨#[]⟩, .int .i64 3]) (by simp [results, Tryd.results79, go_sem]) rfl ⟨rfl, b1⟩

set_option maxHeartbeats 2000000 in
theorem rfind_no {q : Nat} {l : Txt} (hl : l.length ≤ maxLen) (he : ¬ N.er l = 0) :
    Calls Tryd.prog 62 #[TP q, .string (bs l)] w fun e w' => e = .returned (.tuple #[BrV noBr (.slice none 0 0), .int .i64 3]) ∧ Below w.heap.size w w' := by
  have hp : N.ps l = [] := by
    rcases er_of l with h | h
    · exact absurd h he
    · exact h.2
  have ht := rto_no (w := w.alloc (BmO noBr (.slice none 0 0))) (q := q) hl hp
  have X0 := Lib.hid (BmAt.new w noBr (.slice none 0 0))
  have t1 : ((bs l).toList == [62]) = false := by
    rw [A.bs_toList, beq_eq_false_iff_ne]
    rintro rfl
    exact he rfl
  clear hl he hp
  go_enter Tryd.func62, Tryd.ntmps62
  go_wp2_with (go_at_call 79; ((refine ht.mono ?_); rintro e w1 ⟨rfl, b1⟩; have B1 := Lib.hid (bel2 (one_new w (BmO noBr (.slice none 0 0))) b1); have X1 := Lib.hid (BmAt.below X0.out b1); clear b1; obtain ⟨x0, x1, x2, x3, x4, x5, x6, x7, x8, x9⟩ := X1.out.cell; have xf := X1.out.fz; have xl := X1.out.lt))
  refine (show bodyPost _ _ _ _ _ (setBr w1 w.heap.size noBr (.slice none 0 0)) from ?_)
  have Z := BmAt.stored X1.out noBr (.slice none 0 0)
  have L := Below.setBr B1.out (Nat.le_refl _) noBr (.slice none 0 0)
  generalize setBr w1 w.heap.size noBr (.slice none 0 0) = V5 at Z L ⊢
  obtain ⟨g0, g1, g2, g3, g4, g5, g6, g7, g8, g9⟩ := Z.cell
  exact bodyPost_ret (v := .tuple #[BrV noBr (.slice none 0 0), .int .i64 3]) (by simp [results, Tryd.results62, go_sem, g0, g1, g2, g3, g4, g5, g6, g7, g8, g9]) rfl ⟨rfl, L⟩

end

end Go.Proofs.YtpcdcmoapenbdaaDoor.T

namespace Go.Proofs.YtpcdcmoapenbdaaDoor.T
open Go.ChangeShapes Go.WideShapes Go.ChangeAt Go.RowKit
open Go.Proofs.YtpcdcmoapenbdaaDoor.N (bs bs_data bs_size bs_inj bs_of Glob Row)
open Go.Proofs.YtpcdcmoapenbdaaDoor.A (Tm TRow)

theorem leadTo_is {L : Int → Txt → Option Br} {n n' : Nat} {qs : List Txt} {E d' : Int} (z : Txt) (h : LeadTo L n qs E d' n') : toR (dirR (fol L n (dirN 0) qs)) z = (d', (if E = 0 then z else []), E) := by
  rcases h with ⟨rfl, _, x, hx, hd, h⟩ | ⟨hE, rfl, h | ⟨rfl, x, hx, h⟩⟩
  · have := h []
    rw [List.append_nil, fol_nil] at this
    simp [this, toR, dirR, hx, hd]
  · have := h []
    rw [List.append_nil] at this
    simp [this, toR, dirR, hE]
  · have := h []
    rw [List.append_nil, fol_nil] at this
    simp [this, toR, dirR, hx]

section
variable {w : World} {b : Nat} {F : Nat → Prop} {m : Ms}

theorem one_wk (w : World) (b : Nat) : Wk (w.alloc (WkO b 0)) w.heap.size b (8 - 8) := heap_alloc_new w _
theorem one_end {V : World} (ht : Went (· = w.heap.size) (w.alloc (WkO b 0)) (· = w.heap.size) V) : Below w.heap.size w V :=
  (one_new w (WkO b 0)).trans (ht.below (B := w.heap.size) (fun i e => by omega) (one_new w (WkO b 0)).size)

set_option maxHeartbeats 2000000 in
theorem rDir_path (h : MAt w b F m) (hL : LinksM m) {l : Txt} (hl : l.length ≤ maxLen) (he : N.er l = 0) :
    Calls Tryd.prog 37 #[TP b, .string (bs l)] w fun e w' => e = .returned (.tuple #[.int .i64 (wDir (lkM m) l).1, .int .i64 (wDir (lkM m) l).2]) ∧ Below w.heap.size w w' := by
  have hq : ¬ F w.heap.size := fun hf => by have := h.ltF _ hf; omega
  have hc := rfind_any (n := 8) (h.below (one_new w (WkO b 0))) hq (one_wk w b) hl he (fun V n' d s hn h' hw => rin_any hL hq n' hn V d s h' hw)
  have hR : wDir (lkM m) l = dirR (fol (lkM m) 8 (dirN 0) (N.ps l)) := by simp [wDir, he]
  rw [hR]
  clear h hL hl he hq hR
  go_enter Tryd.func37, Tryd.ntmps37
  go_wp2_with (go_at_call 62; ((refine hc.mono ?_); rintro e w5 ⟨E, y, n5, a5, c5, rfl, h5, l5, k5, t5⟩; have L5 := Lib.hid (leads_is l5); have T5 := Lib.hid (bel2 (one_end t5) (one_new w5 (BmO y (.slice a5 y.acl.length c5)))); clear h5 l5 k5 t5; have X5 := Lib.hid (BmAt.new w5 y (.slice a5 y.acl.length c5)); obtain ⟨x0, x1, x2, x3, x4, x5, x6, x7, x8, x9⟩ := X5.out.cell; have xl := X5.out.lt))
  · have hE : ¬ E = 0 := by simpa using ‹(E != 0) = true›
    exact bodyPost_ret (v := .tuple #[.int .i64 0, .int .i64 E]) (by simp [results, Tryd.results37, go_sem]) rfl (by rw [L5.out]; exact ⟨by simp [dirR, hE], T5.out⟩)
  · have hE : E = 0 := by simpa using ‹(E != 0) = false›
    have hk : ¬ y.kind = 2 := by simpa using ‹(y.kind != 2) = true›
    exact bodyPost_ret (v := .tuple #[.int .i64 0, .int .i64 15]) (by simp [results, Tryd.results37, go_sem]) rfl (by rw [L5.out]; exact ⟨by simp [dirR, hE, hk], T5.out⟩)
  · have hE : E = 0 := by simpa using ‹(E != 0) = false›
    have hk : y.kind = 2 := by simpa using ‹(y.kind != 2) = false›
    exact bodyPost_ret (v := .tuple #[.int .i64 y.dir, .int .i64 0]) (by simp [results, Tryd.results37, go_sem]) rfl (by rw [L5.out]; exact ⟨by simp [dirR, hE, hk], T5.out⟩)

set_option maxHeartbeats 2000000 in
theorem rDir_no {l : Txt} (hl : l.length ≤ maxLen) (he : ¬ N.er l = 0) :
    Calls Tryd.prog 37 #[TP b, .string (bs l)] w fun e w' => e = .returned (.tuple #[.int .i64 (wDir (lkM m) l).1, .int .i64 (wDir (lkM m) l).2]) ∧ Below w.heap.size w w' := by
  have hc := rfind_no (w := w.alloc (WkO b 0)) (q := w.heap.size) hl he
  have hR : wDir (lkM m) l = (0, 3) := by simp [wDir, he]
  rw [hR]
  clear hl he hR
  go_enter Tryd.func37, Tryd.ntmps37
  go_wp2_with (go_at_call 62; ((refine hc.mono ?_); rintro e w5 ⟨rfl, b5⟩; have B5 := Lib.hid (bel2 (bel2 (one_new w (WkO b 0)) b5) (one_new w5 (BmO noBr (.slice none 0 0)))); clear b5))
  exact bodyPost_ret (v := .tuple #[.int .i64 0, .int .i64 3]) (by simp [results, Tryd.results37, go_sem]) rfl ⟨rfl, B5.out⟩

theorem rDir_any (h : MAt w b F m) (hL : LinksM m) {l : Txt} (hl : l.length ≤ maxLen) :
    Calls Tryd.prog 37 #[TP b, .string (bs l)] w fun e w' => e = .returned (.tuple #[.int .i64 (wDir (lkM m) l).1, .int .i64 (wDir (lkM m) l).2]) ∧ Below w.heap.size w w' := by
  by_cases he : N.er l = 0
  · exact rDir_path h hL hl he
  · exact rDir_no hl he

end

end Go.Proofs.YtpcdcmoapenbdaaDoor.T
