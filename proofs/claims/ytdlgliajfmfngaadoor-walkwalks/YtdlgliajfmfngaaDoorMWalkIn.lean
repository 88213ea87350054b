/-
  The document's own walker: what a walk leads to; in.
-/
import Derived.Test.YtdlgliajfmfngaaDoorMDels
import Derived.Test.YtdlgliajfmfngaaDoorWFinds
namespace Go.Proofs.YtdlgliajfmfngaaDoor.T
open Go.ChangeShapes Go.WideShapes Go.ChangeAt Go.RowKit
open Go.Proofs.YtdlgliajfmfngaaDoor.N (bs bs_data bs_size bs_inj bs_of Glob)
open Go.Proofs.YtdlgliajfmfngaaDoor.A (Tm TRow)

/-- a list that lies in the tree -/
def Held (F : Nat → Prop) (w : World) (a : Option Addr) (c : Nat) (l : List Tm) : Prop := A.Own 0 w (.slice a l.length c) l ∧ ∀ k, (Value.slice a l.length c).ownBlock = some k → F k
theorem Held.nil (F : Nat → Prop) (w : World) : Held F w none 0 [] := ⟨A.Own.nil _ _, fun _ e => by cases e⟩
theorem Held.of {F : Nat → Prop} {w w' : World} {a : Option Addr} {c : Nat} {l : List Tm} (h : Held F w a c l) (hk : ∀ i, F i → w'.heap[i]? = w.heap[i]?) : Held F w' a c l := ⟨row_of h.1 (fun k e => hk k (h.2 k e)), h.2⟩

/-- the walker's box -/
@[reducible] def WkO (b : Nat) (k : Nat) : Obj := .cells #[TP b, .int .i64 k] 87 (0, 0)
def Wk (w : World) (q b k : Nat) : Prop := w.heap[q]? = some (WkO b k)
theorem Wk.cell {w : World} {q b k : Nat} (h : Wk w q b k) : w.cell? ⟨q, 0, none⟩ = some (TP b) ∧ w.cell? ⟨q, 1, none⟩ = some (.int .i64 k) := by
  unfold Wk at h
  simp [World.cell?, h]
theorem Wk.fz {w : World} {q b k : Nat} (h : Wk w q b k) (i : Nat) : w.frozen? ⟨q, i, none⟩ = false := by
  unfold Wk at h
  simp [World.frozen?, h]
theorem Wk.lt {w : World} {q b k : Nat} (h : Wk w q b k) : q < w.heap.size := (Array.getElem?_eq_some_iff.1 h).1
theorem Wk.below {w w' : World} {q b k : Nat} (h : Wk w q b k) (hb : Below w.heap.size w w') : Wk w' q b k := (hb.block q h.lt).trans h
theorem Wk.far {w w' : World} {q b k : Nat} (h : Wk w q b k) (e : w'.heap[q]? = w.heap[q]?) : Wk w' q b k := e.trans h
theorem Wk.put {w : World} {q b k : Nat} (h : Wk w q b k) (k' : Nat) : Wk (w.setCell ⟨q, 1, none⟩ (.int .i64 k')) q b k' := by
  unfold Wk at h ⊢
  exact (head_set h 1 (.int .i64 k')).trans (by simp)

@[reducible] def ZmO : Obj := .cells #[.int .i64 0, .int .i64 0, .int .i64 0, .string ⟨#[]⟩, .bool false, .slice none 0 0, .int .i64 0, .int .i64 0, .int .i64 0, .int .i64 0] 35 (0, 0)
theorem Wk.lit {w : World} {q b k : Nat} (h : Wk w q b k) : (w.alloc ZmO).cell? ⟨q, 0, none⟩ = some (TP b) ∧ (w.alloc ZmO).cell? ⟨q, 1, none⟩ = some (.int .i64 k) := (h.below (one_new w ZmO)).cell
theorem fol_dir (L : Int → Txt → Option Br) (n : Nat) {x : Br} (h : x.kind = 2) (p : Txt) (ps : List Txt) : fol L n x (p :: ps) = fol L n (dirN x.dir) (p :: ps) := by
  cases n <;> simp [fol, stp, h, dirN]

/-- where a walk leads, whatever follows -/
def Leads (L : Int → Txt → Option Br) (n : Nat) (x : Br) (ps : List Txt) (E : Int) (y : Br) (n' : Nat) : Prop :=
  (E = 0 ∧ n' ≤ n ∧ ∀ rest, fol L n x (ps ++ rest) = fol L n' y rest) ∨ (E ≠ 0 ∧ y = noBr ∧ ∀ rest, fol L n x (ps ++ rest) = (E, noBr))

/-- what the walker's in and find answer -/
def Led (F : Nat → Prop) (L : Int → Txt → Option Br) (w : World) (q b n : Nat) (x : Br) (ps : List Txt) (e : Ending) (w' : World) : Prop :=
  ∃ E y n' a' c', e = .returned (.tuple #[BrV y (.slice a' y.acl.length c'), .int .i64 E]) ∧ Held F w a' c' y.acl ∧ Leads L n x ps E y n' ∧ (E = 0 → Wk w' q b (8 - n')) ∧ Went (· = q) w (· = q) w'

/-- the links of the document's tree are paths -/
def LinksM (m : Ms) : Prop := ∀ x ∈ m.B, x.kind = 3 → x.link.length ≤ 168 ∧ N.er x.link = 0
theorem lkM_mem {m : Ms} {d : Int} {s : Txt} {x : Br} (h : lkM m d s = some x) : x ∈ m.B := by
  unfold lkM at h
  cases ha : at? m.E d s with
  | none => simp [ha] at h
  | some k =>
    simp only [ha] at h
    cases he : m.E[k]? with
    | none => simp [he] at h
    | some e =>
      simp only [he, Option.bind_some] at h
      exact List.mem_of_getElem? h

section
variable {w : World} {b : Nat} {F : Nat → Prop} {m : Ms}

set_option maxHeartbeats 4000000 in
set_option maxRecDepth 8000 in
theorem mlook_held (h : MAt w b F m) {d : Int} {s : Txt} {k : Nat} (hL : at? m.E d s = some k) {e : En} (hE : m.E[k]? = some e) {x : Br} (hX : m.B[e.2.1]? = some x) :
    Calls Tryd.prog 65 #[TP b, .int .i64 d, .string (bs s)] w fun e' w' => ∃ a' c', e' = .returned (.tuple #[BrV x (.slice a' x.acl.length c'), .bool true]) ∧ Held F w a' c' x.acl ∧ Below w.heap.size w w' := by
  have ha := mat_any (h.below (one_new w (BmO noBr (.slice none 0 0)))) d s
  rw [hL] at ha
  have X0 := Lib.hid (BmAt.new w noBr (.slice none 0 0))
  obtain ⟨bl, vB, vL, vD, h0, hB⟩ := h
  have h := h0.below (one_new w (BmO noBr (.slice none 0 0)))
  have hkl : k < m.E.length := (List.getElem?_eq_some_iff.1 hE).1
  have hke : m.E[k] = e := (List.getElem?_eq_some_iff.1 hE).2
  obtain ⟨a, cap, rfl, hc, hn, hg⟩ := h.eForm
  obtain ⟨a2, cap2, rfl, hc2, hg2, hn2⟩ := row_form h.rB
  obtain ⟨g, rfl, hgl, q0, q1, q2⟩ := h.eAt hkl
  have hid : e.2.1 < bl.length := by rw [← hke]; exact h.ids _ (List.getElem_mem hkl)
  have hx : (bl[e.2.1]).1 = x := by
    rw [← hB, List.getElem?_map, List.getElem?_eq_getElem hid] at hX
    simpa using hX
  obtain ⟨g2, rfl, _, _, hgl2, r0, r1, r2, r3, r4, r5, r6, r7, r8, r9, _⟩ := h.brAt hid
  obtain ⟨a', c', hv, hrow⟩ := own_trow (h0.acl _ (List.getElem_mem hid))
  have HH : Hid (Held F w a' c' x.acl) := Lib.hid ⟨by have := h0.acl _ (List.getElem_mem hid); rw [hv, hx] at this; exact this, fun kk ek => h0.fA _ (List.getElem_mem hid) kk (by rw [hv, hx]; exact ek)⟩
  rw [hke] at q0 q1 q2
  rw [hx] at r0 r1 r2 r3 r4 r6 r7 r8 r9 hrow hv
  rw [hv] at r5
  have c0 := h.c0
  have c1 := h.c1
  have hlt := h.lt
  have hlen := h.len.2.1
  have hlenB := h.len.1
  have HR := Lib.hid hrow
  have hltw := h0.lt
  obtain ⟨s0, s1, s2, s3, s4, s5, s6, s7, s8, s9⟩ := X0.out.cell
  have f2 := X0.out.fz
  have xl := X0.out.lt
  generalize hii : e.2.1 = ii at q1 r0 r1 r2 r3 r4 r5 r6 r7 r8 r9 hid
  clear h h0 hB hX hE hke hx hii hrow hv
  go_enter Tryd.func65, Tryd.ntmps65
  go_wp2_with (go_at_call 48; ((refine ha.mono ?_); rintro e w1 ⟨rfl, rfl⟩; simp only [atN]))
  refine (show Code.wp _ _ _ _ (w.alloc (BmO noBr (.slice none 0 0))) from ?_)
  have B0 := Lib.hid (one_new w (BmO noBr (.slice none 0 0)))
  generalize w.alloc (BmO noBr (.slice none 0 0)) = V at *
  clear ha q0 q2 hn hg hn2 hg2
  go_still_tail 14, (by kernel_rfl)
  change wpList _ _ _ _ _ V.drew
  have X1 : Hid (BmAt V.drew w.heap.size noBr (.slice none 0 0)) := X0
  have B1 : Hid (Below w.heap.size w V.drew) := Lib.hid B0.out.drew
  clear X0 B0 c0 c1 q1 r0 r1 r2 r3 r4 r5 r6 r7 r8 r9 s0 s1 s2 s3 s4 s5 s6 s7 s8 s9 f2 xl
  generalize V.drew = V2 at *
  obtain ⟨s0, s1, s2, s3, s4, s5, s6, s7, s8, s9⟩ := X1.out.cell
  have f2 := X1.out.fz
  have xl := X1.out.lt
  go_wp2
  have X5 := X1.out.stored x (.slice a' x.acl.length c')
  have L5 := Below.setBr B1.out (k := w.heap.size) (Nat.le_refl _) x (.slice a' x.acl.length c')
  refine (show bodyPost _ _ _ _ _ (setBr V2 w.heap.size x (.slice a' x.acl.length c')) from ?_)
  generalize setBr V2 w.heap.size x (.slice a' x.acl.length c') = V5 at X5 L5 ⊢
  obtain ⟨g0, g1, g2', g3, g4, g5, g6, g7, g8, g9⟩ := X5.cell
  exact bodyPost_ret (v := .tuple #[BrV x (.slice a' x.acl.length c'), .bool true]) (by simp [results, Tryd.results65, go_sem, g0, g1, g2', g3, g4, g5, g6, g7, g8, g9]) rfl ⟨a', c', rfl, HH.out, L5⟩


theorem mlook_lk (h : MAt w b F m) {d : Int} {s : Txt} {x : Br} (hx : lkM m d s = some x) :
    Calls Tryd.prog 65 #[TP b, .int .i64 d, .string (bs s)] w fun e' w' => ∃ a' c', e' = .returned (.tuple #[BrV x (.slice a' x.acl.length c'), .bool true]) ∧ Held F w a' c' x.acl ∧ Below w.heap.size w w' := by
  unfold lkM at hx
  cases ha : at? m.E d s with
  | none => simp [ha] at hx
  | some k =>
    simp only [ha] at hx
    cases he : m.E[k]? with
    | none => simp [he] at hx
    | some e =>
      simp only [he, Option.bind_some] at hx
      exact mlook_held h ha he hx
theorem at_of_lkM (h : MAt w b F m) {d : Int} {s : Txt} (hx : lkM m d s = none) : at? m.E d s = none := by
  cases ha : at? m.E d s with
  | none => rfl
  | some k =>
    exfalso
    obtain ⟨bl, vB, vL, vD, h, hB⟩ := h
    unfold lkM at hx
    have hk : k < m.E.length := (List.findIdx?_eq_some_iff_getElem.1 ha).1
    simp only [ha, List.getElem?_eq_getElem hk, Option.bind_some] at hx
    have := h.ids _ (List.getElem_mem hk)
    rw [List.getElem?_eq_none_iff, ← hB, List.length_map] at hx
    omega

/-- a box, and another world behind the walker's turn -/
theorem went_below {q : Nat} {V : World} (h : Below w.heap.size w V) : Went (· = q) w (· = q) V := Went.of_below h
theorem wentq_setBr {q k : Nat} {V : World} (h : Went (· = q) w (· = q) V) (hk : w.heap.size ≤ k) (x : Br) (av : Value) : Went (· = q) w (· = q) (setBr V k x av) := h.setOut hk x av

set_option maxHeartbeats 2000000 in
set_option maxRecDepth 8000 in
theorem rin_no {q n : Nat} (h : MAt w b F m) (hw : Wk w q b (8 - n)) {d : Int} {s : Txt} (hx : lkM m d s = none) :
    Calls Tryd.prog 41 #[TP q, .int .i64 d, .string (bs s)] w (Led F (lkM m) w q b n (dirN d) [s]) := by
  have hl := mlook_no (h.below (one_new w (BmO noBr (.slice none 0 0)))) (at_of_lkM h hx)
  have X0 := Lib.hid (BmAt.new w noBr (.slice none 0 0))
  have W0 := Lib.hid (hw.below (one_new w (BmO noBr (.slice none 0 0))))
  have wl := hw.lt
  have HX := Lib.hid hx
  obtain ⟨w0, w1⟩ := hw.lit
  clear h hw hx
  go_enter Tryd.func41, Tryd.ntmps41
  go_wp2_with (go_at_call 65; ((refine hl.mono ?_); rintro e w2 ⟨rfl, b2⟩; have B2 := Lib.hid (bel2 (one_new w (BmO noBr (.slice none 0 0))) b2); have X2 := Lib.hid (BmAt.below X0.out b2); have X3 := Lib.hid (BmAt.below X2.out (one_new w2 (BmO noBr (.slice none 0 0)))); obtain ⟨y0, y1, y2, y3, y4, y5, y6, y7, y8, y9⟩ := X3.out.cell; have yf := X3.out.fz; have yl := X3.out.lt; clear b2))
  refine (show bodyPost _ _ _ _ _ (setBr (w2.alloc (BmO noBr (.slice none 0 0))) w.heap.size noBr (.slice none 0 0)) from ?_)
  have Z := BmAt.stored X3.out noBr (.slice none 0 0)
  have T := wentq_setBr (q := q) (went_below (bel2 B2.out (one_new w2 (BmO noBr (.slice none 0 0))))) (Nat.le_refl _) noBr (.slice none 0 0)
  generalize setBr (w2.alloc (BmO noBr (.slice none 0 0))) w.heap.size noBr (.slice none 0 0) = V5 at Z T ⊢
  obtain ⟨g0, g1, g2, g3, g4, g5, g6, g7, g8, g9⟩ := Z.cell
  exact bodyPost_ret (v := .tuple #[BrV noBr (.slice none 0 0), .int .i64 4]) (by simp [results, Tryd.results41, go_sem, g0, g1, g2, g3, g4, g5, g6, g7, g8, g9]) rfl ⟨4, noBr, n, none, 0, rfl, Held.nil _ _, Or.inr ⟨by decide, rfl, fun rest => fol_none _ rfl HX.out _⟩, fun e => absurd e (by decide), T⟩

set_option maxHeartbeats 4000000 in
set_option maxRecDepth 8000 in
theorem rin_yes {q n : Nat} (h : MAt w b F m) (hw : Wk w q b (8 - n)) {d : Int} {s : Txt} {x : Br} (hx : lkM m d s = some x) (hk : ¬ x.kind = 3) :
    Calls Tryd.prog 41 #[TP q, .int .i64 d, .string (bs s)] w (Led F (lkM m) w q b n (dirN d) [s]) := by
  have hl := mlook_lk (h.below (one_new w (BmO noBr (.slice none 0 0)))) hx
  have X0 := Lib.hid (BmAt.new w noBr (.slice none 0 0))
  have W0 := Lib.hid (hw.below (one_new w (BmO noBr (.slice none 0 0))))
  have wl := hw.lt
  have HX := Lib.hid hx
  have HF := Lib.hid h.ltF
  have n1 : w.heap.size ≠ q := by omega
  have n1' : q ≠ w.heap.size := n1.symm
  obtain ⟨w0, w1⟩ := hw.lit
  have e1 : (x.kind == 3) = false := by simpa using hk
  have e2 : (x.kind != 3) = true := by simpa using hk
  have HK := Lib.hid hk
  clear h hw hx hk
  go_enter Tryd.func41, Tryd.ntmps41
  go_wp2_with (first
    | (go_at_call 65; ((refine hl.mono ?_); rintro e w2 ⟨a2, c2, rfl, h2, b2⟩; have HH := Lib.hid h2; have B2 := Lib.hid (bel2 (one_new w (BmO noBr (.slice none 0 0))) b2); have X2 := Lib.hid (BmAt.below X0.out b2); have X3 := Lib.hid (BmAt.below X2.out (one_new w2 (BmO x (.slice a2 x.acl.length c2)))); have X4 := Lib.hid (BmAt.new w2 x (.slice a2 x.acl.length c2)); have W3 := Lib.hid (Wk.below (Wk.below W0.out b2) (one_new w2 (BmO x (.slice a2 x.acl.length c2)))); obtain ⟨y0, y1, y2, y3, y4, y5, y6, y7, y8, y9⟩ := X3.out.cell; obtain ⟨z0, z1, z2, z3, z4, z5, z6, z7, z8, z9⟩ := X4.out.cell; obtain ⟨u0, u1⟩ := W3.out.cell; have uf := W3.out.fz; have ul := W3.out.lt; have yf := X3.out.fz; have yl := X3.out.lt; have zl := X4.out.lt; clear b2 h2)))
  refine (show bodyPost _ _ _ _ _ (setBr (w2.alloc (BmO x (.slice a2 x.acl.length c2))) w.heap.size x (.slice a2 x.acl.length c2)) from ?_)
  have Z := BmAt.stored X3.out x (.slice a2 x.acl.length c2)
  have T := wentq_setBr (q := q) (went_below (bel2 B2.out (one_new w2 (BmO x (.slice a2 x.acl.length c2))))) (Nat.le_refl _) x (.slice a2 x.acl.length c2)
  have W5 := W3.out.far (w' := setBr (w2.alloc (BmO x (.slice a2 x.acl.length c2))) w.heap.size x (.slice a2 x.acl.length c2)) (heap_setBr n1' _ _)
  generalize setBr (w2.alloc (BmO x (.slice a2 x.acl.length c2))) w.heap.size x (.slice a2 x.acl.length c2) = V5 at Z T W5 ⊢
  obtain ⟨g0, g1, g2, g3, g4, g5, g6, g7, g8, g9⟩ := Z.cell
  exact bodyPost_ret (v := .tuple #[BrV x (.slice a2 x.acl.length c2), .int .i64 0]) (by simp [results, Tryd.results41, go_sem, g0, g1, g2, g3, g4, g5, g6, g7, g8, g9]) rfl ⟨0, x, n, a2, c2, rfl, HH.out.of (fun i hi => (heap_alloc_old w _ (HF.out i hi)).symm), Or.inl ⟨rfl, Nat.le_refl _, fun rest => fol_on _ rfl HX.out HK.out _⟩, fun _ => W5, T⟩

theorem link_at {q : Nat} {V : World} {v : Value} (h : MAt w b F m) (hq : ¬ F q) (hb : Below w.heap.size w V) : MAt (V.setCell ⟨q, 1, none⟩ v) b F m :=
  h.keep (by simpa using hb.size) (fun i hi => (other_set _ _ (fun e : i = q => hq (by rw [← e]; exact hi))).trans (hb.block i (h.ltF i hi)))
theorem link_leads {L : Int → Txt → Option Br} {n n' : Nat} {d : Int} {s : Txt} {x y : Br} {E : Int} (hx : L d s = some x) (hk : x.kind = 3) (h : Leads L n (dirN 0) (N.ps x.link) E y n') : Leads L (n + 1) (dirN d) [s] E y n' := by
  have e : ∀ rest, fol L (n + 1) (dirN d) ([s] ++ rest) = fol L n (dirN 0) (N.ps x.link ++ rest) := fun rest => fol_link rfl hx hk rest
  rcases h with ⟨h1, h2, h3⟩ | ⟨h1, h2, h3⟩
  · exact Or.inl ⟨h1, by omega, fun rest => (e rest).trans (h3 rest)⟩
  · exact Or.inr ⟨h1, h2, fun rest => (e rest).trans (h3 rest)⟩

set_option maxHeartbeats 4000000 in
set_option maxRecDepth 8000 in
theorem rin_stop {q : Nat} (h : MAt w b F m) (hw : Wk w q b 8) {d : Int} {s : Txt} {x : Br} (hx : lkM m d s = some x) (hk : x.kind = 3) :
    Calls Tryd.prog 41 #[TP q, .int .i64 d, .string (bs s)] w (Led F (lkM m) w q b 0 (dirN d) [s]) := by
  have hl := mlook_lk (h.below (one_new w (BmO noBr (.slice none 0 0)))) hx
  have X0 := Lib.hid (BmAt.new w noBr (.slice none 0 0))
  have W0 := Lib.hid (hw.below (one_new w (BmO noBr (.slice none 0 0))))
  have wl := hw.lt
  have HX := Lib.hid hx
  have HF := Lib.hid h.ltF
  have n1 : w.heap.size ≠ q := by omega
  have n1' : q ≠ w.heap.size := n1.symm
  obtain ⟨w0, w1⟩ := hw.lit
  have e1 : (x.kind == 3) = true := by simpa using hk
  have e2 : (x.kind != 3) = false := by simpa using hk
  have HK := Lib.hid hk
  clear h hw hx hk
  go_enter Tryd.func41, Tryd.ntmps41
  go_wp2_with (first
    | (go_at_call 65; ((refine hl.mono ?_); rintro e w2 ⟨a2, c2, rfl, h2, b2⟩; have HH := Lib.hid h2; have B2 := Lib.hid (bel2 (one_new w (BmO noBr (.slice none 0 0))) b2); have X2 := Lib.hid (BmAt.below X0.out b2); have X3 := Lib.hid (BmAt.below X2.out (one_new w2 (BmO x (.slice a2 x.acl.length c2)))); have X4 := Lib.hid (BmAt.new w2 x (.slice a2 x.acl.length c2)); have W3 := Lib.hid (Wk.below (Wk.below W0.out b2) (one_new w2 (BmO x (.slice a2 x.acl.length c2)))); obtain ⟨y0, y1, y2, y3, y4, y5, y6, y7, y8, y9⟩ := X3.out.cell; obtain ⟨z0, z1, z2, z3, z4, z5, z6, z7, z8, z9⟩ := X4.out.cell; obtain ⟨u0, u1⟩ := W3.out.cell; have uf := W3.out.fz; have ul := W3.out.lt; have yf := X3.out.fz; have yl := X3.out.lt; have zl := X4.out.lt; clear b2 h2)))
  refine (show bodyPost _ _ _ _ _ (setBr ((w2.alloc (BmO x (.slice a2 x.acl.length c2))).setCell ⟨q, 1, none⟩ (.int .i64 9)) w.heap.size noBr (.slice none 0 0)) from ?_)
  have Z := BmAt.stored (w := (w2.alloc (BmO x (.slice a2 x.acl.length c2))).setCell ⟨q, 1, none⟩ (.int .i64 9)) (k := w.heap.size) (b0 := noBr) (v0 := .slice none 0 0) ((other_set _ _ n1).trans X3.out) noBr (.slice none 0 0)
  have T := wentq_setBr (q := q) (Went.set (i := 1) (v := .int .i64 9) (went_below (q := q) (bel2 B2.out (one_new w2 (BmO x (.slice a2 x.acl.length c2))))) rfl) (Nat.le_refl _) noBr (.slice none 0 0)
  generalize setBr ((w2.alloc (BmO x (.slice a2 x.acl.length c2))).setCell ⟨q, 1, none⟩ (.int .i64 9)) w.heap.size noBr (.slice none 0 0) = V5 at Z T ⊢
  obtain ⟨g0, g1, g2, g3, g4, g5, g6, g7, g8, g9⟩ := Z.cell
  exact bodyPost_ret (v := .tuple #[BrV noBr (.slice none 0 0), .int .i64 14]) (by simp [results, Tryd.results41, go_sem, g0, g1, g2, g3, g4, g5, g6, g7, g8, g9]) rfl ⟨14, noBr, 0, none, 0, rfl, Held.nil _ _, Or.inr ⟨by decide, rfl, fun rest => fol_stop rfl HX.out HK.out _⟩, fun e => absurd e (by decide), T⟩

set_option maxHeartbeats 4000000 in
set_option maxRecDepth 8000 in
theorem rin_link {q n k : Nat} (h : MAt w b F m) (hL : LinksM m) (hq : ¬ F q) (hw : Wk w q b k) (hkn : k + 1 = 8 - n) {d : Int} {s : Txt} {x : Br} (hx : lkM m d s = some x) (hk : x.kind = 3)
    (hf : ∀ (V : World) (l : Txt), MAt V b F m → Wk V q b (8 - n) → l.length ≤ 168 → N.er l = 0 → Calls Tryd.prog 38 #[TP q, .string (bs l)] V (Led F (lkM m) V q b n (dirN 0) (N.ps l))) :
    Calls Tryd.prog 41 #[TP q, .int .i64 d, .string (bs s)] w (Led F (lkM m) w q b (n + 1) (dirN d) [s]) := by
  have hl := mlook_lk (h.below (one_new w (BmO noBr (.slice none 0 0)))) hx
  have X0 := Lib.hid (BmAt.new w noBr (.slice none 0 0))
  have W0 := Lib.hid (hw.below (one_new w (BmO noBr (.slice none 0 0))))
  have wl := hw.lt
  have HX := Lib.hid hx
  have HF := Lib.hid h.ltF
  have n1 : w.heap.size ≠ q := by omega
  have n1' : q ≠ w.heap.size := n1.symm
  obtain ⟨w0, w1⟩ := hw.lit
  have e1 : (x.kind == 3) = true := by simpa using hk
  have e2 : (x.kind != 3) = false := by simpa using hk
  have HK := Lib.hid hk
  have HLl := Lib.hid (hL x (lkM_mem hx) hk)
  have HM := Lib.hid h
  have HKN := Lib.hid hkn
  have HQ := Lib.hid hq
  have v1 : IntKind.i64.wrap ((k : Int) + 1) = (k : Int) + 1 := IntWalk.i64_in _ (by omega)
  have v2 : decide ((8 : Int) < (k : Int) + 1) = false := by simp; omega
  have v3 : ¬ (8 : Int) < (k : Int) + 1 := by omega
  clear h hw hx hk hL hkn hq
  go_enter Tryd.func41, Tryd.ntmps41
  go_wp2_with (first
    | (go_at_call 65; ((refine hl.mono ?_); rintro e w2 ⟨a2, c2, rfl, h2, b2⟩; have HH := Lib.hid h2; have B2 := Lib.hid (bel2 (one_new w (BmO noBr (.slice none 0 0))) b2); have X2 := Lib.hid (BmAt.below X0.out b2); have X3 := Lib.hid (BmAt.below X2.out (one_new w2 (BmO x (.slice a2 x.acl.length c2)))); have X4 := Lib.hid (BmAt.new w2 x (.slice a2 x.acl.length c2)); have W3 := Lib.hid (Wk.below (Wk.below W0.out b2) (one_new w2 (BmO x (.slice a2 x.acl.length c2)))); obtain ⟨y0, y1, y2, y3, y4, y5, y6, y7, y8, y9⟩ := X3.out.cell; obtain ⟨z0, z1, z2, z3, z4, z5, z6, z7, z8, z9⟩ := X4.out.cell; obtain ⟨u0, u1⟩ := W3.out.cell; have uf := W3.out.fz; have ul := W3.out.lt; have yf := X3.out.fz; have yl := X3.out.lt; have zl := X4.out.lt; clear b2 h2))
    | (go_at_call 38; ((refine (hf ((w2.alloc (BmO x (.slice a2 x.acl.length c2))).setCell ⟨q, 1, none⟩ (.int .i64 ((k : Int) + 1))) x.link (link_at HM.out HQ.out (bel2 B2.out (one_new w2 (BmO x (.slice a2 x.acl.length c2))))) (by rw [← HKN.out]; exact W3.out.put (k + 1)) HLl.out.1 HLl.out.2).mono ?_); rintro e w5 ⟨E, y, n', a5, c5, rfl, h5, l5, k5, t5⟩; have H5 := Lib.hid h5; have L5 := Lib.hid l5; have K5 := Lib.hid k5; have T5 := Lib.hid t5; have X5 : Hid (BmAt w5 w.heap.size noBr (.slice none 0 0)) := Lib.hid ((t5.block w.heap.size (by simpa using yl) n1).trans ((other_set _ _ n1).trans X3.out)); clear h5 l5 k5 t5; obtain ⟨x0, x1, x2, x3, x4, x5, x6, x7, x8, x9⟩ := X5.out.cell; have xf := X5.out.fz; have xl := X5.out.lt)))
  refine (show bodyPost _ _ _ _ _ (setBr w5 w.heap.size y (.slice a5 y.acl.length c5)) from ?_)
  have BB := bel2 B2.out (one_new w2 (BmO x (.slice a2 x.acl.length c2)))
  have Z := BmAt.stored X5.out y (.slice a5 y.acl.length c5)
  have T := wentq_setBr (q := q) ((Went.set (i := 1) (v := .int .i64 ((k : Int) + 1)) (went_below (q := q) BB) rfl).trans T5.out) (Nat.le_refl _) y (.slice a5 y.acl.length c5)
  have W5 : E = 0 → Wk (setBr w5 w.heap.size y (.slice a5 y.acl.length c5)) q b (8 - n') := fun e => (K5.out e).far (heap_setBr n1' _ _)
  generalize setBr w5 w.heap.size y (.slice a5 y.acl.length c5) = V5 at Z T W5 ⊢
  obtain ⟨g0, g1, g2, g3, g4, g5, g6, g7, g8, g9⟩ := Z.cell
  exact bodyPost_ret (v := .tuple #[BrV y (.slice a5 y.acl.length c5), .int .i64 E]) (by simp [results, Tryd.results41, go_sem, g0, g1, g2, g3, g4, g5, g6, g7, g8, g9]) rfl ⟨E, y, n', a5, c5, rfl, H5.out.of (fun i hi => ((other_set _ _ (fun e : i = q => HQ.out (by rw [← e]; exact hi))).trans (BB.block i (HF.out i hi))).symm), link_leads HX.out HK.out L5.out, W5, T⟩

end

end Go.Proofs.YtdlgliajfmfngaaDoor.T
