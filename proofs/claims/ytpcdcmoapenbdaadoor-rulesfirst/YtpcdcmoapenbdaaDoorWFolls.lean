/-
  What a walk is, as a plain function of what a tree answers (fol); the program's turn at a link.
  The program's walk (follow): it answers as the plain function fol.
  Dir, To, Find and In, by plain functions of what the tree answers.
-/
import Derived.Test.YtpcdcmoapenbdaaDoorWSplit
import Derived.Test.YtpcdcmoapenbdaaDoorTMores
namespace Go.Proofs.YtpcdcmoapenbdaaDoor.T
open Go.ChangeShapes Go.WideShapes Go.ChangeAt Go.RowKit
open Go.Proofs.YtpcdcmoapenbdaaDoor.N (bs bs_data bs_size bs_inj Glob PRow Own)
open Go.Proofs.YtpcdcmoapenbdaaDoor.A (Tm TRow)

/-- what stands in a directory by a name -/
def lk (st : St) (d : Int) (s : Txt) : Option Br :=
  match st.P (d, s) with
  | none => none
  | some g => (st.N g).map (·.br)
/-- a directory with that number -/
def dirN (d : Int) : Br := ⟨2, 0, d, [], false, [], 0, 0, 0, 0⟩

/-- from one branch on, part by part; a link goes on as K says -/
def stp (L : Int → Txt → Option Br) (K : List Txt → Int × Br) : Br → List Txt → Int × Br
  | at_, [] => (0, at_)
  | at_, p :: ps =>
    if at_.kind = 2 then
      match L at_.dir p with
      | none => (4, noBr)
      | some b => if b.kind = 3 then K (N.ps b.link ++ ps) else stp L K b ps
    else (15, noBr)
/-- .. where n links more may be followed: the error and the branch -/
def fol (L : Int → Txt → Option Br) : Nat → Br → List Txt → Int × Br
  | 0 => stp L fun _ => (14, noBr)
  | n + 1 => stp L fun qs => fol L n (dirN 0) qs

theorem fol_nil (L : Int → Txt → Option Br) (n : Nat) (b : Br) : fol L n b [] = (0, b) := by cases n <;> rfl
theorem fol_kind (L : Int → Txt → Option Br) (n : Nat) {b : Br} (h : ¬ b.kind = 2) (p : Txt) (ps : List Txt) : fol L n b (p :: ps) = (15, noBr) := by cases n <;> simp [fol, stp, h]
theorem fol_none {L : Int → Txt → Option Br} (n : Nat) {b : Br} (h : b.kind = 2) {p : Txt} (hl : L b.dir p = none) (ps : List Txt) : fol L n b (p :: ps) = (4, noBr) := by cases n <;> simp [fol, stp, h, hl]
theorem fol_on {L : Int → Txt → Option Br} (n : Nat) {b x : Br} (h : b.kind = 2) {p : Txt} (hl : L b.dir p = some x) (hx : ¬ x.kind = 3) (ps : List Txt) : fol L n b (p :: ps) = fol L n x ps := by cases n <;> simp [fol, stp, h, hl, hx]
theorem fol_stop {L : Int → Txt → Option Br} {b x : Br} (h : b.kind = 2) {p : Txt} (hl : L b.dir p = some x) (hx : x.kind = 3) (ps : List Txt) : fol L 0 b (p :: ps) = (14, noBr) := by simp [fol, stp, h, hl, hx]
theorem fol_link {L : Int → Txt → Option Br} {n : Nat} {b x : Br} (h : b.kind = 2) {p : Txt} (hl : L b.dir p = some x) (hx : x.kind = 3) (ps : List Txt) : fol L (n + 1) b (p :: ps) = fol L n (dirN 0) (N.ps x.link ++ ps) := by simp [fol, stp, h, hl, hx]

/-- a tree's links are paths -/
def LinksOk (st : St) : Prop := ∀ g x, st.N g = some x → x.br.kind = 3 → x.br.link.length ≤ 168

theorem BrAt.keep {w w' : World} {B k : Nat} {b : Br} {av : Value} (h : BrAt w k b av) (hb : Below B w w') (hk : k < B) : BrAt w' k b av := (hb.block k hk).trans h

theorem own_txt_base {base base' : Nat} {w : World} {v : Value} {l : List Txt} (h : Own base w v l) (hb : base' ≤ base) : Own base' w v l := by
  refine ⟨h.1, ?_⟩
  rcases h.2 with h2 | ⟨g, cap, cur, e, h3, r⟩
  · exact Or.inl h2
  · exact Or.inr ⟨g, cap, cur, e, Nat.le_trans hb h3, r⟩
theorem own_txt_setBr {base : Nat} {w : World} {v : Value} {l : List Txt} (h : Own base w v l) {k : Nat} (hk : k < base) (b : Br) (av : Value) : Own base (setBr w k b av) v l :=
  ownsRow_setCell_below (ownsRow_setCell_below (ownsRow_setCell_below (ownsRow_setCell_below (ownsRow_setCell_below (ownsRow_setCell_below (ownsRow_setCell_below (ownsRow_setCell_below (ownsRow_setCell_below (ownsRow_setCell_below h hk _) hk _) hk _) hk _) hk _) hk _) hk _) hk _) hk _) hk _

set_option maxHeartbeats 1000000 in
theorem turn_any {w : World} (hg : Glob w) {l : Txt} (hl : l.length ≤ 168) {a : Option Addr} {c : Nat} {qs : List Txt} (hr : PRow w a c qs) (hq : qs.length ≤ 1000) :
    Calls Tryd.prog 78 #[.string (bs l), .slice a qs.length c] w fun e w' => ∃ a' c', e = .returned (.tuple #[BrV dirB (.slice none 0 0), .slice a' (N.ps l ++ qs).length c']) ∧ Own w.heap.size w' (.slice a' (N.ps l ++ qs).length c') (N.ps l ++ qs) ∧ Below w.heap.size w w' := by
  have HG := Lib.hid hg
  have HR := Lib.hid hr
  have hsz : (bs l).size ≤ maxLen := by rw [bs_size]; unfold maxLen; omega
  have hps := N.ps_len l
  have X0 := Lib.hid (BrAt.new w noBr (.slice none 0 0))
  clear hg hr
  go_enter Tryd.func78, Tryd.ntmps78
  go_wp2_with (first
    | (go_at_call 57; ((refine (N.split_own (bs l) _ hsz (HG.out.below (one_new _ _))).mono ?_); rw [bs_data]; rintro e w1 ⟨v1, rfl, o1, b1⟩; have O1 := Lib.hid o1; have B1 := Lib.hid b1; have X1 := Lib.hid (X0.out.below b1); clear o1 b1))
    | (at_builtin; refine N.wpList_texts (base := (w.alloc (BrO noBr (.slice none 0 0))).heap.size) rfl (.tmp 14) (.tmp 15) rfl rfl O1.out a c qs rfl (HR.out.below (bel2 (one_new _ _) B1.out)) (by omega) B1.out.size ?_; intro v2 w2 h1 h2; have B2 := (Below.refl (w.alloc (BrO noBr (.slice none 0 0))).heap.size w1).grown h2 B1.out.size (fun k e => (World.ownsRow.lt O1.out k e).1); have X2 := Lib.hid (X1.out.keep B2 (by simp)); obtain ⟨s0, s1, s2, s3, s4, s5, s6, s7, s8, s9⟩ := X2.out.cell; have f2 := X2.out.fz; have hlt := X2.out.lt; have O2 := Lib.hid h1; clear h1 h2))
  have X3 := X2.out.stored dirB (.slice none 0 0)
  have L3 := Below.setBr (bel2 (one_new w (BrO noBr (.slice none 0 0))) B1.out |>.trans (B2.mono (by simp))) (k := w.heap.size) (Nat.le_refl _) dirB (.slice none 0 0)
  have O3 : Own (w.heap.size + 1) (setBr w2 w.heap.size dirB (.slice none 0 0)) v2 (N.ps l ++ qs) := own_txt_setBr (by simpa using O2.out) (by omega) _ _
  obtain ⟨a', c', rfl, _⟩ := PRow.of O3
  have hp := own_txt_base (base' := w.heap.size) O3 (by omega)
  clear O3
  refine (show bodyPost _ _ _ _ _ (setBr w2 w.heap.size dirB (.slice none 0 0)) from ?_)
  generalize setBr w2 w.heap.size dirB (.slice none 0 0) = V at X3 L3 hp ⊢
  obtain ⟨g0, g1, g2, g3, g4, g5, g6, g7, g8, g9⟩ := X3.cell
  exact bodyPost_ret (v := .tuple #[BrV dirB (.slice none 0 0), .slice a' (N.ps l ++ qs).length c']) (by simp [results, Tryd.results78, go_sem, g0, g1, g2, g3, g4, g5, g6, g7, g8, g9]) rfl ⟨a', c', rfl, hp, L3⟩

end Go.Proofs.YtpcdcmoapenbdaaDoor.T

namespace Go.Proofs.YtpcdcmoapenbdaaDoor.T
open Go.ChangeShapes Go.WideShapes Go.ChangeAt Go.RowKit
open Go.Proofs.YtpcdcmoapenbdaaDoor.N (bs bs_data bs_size bs_inj Glob PRow Own)
open Go.Proofs.YtpcdcmoapenbdaaDoor.A (Tm TRow)

theorem cell_of_heap {w w' : World} {k i : Nat} (h : w'.heap[k]? = w.heap[k]?) : w'.cell? ⟨k, i, none⟩ = w.cell? ⟨k, i, none⟩ := by simp [World.cell?, h]
theorem heap_setBr {w : World} {k j : Nat} (h : j ≠ k) (b : Br) (av : Value) : (setBr w k b av).heap[j]? = w.heap[j]? := by
  rw [other_set _ _ h, other_set _ _ h, other_set _ _ h, other_set _ _ h, other_set _ _ h, other_set _ _ h, other_set _ _ h, other_set _ _ h, other_set _ _ h, other_set _ _ h]
theorem size_setBr (w : World) (k : Nat) (b : Br) (av : Value) : (setBr w k b av).heap.size = w.heap.size := by simp

/-- what Look answers, by what stands there -/
theorem look_lk {w : World} {b : Nat} {F : Nat → Prop} {c : Nat} {st : St} (h : TreeAt w b F c st) {d : Int} {s : Txt} (hd : rng d) (hs : s.length ≤ maxLen) {y : Br} {t : Bool} (e : lk st d s = if t then some y else none) (hn : t = false → y = noBr) :
    Calls Tryd.prog 77 #[TP b, .int .i64 d, .string (bs s)] w fun e w' => ∃ a' c', e = .returned (.tuple #[BrV y (.slice a' y.acl.length c'), .bool t]) ∧ A.Own w.heap.size w' (.slice a' y.acl.length c') y.acl ∧ Below w.heap.size w w' := by
  cases hP : st.P (d, s) with
  | none =>
    cases t with
    | true => simp [lk, hP] at e
    | false =>
      obtain rfl := hn rfl
      exact (look_no h hd hs hP).mono fun _ _ h => ⟨none, 0, h.1, A.Own.nil _ _, h.2⟩
  | some g =>
    have h' := h
    obtain ⟨mp, mg, mz, av, nv, h'⟩ := h'
    obtain ⟨x, hx⟩ := h'.thereP _ _ hP
    cases t with
    | false => simp [lk, hP, hx] at e
    | true =>
      simp only [lk, hP, hx, Option.map_some, if_true, Option.some.injEq] at e
      subst e
      exact look_yes h hd hs hP hx

theorem lk_node {w : World} {b : Nat} {F : Nat → Prop} {c : Nat} {st : St} (h : TreeAt w b F c st) {d : Int} {s : Txt} {y : Br} (e : lk st d s = some y) : rng y.dir ∧ (LinksOk st → y.kind = 3 → y.link.length ≤ 168) := by
  obtain ⟨mp, mg, mz, av, nv, h⟩ := h
  unfold lk at e
  cases hP : st.P (d, s) with
  | none => simp [hP] at e
  | some g =>
    obtain ⟨x, hx⟩ := h.thereP _ _ hP
    simp only [hP, hx, Option.map_some, Option.some.injEq] at e
    subst e
    exact ⟨(h.node g x hx).ok.dir, fun hl hk => hl g x hx hk⟩

/-- what follow has in memory: the box of its answer, the box of where it is, the parts that are left -/
structure Fo (w V : World) (x : Br) (a' : Option Addr) (c' : Nat) (a : Option Addr) (c : Nat) (qs : List Txt) : Prop where
  one : BrAt V w.heap.size noBr (.slice none 0 0)
  two : BrAt V (w.heap.size + 1) x (.slice a' x.acl.length c')
  own : A.Own (w.heap.size + 2) V (.slice a' x.acl.length c') x.acl
  row : PRow V a c qs
  out : qs ≠ [] → ∀ ad, a = some ad → ad.block ≠ w.heap.size ∧ ad.block ≠ w.heap.size + 1
  bel : Below w.heap.size w V

section
variable {w V : World} {x : Br} {a' : Option Addr} {c' : Nat} {a : Option Addr} {c : Nat} {qs : List Txt}

theorem Fo.below (h : Fo w V x a' c' a c qs) {V' : World} (hb : Below V.heap.size V V') : Fo w V' x a' c' a c qs :=
  ⟨h.one.below hb, h.two.below hb, h.own.keep hb, h.row.below hb, h.out, bel2 h.bel hb⟩
theorem Fo.drew (h : Fo w V x a' c' a c qs) : Fo w V.drew x a' c' a c qs := h.below (Below.refl _ _).drew
theorem Fo.lt (h : Fo w V x a' c' a c qs) : w.heap.size + 1 < V.heap.size := h.two.lt
/-- another box is written -/
theorem Fo.other (h : Fo w V x a' c' a c qs) {k : Nat} (hk : w.heap.size + 2 ≤ k) (hown : ∀ j, (Value.slice a' x.acl.length c').ownBlock = some j → j ≠ k) (hrow : ∀ ad, a = some ad → qs ≠ [] → ad.block ≠ k) (y : Br) (vy : Value) : Fo w (setBr V k y vy) x a' c' a c qs where
  one := h.one.setBr (by omega) _ _
  two := h.two.setBr (by omega) _ _
  own := by
    refine ⟨h.own.1, ?_⟩
    rcases h.own.2 with e | ⟨g, cap, cur, e, hb, hg, r⟩
    · exact Or.inl e
    · exact Or.inr ⟨g, cap, cur, e, hb, (heap_setBr (hown g (by rw [e]; rfl)) _ _).trans hg, r⟩
  row := by
    refine ⟨⟨h.row.1.1, fun h0 => ?_⟩, h.row.2⟩
    obtain ⟨bk, o, e, hl, hc⟩ := h.row.1.2 h0
    refine ⟨bk, o, e, by rw [size_setBr]; exact hl, fun j p hp => ?_⟩
    rw [cell_of_heap (heap_setBr (hrow _ e (by rintro rfl; simp at h0)) _ _)]
    exact hc j p hp
  out := h.out
  bel := Below.setBr h.bel (by omega) _ _
/-- where it is changes, and what is left -/
theorem Fo.put (h : Fo w V x a' c' a c qs) {y : Br} {a3 : Option Addr} {c3 : Nat} (hy : A.Own (w.heap.size + 2) V (.slice a3 y.acl.length c3) y.acl) {a4 : Option Addr} {c4 : Nat} {rs : List Txt} (hr : PRow V a4 c4 rs) (ho : rs ≠ [] → ∀ ad, a4 = some ad → ad.block ≠ w.heap.size ∧ ad.block ≠ w.heap.size + 1) :
    Fo w (setBr V (w.heap.size + 1) y (.slice a3 y.acl.length c3)) y a3 c3 a4 c4 rs where
  one := h.one.setBr (by omega) _ _
  two := h.two.stored _ _
  own := own_setBr hy (by omega) _ _
  row := by
    refine ⟨⟨hr.1.1, fun h0 => ?_⟩, hr.2⟩
    obtain ⟨bk, o, e, hl, hc⟩ := hr.1.2 h0
    refine ⟨bk, o, e, by rw [size_setBr]; exact hl, fun j p hp => ?_⟩
    rw [cell_of_heap (heap_setBr (ho (by rintro rfl; simp at h0) _ e).2 _ _)]
    exact hc j p hp
  out := ho
  bel := Below.setBr h.bel (by omega) _ _
/-- what is left, cut at its head -/
theorem Fo.cut {q : Txt} (h : Fo w V x a' c' a c (q :: qs)) : ∃ bk o, a = some ⟨bk, o, none⟩ ∧ qs.length + 1 ≤ c ∧ bk < V.heap.size ∧ bk ≠ w.heap.size + 1 ∧ V.cell? ⟨bk, o, none⟩ = some (.string (bs q)) ∧ bk ≠ w.heap.size := by
  obtain ⟨bk, o, e, h1, h2, h3, _, _⟩ := h.row.cut
  have := h.out (by simp) _ e
  exact ⟨bk, o, e, h1, h2, this.2, h3, this.1⟩

end

/-- behind Look: the third box -/
def FCut (w : World) (x : Br) (a' : Option Addr) (c' : Nat) (a : Option Addr) (c : Nat) (qs : List Txt) (y : Br) (t : Bool) (s10 s11 : Value) (V : World) : Prop :=
  ∃ kb a3 c3, s10 = .pointer (some ⟨kb, 0, none⟩) ∧ s11 = .bool t ∧ w.heap.size + 2 ≤ kb ∧ Fo w V x a' c' a c qs ∧ BrAt V kb y (.slice a3 y.acl.length c3) ∧ A.Own (w.heap.size + 2) V (.slice a3 y.acl.length c3) y.acl

theorem own_new {base : Nat} {w : World} {v : Value} {l : List Tm} (h : A.Own base w v l) (o : Obj) : A.Own base (w.alloc o) v l := h.alloc o

theorem fcut_new {w V : World} {x y : Br} {a' a a3 : Option Addr} {c' c c3 : Nat} {qs : List Txt} (h : Fo w V x a' c' a c qs) (hy : A.Own (w.heap.size + 2) V (.slice a3 y.acl.length c3) y.acl) (t : Bool) :
    FCut w x a' c' a c qs y t (.pointer (some ⟨V.heap.size, 0, none⟩)) (.bool t) (V.alloc (BrO y (.slice a3 y.acl.length c3))) :=
  ⟨V.heap.size, a3, c3, rfl, rfl, by have := h.lt; omega, h.below (one_new _ _), BrAt.new _ _ _, hy.alloc _⟩

theorem fcut_set {w V : World} {x y : Br} {a' a3 : Option Addr} {c' c c3 k bk o : Nat} {qs : List Txt} (h : Fo w V x a' c' (some ⟨bk, o, none⟩) c qs) (hX : BrAt V k noBr (.slice none 0 0)) (hk : w.heap.size + 2 ≤ k) (hown : ∀ j, (Value.slice a' x.acl.length c').ownBlock = some j → j ≠ k) (hrow : bk ≠ k) (hy : A.Own (k + 1) V (.slice a3 y.acl.length c3) y.acl) (t : Bool) :
    FCut w x a' c' (some ⟨bk, o, none⟩) c qs y t (.pointer (some ⟨k, 0, none⟩)) (.bool t) (setBr V k y (.slice a3 y.acl.length c3)) :=
  ⟨k, a3, c3, rfl, rfl, hk, h.other hk hown (fun ad e _ => by cases e; exact hrow) _ _, hX.stored _ _, own_base (own_setBr hy (by omega) _ _) (by omega)⟩

theorem lk_ways (st : St) (d : Int) (s : Txt) : ∃ y t, lk st d s = (if t = true then some y else none) ∧ (t = false → y = noBr) := by
  cases h : lk st d s with
  | none => exact ⟨noBr, false, by simp, fun _ => rfl⟩
  | some y => exact ⟨y, true, by simp, fun h => by cases h⟩

/-- what the region behind the test reads -/
@[reducible] def SS (k : Nat) (d : Int) (bk o : Nat) (q : Txt) (V : World) : Prop := V.cell? ⟨k, 2, none⟩ = some (.int .i64 d) ∧ V.cell? ⟨bk, o, none⟩ = some (.string (bs q))
theorem Fo.ss {w V : World} {x : Br} {a' : Option Addr} {c' c bk o : Nat} {q : Txt} {qs : List Txt} (h : Fo w V x a' c' (some ⟨bk, o, none⟩) c (q :: qs)) : SS (w.heap.size + 1) x.dir bk o q V := by
  obtain ⟨bk', o', e, _, _, _, h3, _⟩ := h.cut
  cases e
  exact ⟨h.two.cell.2.2.1, h3⟩
theorem old1 {V : World} {k i : Nat} {x : Value} {ob : Obj} (h : V.cell? ⟨k, i, none⟩ = some x) : (V.alloc ob).cell? ⟨k, i, none⟩ = some x := (cell_of_heap (heap_alloc_old V _ (World.block_lt_of_cell? _ _ h))).trans h
theorem ss_alloc {k bk o : Nat} {d : Int} {q : Txt} {V : World} (h : SS k d bk o q V) (ob : Obj) : SS k d bk o q (V.alloc ob) := ⟨old1 h.1, old1 h.2⟩
theorem ss_set {k bk o : Nat} {d : Int} {q : Txt} {V : World} (h : SS k d bk o q V) {j : Nat} (hk : k ≠ j) (hb : bk ≠ j) (b : Br) (av : Value) : SS k d bk o q (setBr V j b av) :=
  ⟨(cell_of_heap (heap_setBr hk _ _)).trans h.1, (cell_of_heap (heap_setBr hb _ _)).trans h.2⟩
@[reducible] def ZO : Obj := .cells #[.int .i64 0, .int .i64 0, .int .i64 0, .string ⟨#[]⟩, .bool false, .slice none 0 0, .int .i64 0, .int .i64 0, .int .i64 0, .int .i64 0] 42 (0, 0)
theorem cells_lit {V : World} {k : Nat} (h : BrAt V k noBr (.slice none 0 0)) : V.cell? ⟨k, 0, none⟩ = some (.int .i64 0) ∧ V.cell? ⟨k, 1, none⟩ = some (.int .i64 0) ∧ V.cell? ⟨k, 2, none⟩ = some (.int .i64 0) ∧ V.cell? ⟨k, 3, none⟩ = some (.string ⟨#[]⟩) ∧ V.cell? ⟨k, 4, none⟩ = some (.bool false) ∧ V.cell? ⟨k, 5, none⟩ = some (.slice none 0 0) ∧ V.cell? ⟨k, 6, none⟩ = some (.int .i64 0) ∧ V.cell? ⟨k, 7, none⟩ = some (.int .i64 0) ∧ V.cell? ⟨k, 8, none⟩ = some (.int .i64 0) ∧ V.cell? ⟨k, 9, none⟩ = some (.int .i64 0) := BrAt.cell (b := noBr) h

def slen : Value → Nat
  | .slice _ n _ => n
  | _ => 0

/-- what follow answers -/
def FolPost (w : World) (R : Int × Br) (e : Ending) (w' : World) : Prop :=
  ∃ a' c', e = .returned (.tuple #[BrV R.2 (.slice a' R.2.acl.length c'), .int .i64 R.1]) ∧ A.Own w.heap.size w' (.slice a' R.2.acl.length c') R.2.acl ∧ Below w.heap.size w w'

theorem fo_start (w : World) (d : Int) {a : Option Addr} {c : Nat} {qs : List Txt} (h : PRow w a c qs) : Fo w ((w.alloc (BrO noBr (.slice none 0 0))).alloc (BrO (dirN d) (.slice none 0 0))) (dirN d) none 0 a c qs where
  one := (BrAt.new w _ _).alloc _
  two := BrAt.behind w _ _ _
  own := A.Own.nil _ _
  row := h.below (bel2 (one_new _ _) (one_new _ _))
  out := fun hq ad e => by
    obtain ⟨bk, o, e', hl, _⟩ := h.1.2 (List.length_pos_iff.2 hq)
    rw [e] at e'
    cases e'
    simp
    omega
  bel := bel2 (one_new _ _) (one_new _ _)

/-- the answer is stored -/
theorem fo_end {w V : World} {x y : Br} {a' a a3 : Option Addr} {c' c c3 : Nat} {qs : List Txt} (h : Fo w V x a' c' a c qs) (hy : A.Own (w.heap.size + 2) V (.slice a3 y.acl.length c3) y.acl) :
    BrAt (setBr V w.heap.size y (.slice a3 y.acl.length c3)) w.heap.size y (.slice a3 y.acl.length c3) ∧ A.Own w.heap.size (setBr V w.heap.size y (.slice a3 y.acl.length c3)) (.slice a3 y.acl.length c3) y.acl ∧ Below w.heap.size w (setBr V w.heap.size y (.slice a3 y.acl.length c3)) :=
  ⟨h.one.stored _ _, own_base (own_setBr hy (by omega) _ _) (by omega), Below.setBr h.bel (Nat.le_refl _) _ _⟩
theorem fo_no {w V : World} {x : Br} {a' a : Option Addr} {c' c : Nat} {qs : List Txt} (h : Fo w V x a' c' a c qs) :
    BrAt (setBr V w.heap.size noBr (.slice none 0 0)) w.heap.size noBr (.slice none 0 0) ∧ Below w.heap.size w (setBr V w.heap.size noBr (.slice none 0 0)) :=
  ⟨h.one.stored _ _, Below.setBr h.bel (Nat.le_refl _) _ _⟩
theorem fol_err {w V : World} (hb : Below w.heap.size w V) {R : Int × Br} {e : Int} (hR : R = (e, noBr)) : FolPost w R (.returned (.tuple #[BrV noBr (.slice none 0 0), .int .i64 e])) V := by
  subst hR
  exact ⟨none, 0, rfl, A.Own.nil _ _, hb⟩

theorem prow_of {B : Nat} {w : World} {a : Option Addr} {n c : Nat} {qs : List Txt} (h : Own B w (.slice a n c) qs) : PRow w a c qs := by
  obtain ⟨a', c', e, h'⟩ := PRow.of h
  cases e
  exact h'
theorem own_out {B k : Nat} {w : World} {a : Option Addr} {n c : Nat} {qs : List Txt} (h : Own B w (.slice a n c) qs) (hB : k + 1 < B) : qs ≠ [] → ∀ ad, a = some ad → ad.block ≠ k ∧ ad.block ≠ k + 1 := by
  rintro _ ad rfl
  have := (World.ownsRow.lt h ad.block rfl).1
  omega
theorem parts_txt {l : Txt} {rs : List Txt} (h : ∀ q ∈ rs, q.length ≤ maxLen) : ∀ q ∈ N.ps l ++ rs, q.length ≤ maxLen := by
  intro q hq
  rcases List.mem_append.1 hq with hq | hq
  · have := (N.may_pos (N.ps_may l q hq)).2.1
    unfold maxLen
    omega
  · exact h q hq

set_option maxHeartbeats 4000000 in
theorem follow_any {w : World} {b : Nat} {F : Nat → Prop} {c : Nat} {st : St} (h : TreeAt w b F c st) (hL : LinksOk st) (hg : Glob w) {d : Int} (hd : rng d) {a : Option Addr} {cc : Nat} {qs : List Txt} (hr : PRow w a cc qs) (hq : qs.length ≤ 16) (htx : ∀ q ∈ qs, q.length ≤ maxLen) :
    Calls Tryd.prog 60 #[TP b, .int .i64 d, .slice a qs.length cc] w (FolPost w (fol (lk st) 8 (dirN d) qs)) := by
  have H := Lib.hid h
  have HL := Lib.hid hL
  have HG := Lib.hid hg
  have HR := Lib.hid hr
  have HT := Lib.hid htx
  generalize hR : fol (lk st) 8 (dirN d) qs = R
  have HRR := Lib.hid hR
  have HD := Lib.hid hd
  clear h hL hg hr htx hR hd
  go_enter Tryd.func60, Tryd.ntmps60
  go_wp2
  go_loopw [2, 9] (fun p l W => ∃ (n : Nat) (x : Br) (a' : Option Addr) (c' : Nat) (a : Option Addr) (c2 : Nat) (rs : List Txt), n ≤ 8 ∧ p = .slice a rs.length c2 ∧ l = .int .i64 n ∧ rs.length ≤ 16 * (n + 1) ∧ Fo w W x a' c' a c2 rs ∧ Hid (fol (lk st) (8 - n) x rs = R) ∧ Hid (rng x.dir) ∧ Hid (∀ q ∈ rs, q.length ≤ maxLen)) (fun p l _ => (8 - (intOf l).toNat) * 1000 + slen p)
  case atStart => exact ⟨0, dirN d, none, 0, a, cc, qs, by omega, rfl, rfl, by omega, fo_start w d HR.out, HRR, HD, HT⟩
  case round =>
    obtain ⟨n, x, a', c', a2, c2, rs, hn, rfl, rfl, hrl, hfo, hfl, hxd, hrt⟩ := hrel
    have FO := Lib.hid hfo
    obtain ⟨t0, t1, t2, t3, t4, t5, t6, t7, t8, t9⟩ := hfo.two.cell
    obtain ⟨o0, o1, o2, o3, o4, o5, o6, o7, o8, o9⟩ := hfo.one.cell
    have fz1 := hfo.one.fz
    have fz2 := hfo.two.fz
    have hlt := hfo.lt
    cases rs with
    | nil =>
      clear hfo
      go_wp2
      refine (show bodyPost _ _ _ _ _ (setBr wr w.heap.size x (.slice a' x.acl.length c')) from ?_)
      obtain ⟨E1, E2, E3⟩ := fo_end FO.out FO.out.own
      generalize setBr wr w.heap.size x (.slice a' x.acl.length c') = V at E1 E2 E3 ⊢
      obtain ⟨g0, g1, g2, g3, g4, g5, g6, g7, g8, g9⟩ := E1.cell
      exact bodyPost_ret (v := .tuple #[BrV x (.slice a' x.acl.length c'), .int .i64 0]) (by simp [results, Tryd.results60, go_sem, g0, g1, g2, g3, g4, g5, g6, g7, g8, g9]) rfl (by rw [← hfl.out, fol_nil]; exact ⟨a', c', rfl, E2, E3⟩)
    | cons q rs =>
      by_cases hk : x.kind = 2
      case neg =>
        have e1 : (x.kind == 2) = false := by simpa using hk
        have e1' : (x.kind != 2) = true := by simpa using hk
        have HK := Lib.hid hk
        clear hfo hk
        go_wp2
        refine (show bodyPost _ _ _ _ _ (setBr wr w.heap.size noBr (.slice none 0 0)) from ?_)
        obtain ⟨E1, E3⟩ := fo_no FO.out
        generalize setBr wr w.heap.size noBr (.slice none 0 0) = V at E1 E3 ⊢
        obtain ⟨g0, g1, g2, g3, g4, g5, g6, g7, g8, g9⟩ := E1.cell
        exact bodyPost_ret (v := .tuple #[BrV noBr (.slice none 0 0), .int .i64 15]) (by simp [results, Tryd.results60, go_sem, g0, g1, g2, g3, g4, g5, g6, g7, g8, g9]) rfl (fol_err E3 (by rw [← hfl.out, fol_kind _ _ HK.out]))
      obtain ⟨bk, o, rfl, hc1, hbk, hne, hcq, hne'⟩ := hfo.cut
      have e1 : (x.kind == 2) = true := by simpa using hk
      have e1' : (x.kind != 2) = false := by simpa using hk
      have HK := Lib.hid hk
      obtain ⟨y, t, hlk, hno⟩ := lk_ways st x.dir q
      have hql := hrt.out q (by simp)
      have HLK := Lib.hid hlk
      have HNO := Lib.hid hno
      clear hfo hk hlk hno hcq
      go_wp2
      have D7 := Lib.hid FO.out.drew
      have E7 : Hid (Fo w (World.drew (World.alloc wr ZO)) x a' c' (some ⟨bk, o, none⟩) c2 (q :: rs)) := Lib.hid (FO.out.below (one_new wr ZO)).drew
      have X7 : Hid (BrAt (World.drew (World.alloc wr ZO)) wr.heap.size noBr (.slice none 0 0)) := Lib.hid ((BrAt.new wr noBr (.slice none 0 0)).below (Below.refl _ _).drew)
      have k7 := Lib.hid D7.out.ss
      have k7a := Lib.hid E7.out.ss
      have n1 : w.heap.size + 1 ≠ wr.heap.size := by omega
      have n2 : bk ≠ wr.heap.size := by omega
      have n3 : Hid (∀ j, (Value.slice a' x.acl.length c').ownBlock = some j → j ≠ wr.heap.size) := Lib.hid (fun j e => Nat.ne_of_lt (World.ownsRow.lt FO.out.own j e).2)
      clear t0 t1 t2 t3 t4 t5 t6 t7 t8 t9 o0 o1 o2 o3 o4 o5 o6 o7 o8 o9 fz1 fz2
      go_cut [10, 11] (fun s10 s11 W => FCut w x a' c' (some ⟨bk, o, none⟩) c2 (q :: rs) y t s10 s11 W)
      case first =>
        go_region_held3 (fun V => V.cell? ⟨w.heap.size + 1, 2, none⟩ = some (.int .i64 x.dir) ∧ V.cell? ⟨bk, o, none⟩ = some (.string (bs q)))
          (first | (with_reducible exact k7.out) | (with_reducible exact k8.out) | (with_reducible exact k7a.out) | (with_reducible exact ss_alloc k8.out _) | (with_reducible exact ss_set k8.out n1 n2 y (.slice a8 y.acl.length c8)))
          (first
            | (go_at_call 77; ((with_reducible refine (look_lk (H.out.below D7.out.bel) hxd.out hql HLK.out HNO.out).mono ?_); rintro e w8 ⟨a8, c8, rfl, o8, b8⟩; have F8 := Lib.hid (D7.out.below b8); have O8 := Lib.hid o8; have k8 := Lib.hid F8.out.ss; clear b8 o8))
            | (go_at_call 77; ((with_reducible refine (look_lk (H.out.below E7.out.bel) hxd.out hql HLK.out HNO.out).mono ?_); rintro e w8 ⟨a8, c8, rfl, o8, b8⟩; have F8 := Lib.hid (E7.out.below b8); have X8 := Lib.hid (X7.out.below b8); have O8 := Lib.hid o8; have k8 := Lib.hid F8.out.ss; obtain ⟨x0, x1, x2, x3, x4, x5, x6, x7, x8', x9⟩ := cells_lit X8.out; have f8 := X8.out.fz; have l8 := X8.out.lt; clear b8 o8)))
        all_goals
          go_wp2
          go_meet
        all_goals first
          | exact fcut_new F8.out (own_base O8.out (by simp; omega)) t
          | exact fcut_set F8.out X8.out (by omega) n3.out n2 (own_base O8.out (by simp)) t
      case rest =>
        obtain ⟨kb, a3, c3, rfl, rfl, hkb, hf3, hx3, hy3⟩ := hcut
        have FO3 := Lib.hid hf3
        have X3 := Lib.hid hx3
        have O3 := Lib.hid hy3
        obtain ⟨t0, t1, t2, t3, t4, t5, t6, t7, t8, t9⟩ := hf3.two.cell
        obtain ⟨o0, o1, o2, o3, o4, o5, o6, o7, o8, o9⟩ := hf3.one.cell
        obtain ⟨x0, x1, x2, x3, x4, x5, x6, x7, x8, x9⟩ := hx3.cell
        have fz1 := hf3.one.fz
        have fz2 := hf3.two.fz
        have hlt3 := hf3.lt
        have hl3 := hx3.lt
        clear hf3 hx3 hy3 D7 E7 X7 k7 k7a n1 n2 n3
        cases t with
        | false =>
          have HLK' : Hid (lk st x.dir q = none) := Lib.hid (by simpa using HLK.out)
          go_wp2
          refine (show bodyPost _ _ _ _ _ (setBr wc w.heap.size noBr (.slice none 0 0)) from ?_)
          obtain ⟨E1, E3⟩ := fo_no FO3.out
          generalize setBr wc w.heap.size noBr (.slice none 0 0) = V at E1 E3 ⊢
          obtain ⟨g0, g1, g2, g3, g4, g5, g6, g7, g8, g9⟩ := E1.cell
          exact bodyPost_ret (v := .tuple #[BrV noBr (.slice none 0 0), .int .i64 4]) (by simp [results, Tryd.results60, go_sem, g0, g1, g2, g3, g4, g5, g6, g7, g8, g9]) rfl (fol_err E3 (by rw [← hfl.out, fol_none _ HK.out HLK'.out]))
        | true =>
          have HLK' : Hid (lk st x.dir q = some y) := Lib.hid (by simpa using HLK.out)
          clear HLK
          obtain ⟨hyd, hyl⟩ := lk_node H.out HLK'.out
          have HYD := Lib.hid hyd
          have HYL := Lib.hid (hyl HL.out)
          have HC := Lib.hid FO3.out.row.cut
          have HW := Lib.hid (FO3.out.out (by simp) _ rfl)
          clear hyd hyl
          go_wp2
          go_cut [2] (fun s2 W => ∃ a4 c4, s2 = .slice a4 rs.length c4 ∧ Fo w W y a3 c3 a4 c4 rs)
          case first =>
            obtain ⟨bk', o', e', _, _, _, p1, p2⟩ := HC.out
            cases e'
            by_cases hcc : c2 = 1
            · subst hcc
              obtain rfl : rs = [] := List.eq_nil_of_length_eq_zero (by omega)
              have P1 := Lib.hid (p1 rfl)
              clear p1 p2
              go_region
              go_wp2
              go_meet
              exact ⟨_, _, rfl, (FO3.out.put O3.out P1.out (fun h => absurd rfl h)).drew⟩
            · have P2 := Lib.hid (p2 hcc)
              clear p1 p2
              go_region
              go_wp2
              go_meet
              exact ⟨_, _, rfl, (FO3.out.put O3.out P2.out (fun _ ad e => by cases e; exact HW.out)).drew⟩
          case rest =>
            obtain ⟨a4, c4, rfl, hf4⟩ := hcut
            have FO4 := Lib.hid hf4
            clear t0 t1 t2 t3 t4 t5 t6 t7 t8 t9 o0 o1 o2 o3 o4 o5 o6 o7 o8 o9 x0 x1 x2 x3 x4 x5 x6 x7 x8 x9 fz1 fz2 hlt3 hl3 FO3 X3 O3 HC HW
            obtain ⟨t0, t1, t2, t3, t4, t5, t6, t7, t8, t9⟩ := hf4.two.cell
            obtain ⟨o0, o1, o2, o3, o4, o5, o6, o7, o8, o9⟩ := hf4.one.cell
            have fz1 := hf4.one.fz
            have fz2 := hf4.two.fz
            have hlt4 := hf4.lt
            clear hf4
            by_cases hy : y.kind = 3
            case neg =>
              have e2 : (y.kind == 3) = false := by simpa using hy
              have e2' : (y.kind != 3) = true := by simpa using hy
              have HY := Lib.hid hy
              clear hy
              go_wp2
              go_roundw
              case rel => exact ⟨n, y, a3, c3, a4, c4, rs, hn, rfl, rfl, by simp at hrl; omega, FO4.out, Lib.hid (by rw [← hfl.out, fol_on _ HK.out HLK'.out HY.out]), HYD, Lib.hid (fun q' hq' => hrt.out q' (List.mem_cons_of_mem _ hq'))⟩
              case measure => simp [intOf, slen]
            have e2 : (y.kind == 3) = true := by simpa using hy
            have e2' : (y.kind != 3) = false := by simpa using hy
            have HY := Lib.hid hy
            clear hy
            by_cases h8 : n = 8
            · subst h8
              go_wp2
              refine (show bodyPost _ _ _ _ _ (setBr wc w.heap.size noBr (.slice none 0 0)) from ?_)
              obtain ⟨E1, E3⟩ := fo_no FO4.out
              generalize setBr wc w.heap.size noBr (.slice none 0 0) = V at E1 E3 ⊢
              obtain ⟨g0, g1, g2, g3, g4, g5, g6, g7, g8, g9⟩ := E1.cell
              exact bodyPost_ret (v := .tuple #[BrV noBr (.slice none 0 0), .int .i64 14]) (by simp [results, Tryd.results60, go_sem, g0, g1, g2, g3, g4, g5, g6, g7, g8, g9]) rfl (fol_err E3 (by rw [← hfl.out, fol_stop HK.out HLK'.out HY.out]))
            · have hl := HYL.out HY.out
              simp at hrl
              have hrl' : rs.length ≤ 1000 := by omega
              go_wp2_with (go_at_call 78; ((refine (turn_any (HG.out.below FO4.out.bel) hl FO4.out.row hrl').mono ?_); rintro e w5 ⟨a5, c5, rfl, o5, b5⟩; have F5 := Lib.hid (FO4.out.below b5); have O5 := Lib.hid o5; obtain ⟨d0, d1, d2, d3, d4, d5, d6, d7, d8, d9⟩ := F5.out.two.cell; have f5 := F5.out.two.fz; have hlt5 := F5.out.lt; clear b5 o5))
              have hp16 := N.ps_len y.link
              have HE : Hid (fol (lk st) (8 - (n + 1)) (dirN 0) (N.ps y.link ++ rs) = R) := Lib.hid (by
                rw [← hfl.out, show 8 - n = (8 - (n + 1)) + 1 by omega, fol_link HK.out HLK'.out HY.out])
              go_roundw
              case rel => exact ⟨n + 1, dirN 0, none, 0, a5, c5, N.ps y.link ++ rs, by omega, by rw [List.length_append], by go_num, by rw [List.length_append]; omega, F5.out.put (y := dirN 0) (a3 := none) (c3 := 0) (A.Own.nil _ _) (prow_of O5.out) (own_out O5.out hlt4), HE, Lib.hid rng0, Lib.hid (parts_txt (fun q' hq' => hrt.out q' (List.mem_cons_of_mem _ hq')))⟩
              case measure =>
                simp [intOf, slen]
                omega

end Go.Proofs.YtpcdcmoapenbdaaDoor.T

namespace Go.Proofs.YtpcdcmoapenbdaaDoor.T
open Go.ChangeShapes Go.WideShapes Go.ChangeAt Go.RowKit
open Go.Proofs.YtpcdcmoapenbdaaDoor.N (bs bs_data bs_size bs_inj Glob PRow Own)
open Go.Proofs.YtpcdcmoapenbdaaDoor.A (Tm TRow)

/-- a walk's end that must be a directory: its number and the error -/
def dirR (R : Int × Br) : Int × Int := if R.1 = 0 then (if R.2.kind = 2 then (R.2.dir, 0) else (0, 15)) else (0, R.1)
def wDir (L : Int → Txt → Option Br) (l : Txt) : Int × Int := if N.er l = 0 then dirR (fol L 8 (dirN 0) (N.ps l)) else (0, 3)
def wFind (L : Int → Txt → Option Br) (l : Txt) : Int × Br := if N.er l = 0 then fol L 8 (dirN 0) (N.ps l) else (3, noBr)
def wIn (L : Int → Txt → Option Br) (d : Int) (s : Txt) : Int × Br := fol L 8 (dirN d) [s]
def toR (D : Int × Int) (z : Txt) : Int × Txt × Int := if D.2 = 0 then (D.1, z, 0) else (0, [], D.2)
def wTo (L : Int → Txt → Option Br) (l : Txt) : Int × Txt × Int :=
  if N.er l = 0 then (if N.ps l = [] then (0, [], 3) else toR (dirR (fol L 8 (dirN 0) (N.ps l).dropLast)) ((N.ps l).getLastD [])) else (0, [], 3)

theorem er_of (l : Txt) : N.er l = 0 ∨ N.er l = 3 ∧ N.ps l = [] := by
  unfold N.er N.ps
  cases N.partsOf l <;> simp
theorem ps_txt (l : Txt) : ∀ q ∈ N.ps l, q.length ≤ maxLen := by
  intro q hq
  have := (N.may_pos (N.ps_may l q hq)).2.1
  unfold maxLen
  omega

section
variable {w : World} {b : Nat} {F : Nat → Prop} {c : Nat} {st : St}

theorem wsplit_any (hg : Glob w) {l : Txt} (hl : l.length ≤ maxLen) : Calls Tryd.prog 75 #[TP b, .string (bs l)] w (N.SplitOwn l w) := by
  have hsz : (bs l).size ≤ maxLen := by rw [bs_size]; exact hl
  have HG := Lib.hid hg
  clear hg
  go_enter Tryd.func75, Tryd.ntmps75
  go_wp2_with (go_at_call 57; ((refine (N.split_own (bs l) _ hsz HG.out).mono ?_); rw [bs_data]; rintro e w1 ⟨v1, rfl, o1, b1⟩))
  exact bodyPost_ret (v := .tuple #[v1, .int .i64 (N.er l)]) (by simp [results, Tryd.results75, go_sem]) rfl ⟨v1, rfl, o1, b1⟩

/-- .. where the answer is known -/
theorem wsplit_is (hg : Glob w) {l : Txt} (hl : l.length ≤ maxLen) {E : Int} {X : List Txt} {n : Nat} (he : N.er l = E) (hp : N.ps l = X) (hn : X.length = n) :
    Calls Tryd.prog 75 #[TP b, .string (bs l)] w fun e w' => ∃ a c, e = .returned (.tuple #[.slice a n c, .int .i64 E]) ∧ PRow w' a c X ∧ Below w.heap.size w w' := by
  refine (wsplit_any (b := b) hg hl).mono fun e w' ⟨v, h1, h2, h3⟩ => ?_
  rw [hp] at h2
  obtain ⟨a, c, rfl, hr⟩ := PRow.of h2
  exact ⟨a, c, by rw [h1, he, hn], hr, h3⟩

theorem follow_is (h : TreeAt w b F c st) (hL : LinksOk st) (hg : Glob w) {d : Int} (hd : rng d) {a : Option Addr} {cc n : Nat} {qs : List Txt} (hn : qs.length = n) (hr : PRow w a cc qs) (hq : n ≤ 16) (htx : ∀ q ∈ qs, q.length ≤ maxLen) {E : Int} {y : Br} (hR : fol (lk st) 8 (dirN d) qs = (E, y)) :
    Calls Tryd.prog 60 #[TP b, .int .i64 d, .slice a n cc] w fun e w' => ∃ a' c', e = .returned (.tuple #[BrV y (.slice a' y.acl.length c'), .int .i64 E]) ∧ A.Own w.heap.size w' (.slice a' y.acl.length c') y.acl ∧ Below w.heap.size w w' := by
  subst hn
  have := follow_any h hL hg hd hr hq htx
  rw [hR] at this
  exact this

set_option maxHeartbeats 1000000 in
theorem directory_any (h : TreeAt w b F c st) (hL : LinksOk st) (hg : Glob w) {a : Option Addr} {cc n : Nat} {qs : List Txt} (hn : qs.length = n) (hr : PRow w a cc qs) (hq : n ≤ 16) (htx : ∀ q ∈ qs, q.length ≤ maxLen) {D E : Int} (hD : dirR (fol (lk st) 8 (dirN 0) qs) = (D, E)) :
    Calls Tryd.prog 76 #[TP b, .slice a n cc] w fun e w' => e = .returned (.tuple #[.int .i64 D, .int .i64 E]) ∧ Below w.heap.size w w' := by
  obtain ⟨⟨E1, y⟩, hR⟩ : ∃ R, fol (lk st) 8 (dirN 0) qs = R := ⟨_, rfl⟩
  have hf := follow_is h hL hg rng0 hn hr hq htx hR
  rw [hR] at hD
  clear hR h hL hg hr htx
  by_cases h1 : E1 = 0
  case neg =>
    obtain ⟨rfl, rfl⟩ : D = 0 ∧ E = E1 := by simp [dirR, h1] at hD; exact ⟨hD.1.symm, hD.2.symm⟩
    have e1 : (E == 0) = false := by simpa using h1
    have e1' : (E != 0) = true := by simpa using h1
    clear hD h1
    go_enter Tryd.func76, Tryd.ntmps76
    go_wp2_with (go_at_call 60; ((with_reducible refine hf.mono ?_); rintro e w1 ⟨a1, c1, rfl, o1, b1⟩))
    exact bodyPost_ret (v := .tuple #[.int .i64 0, .int .i64 E]) (by simp [results, Tryd.results76, go_sem]) rfl ⟨rfl, bel2 b1 (one_new _ _)⟩
  subst h1
  by_cases h2 : y.kind = 2
  case neg =>
    obtain ⟨rfl, rfl⟩ : D = 0 ∧ E = 15 := by simp [dirR, h2] at hD; exact ⟨hD.1.symm, hD.2.symm⟩
    have e2 : (y.kind == 2) = false := by simpa using h2
    have e2' : (y.kind != 2) = true := by simpa using h2
    clear hD h2
    go_enter Tryd.func76, Tryd.ntmps76
    go_wp2_with (go_at_call 60; ((with_reducible refine hf.mono ?_); rintro e w1 ⟨a1, c1, rfl, o1, b1⟩))
    exact bodyPost_ret (v := .tuple #[.int .i64 0, .int .i64 15]) (by simp [results, Tryd.results76, go_sem]) rfl ⟨rfl, bel2 b1 (one_new _ _)⟩
  obtain ⟨rfl, rfl⟩ : D = y.dir ∧ E = 0 := by simp [dirR, h2] at hD; exact ⟨hD.1.symm, hD.2.symm⟩
  have e2 : (y.kind == 2) = true := by simpa using h2
  have e2' : (y.kind != 2) = false := by simpa using h2
  clear hD h2
  go_enter Tryd.func76, Tryd.ntmps76
  go_wp2_with (go_at_call 60; ((with_reducible refine hf.mono ?_); rintro e w1 ⟨a1, c1, rfl, o1, b1⟩))
  exact bodyPost_ret (v := .tuple #[.int .i64 y.dir, .int .i64 0]) (by simp [results, Tryd.results76, go_sem]) rfl ⟨rfl, bel2 b1 (one_new _ _)⟩

theorem wDir_any (h : TreeAt w b F c st) (hL : LinksOk st) (hg : Glob w) {l : Txt} (hl : l.length ≤ maxLen) :
    Calls Tryd.prog 59 #[TP b, .string (bs l)] w fun e w' => e = .returned (.tuple #[.int .i64 (wDir (lk st) l).1, .int .i64 (wDir (lk st) l).2]) ∧ Below w.heap.size w w' := by
  have H := Lib.hid h
  have HL := Lib.hid hL
  have HG := Lib.hid hg
  rcases er_of l with he | ⟨he, hp⟩
  · obtain ⟨⟨D, E⟩, hD⟩ : ∃ R, dirR (fol (lk st) 8 (dirN 0) (N.ps l)) = R := ⟨_, rfl⟩
    have hw : wDir (lk st) l = (D, E) := by rw [wDir, if_pos he, hD]
    rw [hw]
    have hs := wsplit_is (b := b) hg hl he rfl rfl
    have HD := Lib.hid hD
    have h16 := N.ps_len l
    clear h hL hg hw hD he
    go_enter Tryd.func59, Tryd.ntmps59
    go_wp2_with (first
      | (go_at_call 75; ((with_reducible refine hs.mono ?_); rintro e w1 ⟨a1, c1, rfl, r1, b1⟩))
      | (go_at_call 76; ((refine (directory_any (H.out.below b1) HL.out (HG.out.below b1) rfl r1 h16 (ps_txt l) HD.out).mono ?_); rintro e w2 ⟨rfl, b2⟩)))
    exact bodyPost_ret (v := .tuple #[.int .i64 D, .int .i64 E]) (by simp [results, Tryd.results59, go_sem]) rfl ⟨rfl, bel2 b1 b2⟩
  · have hw : wDir (lk st) l = (0, 3) := by rw [wDir, if_neg (by omega)]
    rw [hw]
    have hs := wsplit_is (b := b) hg hl he hp rfl
    clear h hL hg hw hp he
    go_enter Tryd.func59, Tryd.ntmps59
    go_wp2_with (go_at_call 75; ((with_reducible refine hs.mono ?_); rintro e w1 ⟨a1, c1, rfl, r1, b1⟩))
    exact bodyPost_ret (v := .tuple #[.int .i64 0, .int .i64 3]) (by simp [results, Tryd.results59, go_sem]) rfl ⟨rfl, b1⟩

/-- a branch answered in a box of its own -/
theorem one_own {w0 w1 : World} {y : Br} {a' : Option Addr} {c' : Nat} (hX : BrAt w1 w0.heap.size noBr (.slice none 0 0)) (hb : Below w0.heap.size w0 w1) (ho : A.Own (w0.heap.size + 1) w1 (.slice a' y.acl.length c') y.acl) :
    BrAt (setBr w1 w0.heap.size y (.slice a' y.acl.length c')) w0.heap.size y (.slice a' y.acl.length c') ∧ A.Own w0.heap.size (setBr w1 w0.heap.size y (.slice a' y.acl.length c')) (.slice a' y.acl.length c') y.acl ∧ Below w0.heap.size w0 (setBr w1 w0.heap.size y (.slice a' y.acl.length c')) :=
  ⟨hX.stored _ _, own_base (own_setBr ho (by omega) _ _) (by omega), Below.setBr hb (Nat.le_refl _) _ _⟩

theorem prow_one (w : World) (s : Txt) : PRow (w.alloc (.cells #[.string (bs s)] 9)) (some ⟨w.heap.size, 0, none⟩) 1 [s] := by
  refine ⟨⟨by simp, fun _ => ⟨w.heap.size, 0, rfl, by simp, fun j p hp => ?_⟩⟩, fun h => by cases h⟩
  match j, hp with
  | 0, hp =>
    simp at hp
    subst hp
    rw [cell_of_row _ _ _ _ _ _ (heap_alloc_new w _)]
    rfl

set_option maxHeartbeats 1000000 in
theorem wIn_any (h : TreeAt w b F c st) (hL : LinksOk st) (hg : Glob w) {d : Int} (hd : rng d) {s : Txt} (hs : s.length ≤ maxLen) :
    Calls Tryd.prog 35 #[TP b, .int .i64 d, .string (bs s)] w (FolPost w (wIn (lk st) d s)) := by
  have H := Lib.hid h
  have HL := Lib.hid hL
  have HG := Lib.hid hg
  have X0 := Lib.hid (BrAt.new w noBr (.slice none 0 0))
  obtain ⟨⟨E, y⟩, hR⟩ : ∃ R, wIn (lk st) d s = R := ⟨_, rfl⟩
  have HR := Lib.hid hR
  rw [hR]
  unfold wIn at HR
  have P0 : Hid (PRow ((w.alloc (BrO noBr (.slice none 0 0))).alloc (.cells #[.string (bs s)] 9)) (some ⟨w.heap.size + 1, 0, none⟩) 1 [s]) := Lib.hid (by simpa using prow_one (w.alloc (BrO noBr (.slice none 0 0))) s)
  clear h hL hg hR
  go_enter Tryd.func35, Tryd.ntmps35
  go_wp2_with (go_at_call 60; ((refine (follow_is ((H.out.alloc _).alloc _) HL.out ((HG.out.below (one_new _ _)).below (one_new _ _)) hd (n := 1) rfl P0.out (by omega) (by simpa using hs) HR.out).mono ?_); rintro e w2 ⟨a2, c2, rfl, o2, b2⟩; have X2 := Lib.hid ((X0.out.alloc _).below b2); obtain ⟨s0, s1, s2, s3, s4, s5, s6, s7, s8, s9⟩ := X2.out.cell; have f2 := X2.out.fz; have hlt := X2.out.lt))
  obtain ⟨E1, E2, E3⟩ := one_own X2.out (bel2 (bel2 (one_new _ _) (one_new _ _)) b2) (own_base (base' := w.heap.size + 1) o2 (by simp))
  refine (show bodyPost _ _ _ _ _ (setBr w2 w.heap.size y (.slice a2 y.acl.length c2)) from ?_)
  generalize setBr w2 w.heap.size y (.slice a2 y.acl.length c2) = V at E1 E2 E3 ⊢
  obtain ⟨g0, g1, g2, g3, g4, g5, g6, g7, g8, g9⟩ := E1.cell
  exact bodyPost_ret (v := .tuple #[BrV y (.slice a2 y.acl.length c2), .int .i64 E]) (by simp [results, Tryd.results35, go_sem, g0, g1, g2, g3, g4, g5, g6, g7, g8, g9]) rfl ⟨a2, c2, rfl, E2, E3⟩

theorem prow_init {w : World} {a : Option Addr} {c : Nat} {q : List Txt} {z : Txt} (h : PRow w a c (q ++ [z])) : PRow w a c q ∧ q.length + 1 ≤ c ∧ ∃ bk o, a = some ⟨bk, o, none⟩ ∧ bk < w.heap.size ∧ w.cell? ⟨bk, o + q.length, none⟩ = some (.string (bs z)) := by
  have h0 := h.1.1
  simp only [List.length_append, List.length_cons, List.length_nil] at h0
  obtain ⟨bk, o, e, hl, hc⟩ := h.1.2 (by simp)
  refine ⟨⟨⟨by omega, fun _ => ⟨bk, o, e, hl, fun j p hp => hc j p ?_⟩⟩, h.2⟩, by omega, bk, o, e, hl, hc _ _ (by simp)⟩
  rw [List.getElem?_append_left (List.getElem?_eq_some_iff.1 hp).1]
  exact hp

end

end Go.Proofs.YtpcdcmoapenbdaaDoor.T
