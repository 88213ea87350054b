/-
  What the small functions of package tree answer: copied, shown, find, byUID, isDir, free, segment, Len.
-/
import Derived.Test.YtpcdcmoapenbdaaDoorTTurn
import Derived.Deep.RegionHeld3
import Derived.Deep.DeepCutAuto
import Derived.StillTailTactics
import Derived.Deep.QuietTactic
import Derived.BigQuiet
namespace Go.Proofs.YtpcdcmoapenbdaaDoor.T
open Go.ChangeShapes Go.WideShapes Go.ChangeAt Go.RowKit
open Go.Proofs.YtpcdcmoapenbdaaDoor.N (bs bs_data bs_size bs_inj)
open Go.Proofs.YtpcdcmoapenbdaaDoor.A (Tm TRow)

theorem of_drew {w v : World} (h : Below w.drew.heap.size w.drew v) : Below w.heap.size w v := ⟨h.os, h.tape, h.output, h.size, h.block⟩
theorem bel2 {w v u : World} (h : Below w.heap.size w v) (h' : Below v.heap.size v u) : Below w.heap.size w u := h.trans (h'.mono h.size)
theorem one_new (w : World) (o : Obj) : Below w.heap.size w (w.alloc o) := (Below.refl _ _).alloc (Nat.le_refl _) o

theorem NodeL.cell {w : World} {F : Nat → Prop} {c g : Nat} {x : Nd} {va vn : Value} (h : NodeL w F c g x va vn) :
    w.cell? ⟨g, 0, none⟩ = some (.int .i64 x.br.kind) ∧ w.cell? ⟨g, 1, none⟩ = some (.int .i64 x.br.uid) ∧ w.cell? ⟨g, 2, none⟩ = some (.int .i64 x.br.dir) ∧ w.cell? ⟨g, 3, none⟩ = some (.string (bs x.br.link)) ∧ w.cell? ⟨g, 4, none⟩ = some (.bool x.br.obj) ∧ w.cell? ⟨g, 5, none⟩ = some va
      ∧ w.cell? ⟨g, 6, none⟩ = some (.int .i64 x.br.r1) ∧ w.cell? ⟨g, 7, none⟩ = some (.int .i64 x.br.r2) ∧ w.cell? ⟨g, 8, none⟩ = some (.int .i64 x.br.r3) ∧ w.cell? ⟨g, 9, none⟩ = some (.int .i64 x.br.gt) ∧ w.cell? ⟨g, 10, none⟩ = some (.int .i64 x.home) ∧ w.cell? ⟨g, 11, none⟩ = some vn := by
  simp [World.cell?, h.cells]
theorem NodeL.fz {w : World} {F : Nat → Prop} {c g : Nat} {x : Nd} {va vn : Value} (h : NodeL w F c g x va vn) (i : Nat) : w.frozen? ⟨g, i, none⟩ = false := by simp [World.frozen?, h.cells]
theorem NodeL.lt {w : World} {F : Nat → Prop} {c g : Nat} {x : Nd} {va vn : Value} (h : NodeL w F c g x va vn) : g < w.heap.size := (Array.getElem?_eq_some_iff.1 h.cells).1

theorem copied_any {w : World} {a : Option Addr} {c : Nat} {l : List Tm} (hr : TRow w a c l) (hl : l.length ≤ 1000000) :
    Calls Tryd.prog 54 #[.slice a l.length c] w fun e w' => ∃ a' c', e = .returned (.slice a' l.length c') ∧ A.Own w.heap.size w' (.slice a' l.length c') l ∧ Below w.heap.size w w' := by
  have HR := Lib.hid hr
  clear hr
  go_enter Tryd.func54, Tryd.ntmps54
  go_wp2_with (at_builtin; refine A.wpList_terms (base := w.heap.size) rfl (.const (.slice none 0 0)) (.tmp 3) rfl rfl (A.Own.nil _ _) _ _ l rfl HR.out (by simpa using hl) (Nat.le_refl _) ?_; intro v' w' h1 h2; have H1 := Lib.hid h1; have H2 := Lib.hid ((A.Own.nil w.heap.size w).grown (Below.refl _ _) (Nat.le_refl _) h2); clear h1 h2)
  go_ret
  obtain ⟨a', c', e, _⟩ := A.Own.row H1.out
  subst e
  exact ⟨a', c', rfl, H1.out, H2.out⟩

/-- a branch in a block of its own -/
@[reducible] def BrO (b : Br) (av : Value) : Obj := .cells #[.int .i64 b.kind, .int .i64 b.uid, .int .i64 b.dir, .string (bs b.link), .bool b.obj, av, .int .i64 b.r1, .int .i64 b.r2, .int .i64 b.r3, .int .i64 b.gt] 42 (0, 0)
def noBr : Br := ⟨0, 0, 0, [], false, [], 0, 0, 0, 0⟩
def BrAt (w : World) (k : Nat) (b : Br) (av : Value) : Prop := w.heap[k]? = some (BrO b av)
theorem BrAt.cell {w : World} {k : Nat} {b : Br} {av : Value} (h : BrAt w k b av) :
    w.cell? ⟨k, 0, none⟩ = some (.int .i64 b.kind) ∧ w.cell? ⟨k, 1, none⟩ = some (.int .i64 b.uid) ∧ w.cell? ⟨k, 2, none⟩ = some (.int .i64 b.dir) ∧ w.cell? ⟨k, 3, none⟩ = some (.string (bs b.link)) ∧ w.cell? ⟨k, 4, none⟩ = some (.bool b.obj) ∧ w.cell? ⟨k, 5, none⟩ = some av
      ∧ w.cell? ⟨k, 6, none⟩ = some (.int .i64 b.r1) ∧ w.cell? ⟨k, 7, none⟩ = some (.int .i64 b.r2) ∧ w.cell? ⟨k, 8, none⟩ = some (.int .i64 b.r3) ∧ w.cell? ⟨k, 9, none⟩ = some (.int .i64 b.gt) := by
  unfold BrAt at h
  simp [World.cell?, h]
theorem BrAt.fz {w : World} {k : Nat} {b : Br} {av : Value} (h : BrAt w k b av) (i : Nat) : w.frozen? ⟨k, i, none⟩ = false := by
  unfold BrAt at h
  simp [World.frozen?, h]
theorem BrAt.lt {w : World} {k : Nat} {b : Br} {av : Value} (h : BrAt w k b av) : k < w.heap.size := (Array.getElem?_eq_some_iff.1 h).1
theorem BrAt.below {w w' : World} {k : Nat} {b : Br} {av : Value} (h : BrAt w k b av) (hb : Below w.heap.size w w') : BrAt w' k b av := (hb.block k h.lt).trans h
theorem BrAt.new (w : World) (b : Br) (av : Value) : BrAt (w.alloc (BrO b av)) w.heap.size b av := heap_alloc_new w _
theorem BrAt.alloc {w : World} {k : Nat} {b : Br} {av : Value} (h : BrAt w k b av) (o : Obj) : BrAt (w.alloc o) k b av := h.below (one_new _ _)
theorem BrAt.behind (w : World) (o : Obj) (b : Br) (av : Value) : BrAt ((w.alloc o).alloc (BrO b av)) (w.heap.size + 1) b av := by
  have := BrAt.new (w.alloc o) b av
  simpa using this

/-- a whole branch is stored -/
@[reducible] def setBr (w : World) (k : Nat) (b : Br) (av : Value) : World :=
  (((((((((w.setCell ⟨k, 0, none⟩ (.int .i64 b.kind)).setCell ⟨k, 1, none⟩ (.int .i64 b.uid)).setCell ⟨k, 2, none⟩ (.int .i64 b.dir)).setCell ⟨k, 3, none⟩ (.string (bs b.link))).setCell ⟨k, 4, none⟩ (.bool b.obj)).setCell ⟨k, 5, none⟩ av).setCell ⟨k, 6, none⟩ (.int .i64 b.r1)).setCell ⟨k, 7, none⟩ (.int .i64 b.r2)).setCell ⟨k, 8, none⟩ (.int .i64 b.r3)).setCell ⟨k, 9, none⟩ (.int .i64 b.gt)
theorem BrAt.stored {w : World} {k : Nat} {b0 : Br} {v0 : Value} (h : BrAt w k b0 v0) (b : Br) (av : Value) : BrAt (setBr w k b av) k b av := by
  unfold BrAt at h ⊢
  have h1 := head_set h 0 (.int .i64 b.kind)
  have h2 := head_set h1 1 (.int .i64 b.uid)
  have h3 := head_set h2 2 (.int .i64 b.dir)
  have h4 := head_set h3 3 (.string (bs b.link))
  have h5 := head_set h4 4 (.bool b.obj)
  have h6 := head_set h5 5 av
  have h7 := head_set h6 6 (.int .i64 b.r1)
  have h8 := head_set h7 7 (.int .i64 b.r2)
  have h9 := head_set h8 8 (.int .i64 b.r3)
  have h10 := head_set h9 9 (.int .i64 b.gt)
  exact h10.trans (by simp)
theorem Below.setBr {B : Nat} {a w : World} (h : Below B a w) {k : Nat} (hk : B ≤ k) (b : Br) (av : Value) : Below B a (setBr w k b av) :=
  (((((((((h.setCell hk _).setCell hk _).setCell hk _).setCell hk _).setCell hk _).setCell hk _).setCell hk _).setCell hk _).setCell hk _).setCell hk _
theorem own_setBr {base : Nat} {w : World} {v : Value} {l : List Tm} (h : A.Own base w v l) {k : Nat} (hk : k < base) (b : Br) (av : Value) : A.Own base (setBr w k b av) v l :=
  ownsRow_setCell_below (ownsRow_setCell_below (ownsRow_setCell_below (ownsRow_setCell_below (ownsRow_setCell_below (ownsRow_setCell_below (ownsRow_setCell_below (ownsRow_setCell_below (ownsRow_setCell_below (ownsRow_setCell_below h hk _) hk _) hk _) hk _) hk _) hk _) hk _) hk _) hk _) hk _
theorem own_set {base : Nat} {w : World} {v : Value} {l : List Tm} (h : A.Own base w v l) {k i : Nat} (hk : k < base) (u : Value) : A.Own base (w.setCell ⟨k, i, none⟩ u) v l := ownsRow_setCell_below h hk _
theorem own_base {base base' : Nat} {w : World} {v : Value} {l : List Tm} (h : A.Own base w v l) (hb : base' ≤ base) : A.Own base' w v l := by
  refine ⟨h.1, ?_⟩
  rcases h.2 with h2 | ⟨g, cap, cur, e, h3, r⟩
  · exact Or.inl h2
  · exact Or.inr ⟨g, cap, cur, e, Nat.le_trans hb h3, r⟩
theorem BrAt.set {w : World} {k j i : Nat} {b : Br} {av u : Value} (h : BrAt w k b av) (hj : k ≠ j) : BrAt (w.setCell ⟨j, i, none⟩ u) k b av := (other_set _ _ hj).trans h

set_option maxHeartbeats 1000000 in
theorem shown_any {w : World} {F : Nat → Prop} {c g : Nat} {x : Nd} {va vn : Value} (h : NodeL w F c g x va vn) :
    Calls Tryd.prog 50 #[TP g] w fun e w' => ∃ a' c', e = .returned (BrV x.br (.slice a' x.br.acl.length c')) ∧ A.Own w.heap.size w' (.slice a' x.br.acl.length c') x.br.acl ∧ Below w.heap.size w w' := by
  obtain ⟨c0, c1, c2, c3, c4, c5, c6, c7, c8, c9, c10, c11⟩ := h.cell
  have hg := h.lt
  have hl := h.ok.acl
  obtain ⟨a, cc, e, hrow⟩ := A.Own.row h.acl
  subst e
  have HR := Lib.hid hrow
  clear hrow h
  go_enter Tryd.func50, Tryd.ntmps50
  go_wp2_with (go_at_call 54; ((refine (copied_any ((HR.out.alloc _).alloc _) hl).mono ?_); rintro e w1 ⟨a', c', rfl, h1, h2⟩; have H1 := Lib.hid h1; have H2 := Lib.hid h2; have B0 := ((BrAt.new w noBr (.slice none 0 0)).alloc _).below h2; have B1 := (BrAt.behind w (BrO noBr (.slice none 0 0)) x.br _).below h2; obtain ⟨d0, d1, d2, d3, d4, d5, d6, d7, d8, d9⟩ := B1.cell; obtain ⟨e0, e1, e2, e3, e4, e5, e6, e7, e8, e9⟩ := B0.cell; have f0 := B0.fz; have f1 := B1.fz; have k3 : w.heap.size + 1 < w1.heap.size := (by have := h2.size; simp at this; omega); clear h1 h2))
  have B2 := (B0.set (j := w.heap.size + 1) (i := 5) (u := .slice a' x.br.acl.length c') (by omega)).stored x.br (.slice a' x.br.acl.length c')
  obtain ⟨g0, g1, g2, g3, g4, g5, g6, g7, g8, g9⟩ := B2.cell
  have H3 : Below w.heap.size w (setBr (w1.setCell ⟨w.heap.size + 1, 5, none⟩ (.slice a' x.br.acl.length c')) w.heap.size x.br (.slice a' x.br.acl.length c')) :=
    Below.setBr (Below.setCell (bel2 (bel2 (one_new _ _) (one_new _ _)) H2.out) (by simp) _) (Nat.le_refl _) _ _
  have H4 := own_base (base' := w.heap.size) (own_setBr (own_set (k := w.heap.size + 1) (i := 5) H1.out (by simp) (.slice a' x.br.acl.length c')) (k := w.heap.size) (by simp; omega) x.br (.slice a' x.br.acl.length c')) (by simp; omega)
  exact bodyPost_ret (v := BrV x.br (.slice a' x.br.acl.length c')) (by simp [results, Tryd.results50, go_sem, g0, g1, g2, g3, g4, g5, g6, g7, g8, g9]) rfl ⟨a', c', rfl, H4, H3⟩

section
variable {w : World} {b : Nat} {F : Nat → Prop} {c : Nat} {st : St} {mp mg mz : Option Nat} {av nv : Nat → Value}

theorem TreeL.lookP (h : TreeL w b F c st mp mg mz av nv) {d : Int} {s : Txt} (hd : rng d) (hs : s.length ≤ maxLen) :
    (Instr.lookup 58 (.map mp) (.agg #[.int .i64 d, .string (bs s)]) true).run Tryd.prog w = .ok (.tuple #[ptrOf (st.P (d, s)), .bool (st.P (d, s)).isSome]) w := by
  have := h.mapP.look_ok goodP (k := (d, s)) ⟨hd, hs⟩
  rw [elemP] at this
  exact this
theorem TreeL.lookG (h : TreeL w b F c st mp mg mz av nv) {u : Int} (hu : rng u) :
    (Instr.lookup 59 (.map mg) (.int .i64 u) true).run Tryd.prog w = .ok (.tuple #[ptrOf (st.G u), .bool (st.G u).isSome]) w := by
  have := h.mapG.look_ok goodG (k := u) hu
  rw [elemG] at this
  exact this
theorem TreeL.lookZ_ok (h : TreeL w b F c st mp mg mz av nv) {d : Int} (hd : rng d) :
    (Instr.lookup 60 (.map mz) (.int .i64 d) true).run Tryd.prog w = .ok (.tuple #[.int .i64 ((st.Z d).getD 0), .bool (st.Z d).isSome]) w := by
  have := h.mapZ.look_ok goodZ (k := d) hd
  rw [elemZ] at this
  exact this
theorem TreeL.lookZ (h : TreeL w b F c st mp mg mz av nv) {d : Int} (hd : rng d) :
    (Instr.lookup 60 (.map mz) (.int .i64 d) false).run Tryd.prog w = .ok (.int .i64 ((st.Z d).getD 0)) w := by
  have := h.mapZ.look goodZ (k := d) hd
  rw [elemZ] at this
  exact this

theorem find_no (h : TreeAt w b F c st) {d : Int} {s : Txt} (hd : rng d) (hs : s.length ≤ maxLen) (hP : st.P (d, s) = none) :
    Calls Tryd.prog 44 #[TP b, .int .i64 d, .string (bs s)] w fun e w' => e = .returned (.tuple #[.pointer none, .int .i64 4]) ∧ w = w' := by
  obtain ⟨mp, mg, mz, av, nv, h⟩ := h
  have hl := h.lookP hd hs
  rw [hP] at hl
  simp only [ptrOf, Option.isSome_none] at hl
  have c1 := h.c1
  go_enter Tryd.func44, Tryd.ntmps44
  go_wp2
  exact bodyPost_ret (v := .tuple #[.pointer none, .int .i64 4]) (by simp [results, Tryd.results44, go_sem]) rfl ⟨rfl, rfl⟩

theorem find_yes (h : TreeAt w b F c st) {d : Int} {s : Txt} (hd : rng d) (hs : s.length ≤ maxLen) {g : Nat} (hP : st.P (d, s) = some g) :
    Calls Tryd.prog 44 #[TP b, .int .i64 d, .string (bs s)] w fun e w' => e = .returned (.tuple #[TP g, .int .i64 0]) ∧ w = w' := by
  obtain ⟨mp, mg, mz, av, nv, h⟩ := h
  have hl := h.lookP hd hs
  rw [hP] at hl
  simp only [ptrOf, Option.isSome_some] at hl
  have c1 := h.c1
  go_enter Tryd.func44, Tryd.ntmps44
  go_wp2
  exact bodyPost_ret (v := .tuple #[TP g, .int .i64 0]) (by simp [results, Tryd.results44, go_sem]) rfl ⟨rfl, rfl⟩

/-- is there such a directory? -/
def isD (st : St) (d : Int) : Bool := (st.Z d).isSome || decide (d = 0)

theorem isDir_at (h : TreeAt w b F c st) {d : Int} (hd : rng d) :
    Calls Tryd.prog 64 #[TP b, .int .i64 d] w fun e w' => e = .returned (.bool (isD st d)) ∧ w = w' := by
  obtain ⟨mp, mg, mz, av, nv, h⟩ := h
  have hl := h.lookZ_ok hd
  have c3 := h.c3
  unfold isD
  cases hz : (st.Z d).isSome with
  | true =>
    rw [hz] at hl
    go_enter Tryd.func64, Tryd.ntmps64
    go_wp2
    go_ret
    exact ⟨rfl, rfl⟩
  | false =>
    rw [hz] at hl
    go_enter Tryd.func64, Tryd.ntmps64
    go_wp2
    go_ret
    exact ⟨by simp; rfl, rfl⟩

/-- may a directory take a name? -/
def freeE (st : St) (d : Int) (s : Txt) : Int := if isD st d = false then 4 else if N.may 32 s = false then 3 else if (st.P (d, s)).isSome then 5 else 0

theorem free_at (h : TreeAt w b F c st) {d : Int} {s : Txt} (hd : rng d) (hs : s.length ≤ maxLen) {e : Int} (he : freeE st d s = e) :
    Calls Tryd.prog 39 #[TP b, .int .i64 d, .string (bs s)] w fun e' w' => e' = .returned (.int .i64 e) ∧ ∃ n, w' = w.drewN n := by
  have hid := isDir_at h hd
  have hsz : (bs s).size ≤ maxLen := by rw [bs_size]; exact hs
  have hmay := fun W => N.may_any (bs s) W hsz
  rw [bs_data] at hmay
  obtain ⟨mp, mg, mz, av, nv, h⟩ := h
  unfold freeE at he
  cases h1 : isD st d with
  | false =>
    rw [h1, if_pos rfl] at he
    subst he
    rw [h1] at hid
    go_enter Tryd.func39, Tryd.ntmps39
    go_wp2_with (go_at_call 64; ((with_reducible refine hid.mono ?_); rintro e w1 ⟨rfl, rfl⟩))
    go_ret
    exact ⟨rfl, 0, rfl⟩
  | true =>
    rw [h1, if_neg (by decide)] at he
    rw [h1] at hid
    cases h2 : N.may 32 s with
    | false =>
      rw [h2, if_pos rfl] at he
      subst he
      rw [h2] at hmay
      go_enter Tryd.func39, Tryd.ntmps39
      go_wp2_with (first
        | (go_at_call 64; ((with_reducible refine hid.mono ?_); rintro e w1 ⟨rfl, rfl⟩))
        | (go_at_call 33; ((with_reducible refine (hmay _).mono ?_); rintro e w1 ⟨rfl, n, rfl⟩)))
      go_ret
      exact ⟨rfl, n, rfl⟩
    | true =>
      rw [h2, if_neg (by decide)] at he
      rw [h2] at hmay
      have c1 := fun n => (h.drewN n).c1
      have hl := fun n => (h.drewN n).lookP hd hs
      cases h3 : (st.P (d, s)).isSome with
      | true =>
        rw [h3, if_pos rfl] at he
        subst he
        rw [h3] at hl
        generalize ptrOf (st.P (d, s)) = v at hl
        go_enter Tryd.func39, Tryd.ntmps39
        go_wp2_with (first
          | (go_at_call 64; ((with_reducible refine hid.mono ?_); rintro e w1 ⟨rfl, rfl⟩))
          | (go_at_call 33; ((with_reducible refine (hmay _).mono ?_); rintro e w1 ⟨rfl, n, rfl⟩)))
        go_ret
        exact ⟨rfl, n, rfl⟩
      | false =>
        rw [h3, if_neg (by decide)] at he
        subst he
        rw [h3] at hl
        generalize ptrOf (st.P (d, s)) = v at hl
        go_enter Tryd.func39, Tryd.ntmps39
        go_wp2_with (first
          | (go_at_call 64; ((with_reducible refine hid.mono ?_); rintro e w1 ⟨rfl, rfl⟩))
          | (go_at_call 33; ((with_reducible refine (hmay _).mono ?_); rintro e w1 ⟨rfl, n, rfl⟩)))
        go_ret
        exact ⟨rfl, n, rfl⟩

/-- a segment found by a name -/
theorem segment_no (h : TreeAt w b F c st) {d : Int} {s : Txt} (hd : rng d) (hs : s.length ≤ maxLen) (hP : st.P (d, s) = none) :
    Calls Tryd.prog 52 #[TP b, .int .i64 d, .string (bs s)] w fun e w' => e = .returned (.tuple #[.pointer none, .int .i64 4]) ∧ w = w' := by
  have hf := find_no h hd hs hP
  go_enter Tryd.func52, Tryd.ntmps52
  go_wp2_with (go_at_call 44; ((with_reducible refine hf.mono ?_); rintro e w1 ⟨rfl, rfl⟩))
  exact bodyPost_ret (v := .tuple #[.pointer none, .int .i64 4]) (by simp [results, Tryd.results52, go_sem]) rfl ⟨rfl, rfl⟩

theorem segment_kind (h : TreeAt w b F c st) {d : Int} {s : Txt} (hd : rng d) (hs : s.length ≤ maxLen) {g : Nat} {x : Nd} (hP : st.P (d, s) = some g) (hN : st.N g = some x) (hk : ¬ x.br.kind = 1) :
    Calls Tryd.prog 52 #[TP b, .int .i64 d, .string (bs s)] w fun e w' => e = .returned (.tuple #[.pointer none, .int .i64 15]) ∧ w = w' := by
  have hf := find_yes h hd hs hP
  obtain ⟨mp, mg, mz, av, nv, h⟩ := h
  have c0 := (h.node g x hN).cell.1
  have hk' : (x.br.kind == 1) = false := by simpa using hk
  go_enter Tryd.func52, Tryd.ntmps52
  go_wp2_with (go_at_call 44; ((with_reducible refine hf.mono ?_); rintro e w1 ⟨rfl, rfl⟩))
  exact bodyPost_ret (v := .tuple #[.pointer none, .int .i64 15]) (by simp [results, Tryd.results52, go_sem]) rfl ⟨rfl, rfl⟩

theorem segment_yes (h : TreeAt w b F c st) {d : Int} {s : Txt} (hd : rng d) (hs : s.length ≤ maxLen) {g : Nat} {x : Nd} (hP : st.P (d, s) = some g) (hN : st.N g = some x) (hk : x.br.kind = 1) :
    Calls Tryd.prog 52 #[TP b, .int .i64 d, .string (bs s)] w fun e w' => e = .returned (.tuple #[TP g, .int .i64 0]) ∧ w = w' := by
  have hf := find_yes h hd hs hP
  obtain ⟨mp, mg, mz, av, nv, h⟩ := h
  have c0 := (h.node g x hN).cell.1
  rw [hk] at c0
  go_enter Tryd.func52, Tryd.ntmps52
  go_wp2_with (go_at_call 44; ((with_reducible refine hf.mono ?_); rintro e w1 ⟨rfl, rfl⟩))
  exact bodyPost_ret (v := .tuple #[TP g, .int .i64 0]) (by simp [results, Tryd.results52, go_sem]) rfl ⟨rfl, rfl⟩

end

end Go.Proofs.YtpcdcmoapenbdaaDoor.T
