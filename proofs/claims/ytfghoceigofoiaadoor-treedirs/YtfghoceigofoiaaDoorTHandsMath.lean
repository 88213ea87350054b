/-
  TreeHands: what its tree has; what is outside it.
-/
import Derived.Test.YtfghoceigofoiaaDoorTList
namespace Go.Proofs.YtfghoceigofoiaaDoor.T
open Go.ChangeShapes Go.WideShapes Go.ChangeAt Go.RowKit
open Go.Proofs.YtfghoceigofoiaaDoor.N (bs bs_data bs_size bs_inj)
open Go.Proofs.YtfghoceigofoiaaDoor.A (Tm TRow Fl)

theorem own_one {base : Nat} {V : World} {a : Option Addr} {c : Nat} {t : Tm} (h : A.Own base V (.slice a 1 c) [t]) :
    ∃ k, a = some ⟨k, 0, none⟩ ∧ base ≤ k ∧ k < V.heap.size ∧ V.cell? ⟨k, 0, none⟩ = some (.string (bs t.1)) ∧ V.cell? ⟨k, 1, none⟩ = some (.bool t.2.1) ∧ V.cell? ⟨k, 2, none⟩ = some (.bool t.2.2.1) ∧ V.cell? ⟨k, 3, none⟩ = some (.bool t.2.2.2) ∧ ∀ i, V.frozen? ⟨k, i, none⟩ = false := by
  rcases h.2 with ⟨_, e⟩ | ⟨k, cap, cur, e, hb, hg, _⟩
  · cases e
  · simp only [Value.slice.injEq] at e
    obtain ⟨rfl, _, rfl⟩ := e
    have hc := fun j hj => World.ownsRow.cellAt (w := V) (base := base) (e := 50) (size := 4) h j hj
    exact ⟨k, rfl, hb, (Array.getElem?_eq_some_iff.1 hg).1, hc 0 (by simp), hc 1 (by simp), hc 2 (by simp), hc 3 (by simp), fun i => by simp [World.frozen?, hg]⟩

theorem lmay_star (f : Fl) : A.lmay [([42], f)] = true := by
  obtain ⟨a, b, c⟩ := f
  cases a <;> cases b <;> cases c <;> decide
theorem lmay_u (f : Fl) : A.lmay [([117], f)] = true := by
  obtain ⟨a, b, c⟩ := f
  cases a <;> cases b <;> cases c <;> decide

/-- a segment with one term -/
def brT (u : Txt) (f : Fl) : Br := ⟨1, 3, 0, [], false, [(u, f)], 0, 0, 0, 0⟩

/-- what the tree has -/
structure One (st : St) (g : Nat) (x : Nd) : Prop where
  n : st.N g = some x
  p : ∀ s, st.P (0, s) = if s = [97] then some g else none
  u : st.G 3 = some g
  z : (st.Z 0).getD 0 = 1
theorem one_seg (g : Nat) (u : Txt) (f : Fl) : One (segS noSt g (brT u f) 0 [97]) g ⟨brT u f, 0, [[97]]⟩ where
  n := by simp [segS, bindS, nodeS, upd, segB, brT]
  p := fun s => by
    by_cases e : s = [97]
    · simp [segS, bindS, nodeS, upd, noSt, e]
    · simp [segS, bindS, nodeS, upd, noSt, e]
  u := by simp [segS, bindS, nodeS, upd, brT]
  z := by simp [segS, bindS, nodeS, upd, noSt]
theorem One.node {st : St} {g : Nat} {x : Nd} (h : One st g x) (y : Nd) : One (nodeS st g y) g y where
  n := upd_same (f := st.N) _ _
  p := h.p
  u := h.u
  z := h.z
theorem One.pa {st : St} {g : Nat} {x : Nd} (h : One st g x) : st.P (0, [97]) = some g := by rw [h.p]; rfl

theorem only_one {qs : List Txt} (hn : qs.Nodup) (hs : ∀ s ∈ qs, s.length ≤ maxLen) {g : Nat} {P : Int × Txt → Option Nat} (hp : ∀ s, P (0, s) = if s = [97] then some g else none) (hm : ∀ s, s.length ≤ maxLen → (s ∈ qs ↔ (P (0, s)).isSome = true)) : qs = [[97]] := by
  have h1 : ∀ s ∈ qs, s = [97] := fun s h => by
    have := (hm s (hs s h)).1 h
    rw [hp] at this
    by_cases e : s = [97]
    · exact e
    · rw [if_neg e] at this
      cases this
  have h2 : ([97] : Txt) ∈ qs := (hm [97] (short_txt (by decide))).2 (by rw [hp]; rfl)
  match qs, hn, h1, h2 with
  | [], _, _, h2 => cases h2
  | [a], _, h1, _ => rw [h1 a (by simp)]
  | a :: b :: l, hn, h1, _ =>
    have e1 := h1 a (by simp)
    have e2 := h1 b (by simp)
    subst e1
    subst e2
    simp at hn

theorem names_one {w : World} {b : Nat} {F : Nat → Prop} {c : Nat} {st : St} {g : Nat} {x : Nd} (h : TreeAt w b F c st) (hO : One st g x) (hc : c < 100000) :
    Calls Tryd.prog 19 #[TP b, .int .i64 0] w fun e w' => ∃ k cp, e = .returned (.slice (some ⟨k, 0, none⟩) 1 cp) ∧ w.heap.size ≤ k ∧ k < w'.heap.size ∧ w'.cell? ⟨k, 0, none⟩ = some (.string (bs [97])) ∧ w'.frozen? ⟨k, 0, none⟩ = false ∧ Below w.heap.size w w' := by
  refine (names_at h rng0 (by rw [hO.z]; decide) hc).mono fun e w' hp => ?_
  obtain ⟨a, cp, qs, he, hg, hb, h1, _, h3, h4⟩ := hp
  obtain rfl := only_one h1 h3 hO.p h4
  obtain ⟨k, rfl, h5, h6, h7⟩ := hg (by simp)
  obtain ⟨h8, h9⟩ := h7 0 (by simp)
  exact ⟨k, cp, he, h5, h6, h8, h9, hb⟩

/-- flags in a block -/
def FB (V : World) (k : Nat) (f : Fl) : Prop := V.heap[k]? = some (.cells #[.bool f.1, .bool f.2.1, .bool f.2.2] 48)
theorem FB.cell {V : World} {k : Nat} {f : Fl} (h : FB V k f) : V.cell? ⟨k, 0, none⟩ = some (.bool f.1) ∧ V.cell? ⟨k, 1, none⟩ = some (.bool f.2.1) ∧ V.cell? ⟨k, 2, none⟩ = some (.bool f.2.2) := by
  unfold FB at h
  simp [World.cell?, h]
theorem FB.of {V V' : World} {k B : Nat} {f : Fl} (h : FB V k f) (hb : Below B V V') (hk : k < B) : FB V' k f := (hb.block k hk).trans h
theorem FB.lt {V : World} {k : Nat} {f : Fl} (h : FB V k f) : k < V.heap.size := (Array.getElem?_eq_some_iff.1 h).1

/-- a tree, younger than w1, with F named -/
structure TY (w1 V : World) (b c : Nat) (F : Nat → Prop) (st : St) : Prop where
  tree : TreeAt V b F c st
  bel : Below w1.heap.size w1 V
  ge : ∀ i, F i → w1.heap.size ≤ i
theorem TY.below {w1 V V' : World} {b c : Nat} {F : Nat → Prop} {st : St} (h : TY w1 V b c F st) (hb : Below V.heap.size V V') : TY w1 V' b c F st := ⟨h.tree.below hb, h.bel.trans (hb.mono h.bel.size), h.ge⟩
theorem TY.alloc {w1 V : World} {b c : Nat} {F : Nat → Prop} {st : St} (h : TY w1 V b c F st) (o : Obj) : TY w1 (V.alloc o) b c F st := h.below (one_new _ _)
theorem TY.went {w1 V V' : World} {b c c' : Nat} {F F' : Nat → Prop} {st st' : St} (h : TY w1 V b c F st) (ht : TreeAt V' b F' c' st') (hw : Went F V F' V') : TY w1 V' b c' F' st' := ⟨ht, h.bel.trans (hw.below h.ge h.bel.size), hw.ge h.ge h.bel.size⟩
theorem TY.set {w1 V : World} {b c : Nat} {F : Nat → Prop} {st : St} (h : TY w1 V b c F st) {k i : Nat} {v : Value} (hk : ¬ F k) (hg : w1.heap.size ≤ k) : TY w1 (V.setCell ⟨k, i, none⟩ v) b c F st := ⟨h.tree.set hk, h.bel.setCell hg _, h.ge⟩
theorem TY.new {w1 V : World} {b c : Nat} {F : Nat → Prop} {st : St} (h : TY w1 V b c F st) {k : Nat} (hk : V.heap.size ≤ k) : ¬ F k := fun hf => by have := h.tree.ltF k hf; omega

/-- what y is: a branch in a box, with one term -/
structure YB (V : World) (kb ky cy : Nat) : Prop where
  box : V.cell? ⟨kb, 5, none⟩ = some (.slice (some ⟨ky, 0, none⟩) 1 cy)
  row : V.cell? ⟨ky, 0, none⟩ = some (.string (bs [42]))
theorem cell_lt {V : World} {k i : Nat} {v : Value} (h : V.cell? ⟨k, i, none⟩ = some v) : k < V.heap.size := World.block_lt_of_cell? V _ h
theorem YB.below {V V' : World} {kb ky cy : Nat} (h : YB V kb ky cy) (hb : Below V.heap.size V V') : YB V' kb ky cy := ⟨(hb.cell (p := ⟨kb, 5, none⟩) (cell_lt h.box)).trans h.box, (hb.cell (p := ⟨ky, 0, none⟩) (cell_lt h.row)).trans h.row⟩
theorem YB.set {V : World} {kb ky cy k i : Nat} {v : Value} (h : YB V kb ky cy) (h1 : kb ≠ k) (h2 : ky ≠ k) : YB (V.setCell ⟨k, i, none⟩ v) kb ky cy := by
  have e1 := other_set (w := V) i v h1
  have e2 := other_set (w := V) i v h2
  refine ⟨?_, ?_⟩
  · have := h.box; simp only [World.cell?, e1] at this ⊢; exact this
  · have := h.row; simp only [World.cell?, e2] at this ⊢; exact this
theorem YB.went {F F' : Nat → Prop} {V V' : World} {kb ky cy : Nat} (h : YB V kb ky cy) (hw : Went F V F' V') (h1 : ¬ F kb) (h2 : ¬ F ky) : YB V' kb ky cy := by
  have e1 := hw.block kb (cell_lt h.box) h1
  have e2 := hw.block ky (cell_lt h.row) h2
  refine ⟨?_, ?_⟩
  · have := h.box; simp only [World.cell?, e1] at this ⊢; exact this
  · have := h.row; simp only [World.cell?, e2] at this ⊢; exact this
theorem uid3_is {w : World} {b : Nat} {F : Nat → Prop} {c : Nat} {st : St} (h : TreeAt w b F c st) {u : Int} (hu : rng u) {g : Nat} {x : Nd} {B : Br} (hG : st.G u = some g) (hN : st.N g = some x) (hB : x.br = B) :
    Calls Tryd.prog 21 #[TP b, .int .i64 u] w (Shown w B fun v => .tuple #[v, .bool true]) := by
  subst hB
  exact uid_yes h hu hG hN
theorem look3_is {w : World} {b : Nat} {F : Nat → Prop} {c : Nat} {st : St} (h : TreeAt w b F c st) {d : Int} {s : Txt} (hd : rng d) (hs : s.length ≤ maxLen) {g : Nat} {x : Nd} {B : Br} (hP : st.P (d, s) = some g) (hN : st.N g = some x) (hB : x.br = B) :
    Calls Tryd.prog 16 #[TP b, .int .i64 d, .string (bs s)] w (Shown w B fun v => .tuple #[v, .bool true]) := by
  subst hB
  exact look_yes h hd hs hP hN
theorem lookA {w : World} {b : Nat} {F : Nat → Prop} {c : Nat} {st : St} {g : Nat} {x : Nd} {B : Br} (h : TreeAt w b F c st) (hO : One st g x) (hB : x.br = B) :
    Calls Tryd.prog 16 #[TP b, .int .i64 0, .string ⟨#[97]⟩] w (Shown w B fun v => .tuple #[v, .bool true]) := look3_is h (d := 0) (s := [97]) rng0 (short_txt (by decide)) hO.pa hO.n hB
theorem lit_behind (w : World) (o : Obj) (t : Tm) : TRow ((w.alloc o).alloc (.cells (A.flat [t]).toArray 50)) (some ⟨w.heap.size + 1, 0, none⟩) 1 [t] := by
  have := A.TRow.lit (w.alloc o) [t] 1 (by simp)
  rw [show (w.alloc o).heap.size = w.heap.size + 1 by simp] at this
  exact this
theorem yb_new {V : World} {ky cy : Nat} {B : Br} (h : V.cell? ⟨ky, 0, none⟩ = some (.string (bs [42]))) : YB (V.alloc (BrO B (.slice (some ⟨ky, 0, none⟩) 1 cy))) V.heap.size ky cy :=
  ⟨(BrAt.new V B _).cell.2.2.2.2.2.1, (Below.cell (one_new V _) (p := ⟨ky, 0, none⟩) (cell_lt h)).trans h⟩
theorem eql_same (t : Tm) (w : World) : (binOp .eql 50 (.agg #[.string (bs t.1), .bool t.2.1, .bool t.2.2.1, .bool t.2.2.2]) (.agg #[.string (bs t.1), .bool t.2.1, .bool t.2.2.1, .bool t.2.2.2])).run Tryd.prog w = .ok (.bool true) w := by
  have u := Tryd.underlying9
  have g := Tryd.isAgg9
  have z := Tryd.sizeOf9
  have g2 := Tryd.isAgg48
  have z2 := Tryd.sizeOf48
  have q := A.flags_eq 9997
  have hb := A.bs_beq t.1 t.1
  rw [run_eql_struct, show (10000 : Nat) = 9999 + 1 from rfl, run_equalIn_agg w 9999 50 _ _ A.term_fields A.term_held]
  simp only [Program.fieldsOf, Tryd.underlying50]
  go_simp
theorem eql_u (f : Fl) (w : World) : (binOp .eql 50 (.agg #[.string (bs [117]), .bool f.1, .bool f.2.1, .bool f.2.2]) (.agg #[.string ⟨#[117]⟩, .bool f.1, .bool f.2.1, .bool f.2.2])).run Tryd.prog w = .ok (.bool true) w := eql_same ([117], f) w
theorem old1 {V : World} {k i : Nat} {v : Value} {o : Obj} (h : V.cell? ⟨k, i, none⟩ = some v) : (V.alloc o).cell? ⟨k, i, none⟩ = some v := (Below.cell (one_new V o) (p := ⟨k, i, none⟩) (cell_lt h)).trans h
theorem bel1 {V V' : World} {k i : Nat} {v : Value} (hb : Below V.heap.size V V') (h : V.cell? ⟨k, i, none⟩ = some v) : V'.cell? ⟨k, i, none⟩ = some v := (Below.cell hb (p := ⟨k, i, none⟩) (cell_lt h)).trans h
theorem ten_below {V V' : World} {ka ky kb ku kf : Nat} {a b c d e f g h i j : Value}
    (H : V.cell? ⟨ka, 5, none⟩ = some a ∧ V.cell? ⟨ky, 0, none⟩ = some b ∧ V.cell? ⟨kb, 5, none⟩ = some c ∧ V.cell? ⟨ku, 0, none⟩ = some d ∧ V.cell? ⟨ku, 1, none⟩ = some e ∧ V.cell? ⟨ku, 2, none⟩ = some f ∧ V.cell? ⟨ku, 3, none⟩ = some g ∧ V.cell? ⟨kf, 0, none⟩ = some h ∧ V.cell? ⟨kf, 1, none⟩ = some i ∧ V.cell? ⟨kf, 2, none⟩ = some j) (hb : Below V.heap.size V V') :
    V'.cell? ⟨ka, 5, none⟩ = some a ∧ V'.cell? ⟨ky, 0, none⟩ = some b ∧ V'.cell? ⟨kb, 5, none⟩ = some c ∧ V'.cell? ⟨ku, 0, none⟩ = some d ∧ V'.cell? ⟨ku, 1, none⟩ = some e ∧ V'.cell? ⟨ku, 2, none⟩ = some f ∧ V'.cell? ⟨ku, 3, none⟩ = some g ∧ V'.cell? ⟨kf, 0, none⟩ = some h ∧ V'.cell? ⟨kf, 1, none⟩ = some i ∧ V'.cell? ⟨kf, 2, none⟩ = some j := by
  obtain ⟨h1, h2, h3, h4, h5, h6, h7, h8, h9, h10⟩ := H
  exact ⟨bel1 hb h1, bel1 hb h2, bel1 hb h3, bel1 hb h4, bel1 hb h5, bel1 hb h6, bel1 hb h7, bel1 hb h8, bel1 hb h9, bel1 hb h10⟩
theorem bmay_zero3 : W.bmay 0 0 0 0 = true := by decide
theorem rng3 : rng 3 := ⟨by omega, by omega⟩

end Go.Proofs.YtfghoceigofoiaaDoor.T
