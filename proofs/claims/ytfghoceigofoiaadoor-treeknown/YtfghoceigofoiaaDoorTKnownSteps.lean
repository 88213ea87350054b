/-
  TreeKnown: one contract for each of its calls.
-/
import Derived.Test.YtfghoceigofoiaaDoorTKnownMath
namespace Go.Proofs.YtfghoceigofoiaaDoor.T
open Go.ChangeShapes Go.WideShapes Go.ChangeAt Go.RowKit
open Go.Proofs.YtfghoceigofoiaaDoor.N (bs bs_data bs_size bs_inj Row)
open Go.Proofs.YtfghoceigofoiaaDoor.A (Tm TRow)


/-- a boxed branch, spelt out -/
@[reducible] def LitO (k u d : Int) (l : List UInt8) (va : Value) : Obj := .cells #[.int .i64 k, .int .i64 u, .int .i64 d, .string ⟨l.toArray⟩, .bool false, va, .int .i64 0, .int .i64 0, .int .i64 0, .int .i64 0] 29 (0, 0)
/-- the law's tree, and boxes outside it -/
structure KS (w1 V : World) (b c : Nat) (F : Nat → Prop) (st : St) (bx : List (Nat × Obj)) : Prop where
  ty : TY w1 V b c F st
  box : ∀ p ∈ bx, V.heap[p.1]? = some p.2 ∧ ¬ F p.1
section
variable {w1 V : World} {b c : Nat} {F : Nat → Prop} {st : St} {bx : List (Nat × Obj)}
theorem heap_lt {V : World} {k : Nat} {o : Obj} (h : V.heap[k]? = some o) : k < V.heap.size := (Array.getElem?_eq_some_iff.1 h).1
theorem KS.below (h : KS w1 V b c F st bx) {V' : World} (hb : Below V.heap.size V V') : KS w1 V' b c F st bx :=
  ⟨h.ty.below hb, fun p hp => ⟨(hb.block _ (heap_lt (h.box p hp).1)).trans (h.box p hp).1, (h.box p hp).2⟩⟩
theorem KS.alloc (h : KS w1 V b c F st bx) (o : Obj) : KS w1 (V.alloc o) b c F st bx := h.below (one_new _ _)
theorem KS.drewN (h : KS w1 V b c F st bx) (n : Nat) : KS w1 (V.drewN n) b c F st bx := h.below (bel_drewN V n)
theorem KS.push (h : KS w1 V b c F st bx) (o : Obj) : KS w1 (V.alloc o) b c F st ((V.heap.size, o) :: bx) :=
  ⟨h.ty.alloc o, fun p hp => by
    rcases List.mem_cons.1 hp with rfl | hp
    · exact ⟨heap_alloc_new V o, h.ty.new (Nat.le_refl _)⟩
    · exact (h.alloc o).box p hp⟩
theorem KS.went (h : KS w1 V b c F st bx) {V' : World} {c' : Nat} {F' : Nat → Prop} {st' : St} (ht : TreeAt V' b F' c' st') (hw : Went F V F' V') : KS w1 V' b c' F' st' bx :=
  ⟨h.ty.went ht hw, fun p hp => ⟨(hw.block _ (heap_lt (h.box p hp).1) (h.box p hp).2).trans (h.box p hp).1, hw.out (heap_lt (h.box p hp).1) (h.box p hp).2⟩⟩
theorem KS.start {w2 : World} (h2 : TreeAt w2 w1.heap.size (fun i => i = w1.heap.size) 0 noSt) (b2 : Below w1.heap.size w1 w2) : KS w1 w2 w1.heap.size 0 (fun i => i = w1.heap.size) noSt [] :=
  ⟨⟨h2, b2, fun i hi => Nat.le_of_eq hi.symm⟩, fun p hp => by cases hp⟩
theorem KS.seg (h : KS w1 V b c F st bx) {k : Nat} (hk : (k, LitO 1 1 0 [] (.slice none 0 0)) ∈ bx) : V.cell? ⟨k, 0, none⟩ = some (.int .i64 1) ∧ V.cell? ⟨k, 1, none⟩ = some (.int .i64 1) ∧ V.cell? ⟨k, 2, none⟩ = some (.int .i64 0) ∧ V.cell? ⟨k, 3, none⟩ = some (.string ⟨#[]⟩) ∧ V.cell? ⟨k, 4, none⟩ = some (.bool false) ∧ V.cell? ⟨k, 5, none⟩ = some (.slice none 0 0) ∧ V.cell? ⟨k, 6, none⟩ = some (.int .i64 0) ∧ V.cell? ⟨k, 7, none⟩ = some (.int .i64 0) ∧ V.cell? ⟨k, 8, none⟩ = some (.int .i64 0) ∧ V.cell? ⟨k, 9, none⟩ = some (.int .i64 0) :=
  BrAt.cell (b := segK) (h.box _ hk).1
theorem TreeAt.nodeLt {V : World} {b : Nat} {F : Nat → Prop} {c : Nat} {st : St} (h : TreeAt V b F c st) {g : Nat} {x : Nd} (hg : st.N g = some x) : g < V.heap.size := by
  obtain ⟨_, _, _, _, _, h⟩ := h
  exact (h.node g x hg).lt
theorem rng1 : rng 1 := ⟨by omega, by omega⟩
theorem rng2 : rng 2 := ⟨by omega, by omega⟩
theorem nil_row (V : World) : TRow V none 0 [] := A.TRow.nil V
theorem nil_txt : ∀ t ∈ ([] : List Tm), t.1.length ≤ maxLen := fun t ht => by cases ht
/-- the law's two rows of codes -/
def codes : List Int := [4, 3, 0, 5, 5, 15, 1, 1, 3, 0, 0, 16, 16, 0, 0, 15, 1, 4, 0, 0, 4, 0]
@[reducible] def ErrO (t : TypeId) : Obj := .cells #[.int .i64 4, .int .i64 3, .int .i64 0, .int .i64 5, .int .i64 5, .int .i64 15, .int .i64 1, .int .i64 1, .int .i64 3, .int .i64 0, .int .i64 0, .int .i64 16, .int .i64 16, .int .i64 0, .int .i64 0, .int .i64 15, .int .i64 1, .int .i64 4, .int .i64 0, .int .i64 0, .int .i64 4, .int .i64 0] t (0, 0)
theorem err_cell {V : World} {m : Nat} {t : TypeId} (h : V.heap[m]? = some (ErrO t)) {k : Nat} (hk : k < 22) : V.cell? ⟨m, k, none⟩ = some (.int .i64 (codes.getD k 0)) := by
  refine (cell_of_row _ _ k _ _ _ h).trans ?_
  match k, hk with
  | 0, _ => rfl
  | 1, _ => rfl
  | 2, _ => rfl
  | 3, _ => rfl
  | 4, _ => rfl
  | 5, _ => rfl
  | 6, _ => rfl
  | 7, _ => rfl
  | 8, _ => rfl
  | 9, _ => rfl
  | 10, _ => rfl
  | 11, _ => rfl
  | 12, _ => rfl
  | 13, _ => rfl
  | 14, _ => rfl
  | 15, _ => rfl
  | 16, _ => rfl
  | 17, _ => rfl
  | 18, _ => rfl
  | 19, _ => rfl
  | 20, _ => rfl
  | 21, _ => rfl
  | k + 22, hk => exact absurd hk (by omega)
theorem rows22 (X : World) (t : TypeId) {m : Nat} (hm : X.heap.size = m) {k : Nat} (hk : k < 22) : ((X.alloc (ErrO t)).alloc (ErrO t)).cell? ⟨m, k, none⟩ = some (.int .i64 (codes.getD k 0)) ∧ ((X.alloc (ErrO t)).alloc (ErrO t)).cell? ⟨m + 1, k, none⟩ = some (.int .i64 (codes.getD k 0)) := by
  subst hm
  refine ⟨err_cell (V := (X.alloc (ErrO t)).alloc (ErrO t)) (t := t) ?_ hk, err_cell (V := (X.alloc (ErrO t)).alloc (ErrO t)) (t := t) ?_ hk⟩
  · exact ((one_new _ _).block _ (by simp)).trans (heap_alloc_new X (ErrO t))
  · have := heap_alloc_new (X.alloc (ErrO t)) (ErrO t)
    simpa using this
variable {g1 g2 g3 g4 : Nat}

theorem s1 (h : KS w1 V b c F noSt bx) : Calls Tryd.prog 10 #[TP b, .int .i64 1, .string ⟨#[97]⟩, (.agg #[.int .i64 1, .int .i64 1, .int .i64 0, .string ⟨#[]⟩, .bool false, .slice none 0 0, .int .i64 0, .int .i64 0, .int .i64 0, .int .i64 0])] V fun e w' => e = .returned (.tuple #[.int .i64 0, .int .i64 4]) ∧ KS w1 w' b c F noSt bx :=
  (add_no h.ty.tree (d := 1) (s := [97]) rng1 (short_txt (by decide)) k0a (by decide) (br := ⟨1, 1, 0, [], false, [], 0, 0, 0, 0⟩) (a := none) (n := 0) (cc := 0)).mono fun e w' hp => ⟨hp.1, h.below hp.2⟩
theorem s2 (h : KS w1 V b c F noSt bx) : Calls Tryd.prog 10 #[TP b, .int .i64 0, .string ⟨#[97, 62, 98]⟩, (.agg #[.int .i64 1, .int .i64 1, .int .i64 0, .string ⟨#[]⟩, .bool false, .slice none 0 0, .int .i64 0, .int .i64 0, .int .i64 0, .int .i64 0])] V fun e w' => e = .returned (.tuple #[.int .i64 0, .int .i64 3]) ∧ KS w1 w' b c F noSt bx :=
  (add_no h.ty.tree (d := 0) (s := [97, 62, 98]) rng0 (short_txt (by decide)) k0b (by decide) (br := ⟨1, 1, 0, [], false, [], 0, 0, 0, 0⟩) (a := none) (n := 0) (cc := 0)).mono fun e w' hp => ⟨hp.1, h.below hp.2⟩
theorem s3 (h : KS w1 V b c F noSt bx) (hc : c < 5) : Calls Tryd.prog 10 #[TP b, .int .i64 0, .string ⟨#[97]⟩, (.agg #[.int .i64 1, .int .i64 1, .int .i64 0, .string ⟨#[]⟩, .bool false, .slice none 0 0, .int .i64 0, .int .i64 0, .int .i64 0, .int .i64 0])] V fun e w' => e = .returned (.tuple #[.int .i64 0, .int .i64 0]) ∧ ∃ F' g, KS w1 w' b (c + 4) F' (K1 g) bx :=
  (add_seg h.ty.tree (d := 0) (s := [97]) rng0 (short_txt (by decide)) k0c (br := segK) (a := none) (cc := 0) (nil_row V) nil_txt rfl (by decide) (by decide) (by decide) (by decide) rfl (by omega)).mono fun e w' hp => by
    obtain ⟨e1, F', g, _, ht, hw⟩ := hp
    exact ⟨e1, F', g, h.went ht hw⟩
theorem s4 (h : KS w1 V b c F (K1 g1) bx) : Calls Tryd.prog 10 #[TP b, .int .i64 0, .string ⟨#[97]⟩, (.agg #[.int .i64 1, .int .i64 1, .int .i64 0, .string ⟨#[]⟩, .bool false, .slice none 0 0, .int .i64 0, .int .i64 0, .int .i64 0, .int .i64 0])] V fun e w' => e = .returned (.tuple #[.int .i64 0, .int .i64 5]) ∧ KS w1 w' b c F (K1 g1) bx :=
  (add_no h.ty.tree (d := 0) (s := [97]) rng0 (short_txt (by decide)) (k1a g1) (by decide) (br := ⟨1, 1, 0, [], false, [], 0, 0, 0, 0⟩) (a := none) (n := 0) (cc := 0)).mono fun e w' hp => ⟨hp.1, h.below hp.2⟩
theorem s5 (h : KS w1 V b c F (K1 g1) bx) : Calls Tryd.prog 10 #[TP b, .int .i64 0, .string ⟨#[98]⟩, (.agg #[.int .i64 1, .int .i64 1, .int .i64 0, .string ⟨#[]⟩, .bool false, .slice none 0 0, .int .i64 0, .int .i64 0, .int .i64 0, .int .i64 0])] V fun e w' => e = .returned (.tuple #[.int .i64 0, .int .i64 5]) ∧ KS w1 w' b c F (K1 g1) bx :=
  (add_bad h.ty.tree (d := 0) (s := [98]) rng0 (short_txt (by decide)) (k1b g1) (br := ⟨1, 1, 0, [], false, [], 0, 0, 0, 0⟩) (a := none) (cc := 0) (nil_row V) (r := 5) (by decide) (fun V ht hr => taken_there ht hr nil_txt rfl (by decide) (by decide) (by decide) (by decide) (k1G g1))).mono fun e w' hp => ⟨hp.1, h.below hp.2⟩
theorem s6 (h : KS w1 V b c F (K1 g1) bx) : Calls Tryd.prog 10 #[TP b, .int .i64 0, .string ⟨#[98]⟩, (.agg #[.int .i64 4, .int .i64 0, .int .i64 0, .string ⟨#[]⟩, .bool false, .slice none 0 0, .int .i64 0, .int .i64 0, .int .i64 0, .int .i64 0])] V fun e w' => e = .returned (.tuple #[.int .i64 0, .int .i64 15]) ∧ KS w1 w' b c F (K1 g1) bx :=
  (add_bad h.ty.tree (d := 0) (s := [98]) rng0 (short_txt (by decide)) (k1b g1) (br := ⟨4, 0, 0, [], false, [], 0, 0, 0, 0⟩) (a := none) (cc := 0) (nil_row V) (r := 15) (by decide) (fun V ht hr => taken_kind (by decide) (by decide) (by decide) V)).mono fun e w' hp => ⟨hp.1, h.below hp.2⟩
theorem s7 (h : KS w1 V b c F (K1 g1) bx) : Calls Tryd.prog 10 #[TP b, .int .i64 0, .string ⟨#[98]⟩, (.agg #[.int .i64 1, .int .i64 0, .int .i64 0, .string ⟨#[]⟩, .bool false, .slice none 0 0, .int .i64 0, .int .i64 0, .int .i64 0, .int .i64 0])] V fun e w' => e = .returned (.tuple #[.int .i64 0, .int .i64 1]) ∧ KS w1 w' b c F (K1 g1) bx :=
  (add_bad h.ty.tree (d := 0) (s := [98]) rng0 (short_txt (by decide)) (k1b g1) (br := ⟨1, 0, 0, [], false, [], 0, 0, 0, 0⟩) (a := none) (cc := 0) (nil_row V) (r := 1) (by decide) (fun V ht hr => taken_low rfl (by decide) V)).mono fun e w' hp => ⟨hp.1, h.below hp.2⟩
theorem s8 (h : KS w1 V b c F (K1 g1) bx) : Calls Tryd.prog 10 #[TP b, .int .i64 0, .string ⟨#[98]⟩, (.agg #[.int .i64 1, .int .i64 2, .int .i64 0, .string ⟨#[]⟩, .bool false, .slice none 0 0, .int .i64 1, .int .i64 0, .int .i64 0, .int .i64 0])] V fun e w' => e = .returned (.tuple #[.int .i64 0, .int .i64 1]) ∧ KS w1 w' b c F (K1 g1) bx :=
  (add_bad h.ty.tree (d := 0) (s := [98]) rng0 (short_txt (by decide)) (k1b g1) (br := ⟨1, 2, 0, [], false, [], 1, 0, 0, 0⟩) (a := none) (cc := 0) (nil_row V) (r := 1) (by decide) (fun V ht hr => taken_ring hr nil_txt rfl (by decide) (by decide) (by decide))).mono fun e w' hp => ⟨hp.1, h.below hp.2⟩
theorem s9 (h : KS w1 V b c F (K1 g1) bx) : Calls Tryd.prog 10 #[TP b, .int .i64 0, .string ⟨#[98]⟩, (.agg #[.int .i64 3, .int .i64 0, .int .i64 0, .string ⟨#[98]⟩, .bool false, .slice none 0 0, .int .i64 0, .int .i64 0, .int .i64 0, .int .i64 0])] V fun e w' => e = .returned (.tuple #[.int .i64 0, .int .i64 3]) ∧ KS w1 w' b c F (K1 g1) bx :=
  (add_bad h.ty.tree (d := 0) (s := [98]) rng0 (short_txt (by decide)) (k1b g1) (br := ⟨3, 0, 0, [98], false, [], 0, 0, 0, 0⟩) (a := none) (cc := 0) (nil_row V) (r := 3) (by decide) (fun V ht hr => taken_nolink rfl (by decide) (by decide) V)).mono fun e w' hp => ⟨hp.1, h.below hp.2⟩
theorem s10 (h : KS w1 V b c F (K1 g1) bx) (hc : c < 50) : Calls Tryd.prog 10 #[TP b, .int .i64 0, .string ⟨#[100]⟩, (.agg #[.int .i64 2, .int .i64 9, .int .i64 0, .string ⟨#[120]⟩, .bool false, .slice none 0 0, .int .i64 0, .int .i64 0, .int .i64 0, .int .i64 0])] V fun e w' => e = .returned (.tuple #[.int .i64 1, .int .i64 0]) ∧ ∃ F' g2, g1 < g2 ∧ KS w1 w' b (c + 5) F' (K2 g1 g2) bx :=
  (add_dir h.ty.tree (d := 0) (s := [100]) rng0 (short_txt (by decide)) (k1c g1) (br := ⟨2, 9, 0, [120], false, [], 0, 0, 0, 0⟩) (a := none) (n := 0) (cc := 0) rfl (by omega)).mono fun e w' hp => by
    obtain ⟨e1, F', g, hg, ht, hw⟩ := hp
    have := h.ty.tree.nodeLt (g := g1) (by simp [K1, segS, bindS, upd] <;> rfl)
    exact ⟨e1, F', g, by omega, h.went ht hw⟩
theorem s11 (h : KS w1 V b c F (K2 g1 g2) bx) (hc : c < 50) : Calls Tryd.prog 10 #[TP b, .int .i64 1, .string ⟨#[108]⟩, (.agg #[.int .i64 3, .int .i64 0, .int .i64 0, .string ⟨#[62]⟩, .bool false, .slice none 0 0, .int .i64 0, .int .i64 0, .int .i64 0, .int .i64 0])] V fun e w' => e = .returned (.tuple #[.int .i64 0, .int .i64 0]) ∧ ∃ F' g3, g2 < g3 ∧ KS w1 w' b (c + 3) F' (K3 g1 g2 g3) bx :=
  (add_root h.ty.tree (d := 1) (s := [108]) rng1 (short_txt (by decide)) (k2a g1 g2) (br := ⟨3, 0, 0, [62], false, [], 0, 0, 0, 0⟩) (a := none) (n := 0) (cc := 0) rfl rfl (by omega)).mono fun e w' hp => by
    obtain ⟨e1, F', g, hg, ht, hw⟩ := hp
    have := h.ty.tree.nodeLt (g := g2) (by simp [K2, dirS, bindS, upd] <;> rfl)
    exact ⟨e1, F', g, by omega, h.went ht hw⟩
theorem s12 (h : KS w1 V b c F (K3 g1 g2 g3) bx) (h23 : g2 < g3) : Calls Tryd.prog 11 #[TP b, .int .i64 0, .string ⟨#[100]⟩] V fun e w' => e = .returned (.tuple #[(.agg #[.int .i64 0, .int .i64 0, .int .i64 0, .string ⟨#[]⟩, .bool false, .slice none 0 0, .int .i64 0, .int .i64 0, .int .i64 0, .int .i64 0]), .int .i64 16]) ∧ KS w1 w' b c F (K3 g1 g2 g3) bx :=
  (del_busy h.ty.tree (d := 0) (s := [100]) rng0 (short_txt (by decide)) k3a (k3b (by omega)) rfl (by rw [k3c]; decide)).mono fun e w' hp => ⟨hp.1, h.below hp.2⟩
theorem s13 (h : KS w1 V b c F (K3 g1 g2 g3) bx) (h12 : g1 < g2) (h23 : g2 < g3) : Calls Tryd.prog 12 #[TP b, .int .i64 0, .string ⟨#[97]⟩] V fun e w' => e = .returned (.int .i64 16) ∧ V = w' :=
  unname_busy h.ty.tree (d := 0) (s := [97]) rng0 (short_txt (by decide)) k3d (k3e (by omega) (by omega)) rfl
theorem s14 (h : KS w1 V b c F (K3 g1 g2 g3) bx) (h12 : g1 < g2) (h23 : g2 < g3) (hc : c < 50) : Calls Tryd.prog 13 #[TP b, .int .i64 0, .string ⟨#[97]⟩, .string ⟨#[122]⟩] V fun e w' => e = .returned (.int .i64 0) ∧ ∃ F', KS w1 w' b (c + 3) F' (K4 g1 g2 g3) bx :=
  (name_at h.ty.tree (d := 0) (s := [97]) (m := [122]) rng0 (short_txt (by decide)) (short_txt (by decide)) k3d (k3e (by omega) (by omega)) k3f (by omega)).mono fun e w' hp => by
    obtain ⟨e1, F', ht, hw⟩ := hp
    exact ⟨e1, F', h.went ht hw⟩
theorem s15 (h : KS w1 V b c F (K4 g1 g2 g3) bx) (hc : c < 50) : Calls Tryd.prog 12 #[TP b, .int .i64 0, .string ⟨#[97]⟩] V fun e w' => e = .returned (.int .i64 0) ∧ KS w1 w' b (c + 2) F (K5 g1 g2 g3) bx :=
  (unname_at h.ty.tree (d := 0) (s := [97]) rng0 (short_txt (by decide)) k4a k4b (by decide) (i := 0) (by decide) (by decide) (by omega)).mono fun e w' hp => ⟨hp.1, h.went hp.2.1 hp.2.2⟩
theorem s16 (h : KS w1 V b c F (K5 g1 g2 g3) bx) (h12 : g1 < g2) (h23 : g2 < g3) : Calls Tryd.prog 14 #[TP b, .int .i64 0, .string ⟨#[100]⟩, .slice none 0 0] V fun e w' => e = .returned (.int .i64 15) ∧ V = w' :=
  access_kind h.ty.tree (d := 0) (s := [100]) rng0 (short_txt (by decide)) k5a (k5b (by omega) (by omega)) (by decide)
theorem s17 (h : KS w1 V b c F (K5 g1 g2 g3) bx) : Calls Tryd.prog 15 #[TP b, .int .i64 0, .string ⟨#[122]⟩, .agg #[.int .i64 9, .int .i64 0, .int .i64 0, .int .i64 0]] V fun e w' => e = .returned (.int .i64 1) ∧ KS w1 w' b c F (K5 g1 g2 g3) bx :=
  (ringed_bad h.ty.tree (d := 0) (s := [122]) rng0 (short_txt (by decide)) k5c k5d rfl (by decide)).mono fun e w' hp => ⟨hp.1, h.below hp.2⟩
theorem s18 (h : KS w1 V b c F (K5 g1 g2 g3) bx) : Calls Tryd.prog 13 #[TP b, .int .i64 0, .string ⟨#[113]⟩, .string ⟨#[121]⟩] V fun e w' => e = .returned (.int .i64 4) ∧ V = w' :=
  name_none h.ty.tree (d := 0) (s := [113]) (m := [121]) rng0 (short_txt (by decide)) k5e
theorem s19 (h : KS w1 V b c F (K5 g1 g2 g3) bx) (h12 : g1 < g2) (h23 : g2 < g3) (hc : c < 50) : Calls Tryd.prog 11 #[TP b, .int .i64 1, .string ⟨#[108]⟩] V fun e w' => ∃ a q, e = .returned (.tuple #[(.agg #[.int .i64 3, .int .i64 0, .int .i64 0, .string ⟨#[62]⟩, .bool false, .slice a 0 q, .int .i64 0, .int .i64 0, .int .i64 0, .int .i64 0]), .int .i64 0]) ∧ KS w1 w' b (c + 3) F (K6 g1 g2 g3) bx :=
  (del_link h.ty.tree (d := 1) (s := [108]) rng1 (short_txt (by decide)) k5f (k5g (by omega)) rfl (by omega)).mono fun e w' hp => by
    obtain ⟨a, q, e1, ht, hw⟩ := hp
    exact ⟨a, q, e1, h.went ht hw⟩
theorem s20 (h : KS w1 V b c F (K6 g1 g2 g3) bx) (h12 : g1 < g2) (h23 : g2 < g3) (hc : c < 50) : Calls Tryd.prog 11 #[TP b, .int .i64 0, .string ⟨#[100]⟩] V fun e w' => ∃ a q, e = .returned (.tuple #[(.agg #[.int .i64 2, .int .i64 0, .int .i64 1, .string ⟨#[]⟩, .bool false, .slice a 0 q, .int .i64 0, .int .i64 0, .int .i64 0, .int .i64 0]), .int .i64 0]) ∧ KS w1 w' b (c + 3) F (K7 g1 g2 g3) bx :=
  (del_dir h.ty.tree (d := 0) (s := [100]) rng0 (short_txt (by decide)) k6a (k6b (by omega) (by omega)) rfl (by rw [k6c]; decide) (by omega)).mono fun e w' hp => by
    obtain ⟨a, q, e1, ht, hw⟩ := hp
    exact ⟨a, q, e1, h.went ht hw⟩
theorem s21 (h : KS w1 V b c F (K7 g1 g2 g3) bx) : Calls Tryd.prog 10 #[TP b, .int .i64 1, .string ⟨#[120]⟩, (.agg #[.int .i64 1, .int .i64 1, .int .i64 0, .string ⟨#[]⟩, .bool false, .slice none 0 0, .int .i64 0, .int .i64 0, .int .i64 0, .int .i64 0])] V fun e w' => e = .returned (.tuple #[.int .i64 0, .int .i64 4]) ∧ KS w1 w' b c F (K7 g1 g2 g3) bx :=
  (add_no h.ty.tree (d := 1) (s := [120]) rng1 (short_txt (by decide)) k7a (by decide) (br := ⟨1, 1, 0, [], false, [], 0, 0, 0, 0⟩) (a := none) (n := 0) (cc := 0)).mono fun e w' hp => ⟨hp.1, h.below hp.2⟩
theorem s22 (h : KS w1 V b c F (K7 g1 g2 g3) bx) (h12 : g1 < g2) (h23 : g2 < g3) (hc : c < 50) : Calls Tryd.prog 10 #[TP b, .int .i64 0, .string ⟨#[100]⟩, (.agg #[.int .i64 2, .int .i64 0, .int .i64 0, .string ⟨#[]⟩, .bool false, .slice none 0 0, .int .i64 0, .int .i64 0, .int .i64 0, .int .i64 0])] V fun e w' => e = .returned (.tuple #[.int .i64 2, .int .i64 0]) ∧ ∃ F' g4, g2 < g4 ∧ KS w1 w' b (c + 5) F' (K8 g1 g2 g3 g4) bx := by
  have hh := add_dir h.ty.tree (d := 0) (s := [100]) rng0 (short_txt (by decide)) k7b (br := ⟨2, 0, 0, [], false, [], 0, 0, 0, 0⟩) (a := none) (n := 0) (cc := 0) rfl (by omega)
  rw [k7L] at hh
  refine hh.mono fun e w' hp => ?_
  obtain ⟨e1, F', g, hg, ht, hw⟩ := hp
  have := h.ty.tree.nodeLt (g := g2) (by rw [K7, unbindAll_N]; exact k6b (by omega) (by omega))
  exact ⟨e1, F', g, by omega, h.went ht hw⟩
theorem s23 (h : KS w1 V b c F (K8 g1 g2 g3 g4) bx) : Calls Tryd.prog 16 #[TP b, .int .i64 0, .string ⟨#[100]⟩] V fun e w' => ∃ a q, e = .returned (.tuple #[(.agg #[.int .i64 2, .int .i64 0, .int .i64 2, .string ⟨#[]⟩, .bool false, .slice a 0 q, .int .i64 0, .int .i64 0, .int .i64 0, .int .i64 0]), .bool true]) ∧ KS w1 w' b c F (K8 g1 g2 g3 g4) bx :=
  (look_yes h.ty.tree (d := 0) (s := [100]) rng0 (short_txt (by decide)) k8a k8b).mono fun e w' hp => by
    obtain ⟨a, q, e1, _, hb⟩ := hp
    exact ⟨a, q, e1, h.below hb⟩
theorem s24 (h : KS w1 V b c F (K8 g1 g2 g3 g4) bx) (h12 : g1 < g2) (h24 : g2 < g4) : Calls Tryd.prog 17 #[TP b, .int .i64 1] V fun e w' => e = .returned (.tuple #[.int .i64 0, .bool true]) ∧ V = w' :=
  home_yes h.ty.tree (u := 1) rng1 k8c (k8d (by omega))
theorem s25 (h : KS w1 V b c F (K8 g1 g2 g3 g4) bx) (hc : c < 50) : Calls Tryd.prog 19 #[TP b, .int .i64 0] V fun e w' => ∃ k q, e = .returned (.slice (some ⟨k, 0, none⟩) 2 q) ∧ k < w'.heap.size ∧ w'.cell? ⟨k, 0, none⟩ = some (.string (bs [100])) ∧ w'.cell? ⟨k, 1, none⟩ = some (.string (bs [122])) ∧ KS w1 w' b c F (K8 g1 g2 g3 g4) bx := by
  refine (names_at h.ty.tree rng0 k8z (by omega)).mono fun e w' hp => ?_
  obtain ⟨a, cp, qs, he, hg, hb, h1, h2, h3, h4⟩ := hp
  obtain rfl := two_names h1 h2 (fun s => by
    constructor
    · exact fun hs => (k8e s).1 ((h4 s (h3 s hs)).1 hs)
    · exact fun hs => (h4 s (by rcases hs with rfl | rfl <;> exact short_txt (by decide))).2 ((k8e s).2 hs))
  obtain ⟨k, rfl, h5, h6, h7⟩ := hg (by simp)
  obtain ⟨h8, _⟩ := h7 0 (by simp)
  obtain ⟨h9, _⟩ := h7 1 (by simp)
  exact ⟨k, cp, he, h6, h8, h9, h.below hb⟩

theorem row_two {V : World} {k : Nat} (hk : k < V.heap.size) (h0 : V.cell? ⟨k, 0, none⟩ = some (.string (bs [100]))) (h1 : V.cell? ⟨k, 1, none⟩ = some (.string (bs [122]))) : Row V (some ⟨k, 0, none⟩) 2 [[100], [122]] :=
  ⟨Nat.le_refl _, fun _ => ⟨k, 0, rfl, hk, fun j p hj => by
    match j, hj with
    | 0, hj => simp at hj; subst hj; exact h0
    | 1, hj => simp at hj; subst hj; exact h1
    | j + 2, hj => simp at hj⟩⟩
set_option maxHeartbeats 400000 in
theorem same_row (a b : Option Addr) (c d c' d' : Nat) (qs : List Txt) (w : World) (hr : Row w a c' qs) (hs : Row w b d' qs) (hq : qs.length ≤ 1000000) :
    Calls Tryd.prog 18 #[.slice a qs.length c, .slice b qs.length d] w fun e w' => e = .returned (.bool true) ∧ ∃ n, w' = w.drewN n := by
  have HR := Lib.hid hr
  have HS := Lib.hid hs
  clear hr hs
  go_enter Tryd.func18, Tryd.ntmps18
  go_wp2
  go_loopw [5] (fun i W => ∃ k n : Nat, k ≤ qs.length ∧ i = .int .i64 k ∧ W = w.drewN n) (fun i _ => qs.length - (intOf i).toNat)
  case atStart => exact ⟨0, 0, Nat.zero_le _, rfl, rfl⟩
  case round =>
    obtain ⟨k, n, hk, rfl, rfl⟩ := hrel
    by_cases hlt : k < qs.length
    · obtain ⟨bk, o, rfl, hbk, hc⟩ := HR.out.at_ hlt
      obtain ⟨bk', o', rfl, hbk', hc'⟩ := HS.out.at_ hlt
      have e1 := A.txt_same (rfl : qs[k] = qs[k])
      go_wp2
      go_quiet (fail)
      go_wp2
      go_roundw
      case rel => exact ⟨k + 1, n + nq, by omega, by go_num, by first | rfl | rw [World.drewN_drewN]⟩
      case measure => simp [intOf]; omega
    · obtain rfl : k = qs.length := by omega
      go_wp2
      go_ret
      exact ⟨rfl, n, rfl⟩
theorem same_two {U w' : World} {k m c : Nat} {o : Obj} (hz : k < U.heap.size ∧ U.cell? ⟨k, 0, none⟩ = some (.string (bs [100])) ∧ U.cell? ⟨k, 1, none⟩ = some (.string (bs [122]))) (ho : o = .cells #[.string ⟨#[100]⟩, .string ⟨#[122]⟩] 9 (0, 0)) (hw : w' = U.alloc o) (hm : m = U.heap.size) :
    Calls Tryd.prog 18 #[.slice (some ⟨k, 0, none⟩) 2 c, .slice (some ⟨m, 0, none⟩) 2 2] w' fun e w'' => e = .returned (.bool true) ∧ ∃ n, w'' = w'.drewN n := by
  subst ho hw hm
  have hn := heap_alloc_new U (.cells #[.string ⟨#[100]⟩, .string ⟨#[122]⟩] 9 (0, 0))
  exact same_row (some ⟨k, 0, none⟩) (some ⟨U.heap.size, 0, none⟩) c 2 2 2 [[100], [122]] _ (row_two (by simp; omega) (old1 hz.2.1) (old1 hz.2.2)) (row_two (by simp) ((cell_of_row _ _ 0 _ _ _ hn).trans rfl) ((cell_of_row _ _ 1 _ _ _ hn).trans rfl)) (by decide)

end

end Go.Proofs.YtfghoceigofoiaaDoor.T
