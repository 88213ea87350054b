/-
  TreeDirs: the law's walk.
-/
import Derived.Test.YtfghoceigofoiaaDoorTDirsMem
import Derived.Test.YtfghoceigofoiaaDoorQueArr
namespace Go.Proofs.YtfghoceigofoiaaDoor.T
open Go.ChangeShapes Go.WideShapes Go.ChangeAt Go.RowKit
open Go.Proofs.YtfghoceigofoiaaDoor.N (bs bs_data bs_size bs_inj)
open Go.Proofs.YtfghoceigofoiaaDoor.A (Tm TRow)
open Go.Proofs.YtfghoceigofoiaaDoor.W (NumsIn)

@[reducible] def four (gd cd gi ci gu cu gg cg n : Nat) (I U : Nat → Int) (G : Nat → Bool) : List Rx := [⟨gd, cd, 3, irow (fun k => (k : Int)) n⟩, ⟨gi, ci, 3, irow I n⟩, ⟨gu, cu, 3, irow U n⟩, ⟨gg, cg, 4, brow G n⟩]

def Outer (w1 : World) (L : Nat) (s4 s5 s6 s7 s8 : Value) (W : World) : Prop :=
  ∃ i n gd cd gi ci gu cu gg cg I U G F st c, i ≤ L ∧ s8 = .int .i64 (i : Nat) ∧ s4 = .slice (some ⟨gd, 0, none⟩) n cd ∧ s5 = .slice (some ⟨gi, 0, none⟩) n ci ∧ s6 = .slice (some ⟨gu, 0, none⟩) n cu ∧ s7 = .slice (some ⟨gg, 0, none⟩) n cg ∧ c ≤ 10 * i ∧ Inv st i n I U G ∧ DM w1 W w1.heap.size c F st (four gd cd gi ci gu cu gg cg n I U G)

theorem rngn {k n : Nat} (hk : k < n) (hn : n ≤ 100) : rng (k : Int) := ⟨by omega, by omega⟩
/-- the names, in a row that is none of the tree's -/
def NmAt (B : Nat) (W : World) (a : Option Addr) (qs : List Txt) : Prop :=
  qs ≠ [] → ∃ blk, a = some ⟨blk, 0, none⟩ ∧ B ≤ blk ∧ blk < W.heap.size ∧ ∀ j (h : j < qs.length), W.cell? ⟨blk, j, none⟩ = some (.string (bs qs[j]))

def kOf (st : St) (d : Int) (s : Txt) : Nat :=
  match st.P (d, s) with
  | some g => match st.N g with
    | some x => x.br.dir.toNat
    | none => 0
  | none => 0
theorem Inv.kOf {st : St} {i n : Nat} {I U : Nat → Int} {G : Nat → Bool} (h : Inv st i n I U G) {d : Int} {s : Txt} (hs : (st.P (d, s)).isSome = true) : ∃ g, st.P (d, s) = some g ∧ st.N g = some (dnode (T.kOf st d s) d s) ∧ T.kOf st d s < n := by
  obtain ⟨g, hg⟩ := Option.isSome_iff_exists.1 hs
  obtain ⟨k, _, h2, _, _, h5, _⟩ := h.pl d s g hg
  have e : T.kOf st d s = k := by simp [T.kOf, hg, h5]
  rw [e]
  exact ⟨g, hg, h5, h2⟩
theorem Inv.few {st : St} {i n : Nat} {I U : Nat → Int} {G : Nat → Bool} (h : Inv st i n I U G) {d : Int} {qs : List Txt} (hn : qs.Nodup) (hs : ∀ s ∈ qs, (st.P (d, s)).isSome = true) : qs.length ≤ n := by
  have h1 : (qs.map (T.kOf st d)).Nodup := by
    rw [List.Nodup, List.pairwise_map]
    refine List.Pairwise.imp_of_mem ?_ hn
    intro a b ha hb hne e
    obtain ⟨g, p1, p2, _⟩ := h.kOf (hs a ha)
    obtain ⟨g', r1, r2, _⟩ := h.kOf (hs b hb)
    rw [← e] at r2
    exact hne (Prod.mk.inj (h.un d a g d b g' _ p1 r1 p2 r2)).2
  have h2 := nodup_lt n _ h1 (fun k hk => by
    obtain ⟨s, hs', rfl⟩ := List.mem_map.1 hk
    obtain ⟨_, _, _, h3⟩ := h.kOf (hs s hs')
    exact h3)
  simpa using h2
theorem DM.names {w1 V : World} {b c : Nat} {F : Nat → Prop} {st : St} {R : List Rx} (hD : DM w1 V b c F st R) {i n : Nat} {I U : Nat → Int} {G : Nat → Bool} (h : Inv st i n I U G) {p : Nat} (hp : p < n) (hn : n ≤ 100) (hc : c < 100000) :
    Calls Tryd.prog 19 #[TP b, .int .i64 (p : Int)] V fun e w' => ∃ a cp qs, e = .returned (.slice a qs.length cp) ∧ NmAt V.heap.size w' a qs ∧ Below V.heap.size V w' ∧ qs.length ≤ 100 ∧ ∀ s ∈ qs, s.length ≤ maxLen := by
  by_cases hz : (st.Z p).getD 0 = 0
  · refine (names_none hD.ty.tree (rngn hp hn) hz).mono fun e w' h1 => ?_
    obtain ⟨e1, rfl⟩ := h1
    exact ⟨none, 0, [], e1, fun h => absurd rfl h, Below.refl _ _, by simp, by simp⟩
  · refine (names_at hD.ty.tree (rngn hp hn) hz hc).mono fun e w' h1 => ?_
    obtain ⟨a, cp, qs, e1, hg, hb, n1, _, n3, n4⟩ := h1
    refine ⟨a, cp, qs, e1, fun hne => ?_, hb, ?_, n3⟩
    · obtain ⟨blk, r1, r2, r3, r4⟩ := hg hne
      exact ⟨blk, r1, r2, r3, fun j hj => (r4 j hj).1⟩
    · have := h.few n1 (fun s hs => (n4 s (n3 s hs)).1 hs)
      omega

theorem NmAt.below {B : Nat} {W W' : World} {a : Option Addr} {qs : List Txt} (h : NmAt B W a qs) (hb : Below W.heap.size W W') : NmAt B W' a qs := fun hne => by
  obtain ⟨blk, e, h1, h2, h3⟩ := h hne
  exact ⟨blk, e, h1, Nat.lt_of_lt_of_le h2 hb.size, fun j hj => (hb.cell (p := ⟨blk, j, none⟩) h2).trans (h3 j hj)⟩
theorem cell_of_block {W W' : World} {k : Nat} (h : W'.heap[k]? = W.heap[k]?) (j : Nat) : W'.cell? ⟨k, j, none⟩ = W.cell? ⟨k, j, none⟩ := by simp only [World.cell?, h]
theorem NmAt.went {B : Nat} {F F' : Nat → Prop} {W W' : World} {a : Option Addr} {qs : List Txt} (h : NmAt B W a qs) (hw : Went F W F' W') (hF : ∀ i, F i → i < B) : NmAt B W' a qs := fun hne => by
  obtain ⟨blk, e, h1, h2, h3⟩ := h hne
  exact ⟨blk, e, h1, Nat.lt_of_lt_of_le h2 hw.size, fun j hj => (cell_of_block (hw.block blk h2 (fun hf => by have := hF _ hf; omega)) j).trans (h3 j hj)⟩
theorem NmAt.set {B : Nat} {W : World} {a : Option Addr} {qs : List Txt} (h : NmAt B W a qs) {g i : Nat} {v : Value} (hg : g < B) : NmAt B (W.setCell ⟨g, i, none⟩ v) a qs := fun hne => by
  obtain ⟨blk, e, h1, h2, h3⟩ := h hne
  exact ⟨blk, e, h1, by simpa using h2, fun j hj => (cell_of_block (other_set i v (show blk ≠ g by omega)) j).trans (h3 j hj)⟩

def Inner (w1 : World) (i n gd cd gi ci gu cu gg cg k B : Nat) (U : Nat → Int) (F : Nat → Prop) (a : Option Addr) (qs : List Txt) (s14 : Value) (W : World) : Prop :=
  ∃ j I G st c, j ≤ qs.length ∧ s14 = .int .i64 (j : Nat) ∧ c ≤ 10 * i + 3 ∧ (G k = false → c ≤ 10 * i) ∧ Inv st i n I U G ∧ DM w1 W w1.heap.size c F st (four gd cd gi ci gu cu gg cg n I U G) ∧ NmAt B W a qs

theorem dirs3 {w1 W : World} {b c : Nat} {F : Nat → Prop} {st : St} {gd cd gi ci gu cu gg cg n B : Nat} {I U : Nat → Int} {G : Nat → Bool} (h : DM w1 W b c F st (four gd cd gi ci gu cu gg cg n I U G)) {blk : Nat} {qs : List Txt} (hm : NmAt B W (some ⟨blk, 0, none⟩) qs) {k p j : Nat} (hk : k < n) (hp : p < n) (hu : U k = p) (hj : j < qs.length) :
    W.cell? ⟨gu, k, none⟩ = some (.int .i64 (p : Int)) ∧ W.cell? ⟨gd, p, none⟩ = some (.int .i64 (p : Int)) ∧ W.cell? ⟨blk, j, none⟩ = some (.string (bs qs[j])) := by
  refine ⟨?_, ?_, ?_⟩
  · have := h.cell (r := ⟨gu, cu, 3, irow U n⟩) (by simp) (irow_get hk)
    rw [hu] at this
    exact this
  · exact h.cell (r := ⟨gd, cd, 3, irow (fun k => (k : Int)) n⟩) (by simp) (irow_get hp)
  · obtain ⟨blk', e, _, _, h3⟩ := hm (fun e => by rw [e] at hj; simp at hj)
    cases e
    exact h3 j hj

theorem al3 {V : World} {a b c i j k : Nat} {x y z : Value} {o : Obj} (h : V.cell? ⟨a, i, none⟩ = some x ∧ V.cell? ⟨b, j, none⟩ = some y ∧ V.cell? ⟨c, k, none⟩ = some z) : (V.alloc o).cell? ⟨a, i, none⟩ = some x ∧ (V.alloc o).cell? ⟨b, j, none⟩ = some y ∧ (V.alloc o).cell? ⟨c, k, none⟩ = some z := ⟨old1 h.1, old1 h.2.1, old1 h.2.2⟩

/-- a boxed branch, spelt out, and one stored whole -/
@[reducible] def BxO (k u d : Int) (l : List UInt8) (va : Value) : Obj := .cells #[.int .i64 k, .int .i64 u, .int .i64 d, .string ⟨l.toArray⟩, .bool false, va, .int .i64 0, .int .i64 0, .int .i64 0, .int .i64 0] 29 (0, 0)
@[reducible] def BxV (k u d : Int) (l : List UInt8) (va : Value) : Value := .agg #[.int .i64 k, .int .i64 u, .int .i64 d, .string ⟨l.toArray⟩, .bool false, va, .int .i64 0, .int .i64 0, .int .i64 0, .int .i64 0]
@[reducible] def setBx (w : World) (b : Nat) (k u d : Int) (l : List UInt8) (va : Value) : World :=
  (((((((((w.setCell ⟨b, 0, none⟩ (.int .i64 k)).setCell ⟨b, 1, none⟩ (.int .i64 u)).setCell ⟨b, 2, none⟩ (.int .i64 d)).setCell ⟨b, 3, none⟩ (.string ⟨l.toArray⟩)).setCell ⟨b, 4, none⟩ (.bool false)).setCell ⟨b, 5, none⟩ va).setCell ⟨b, 6, none⟩ (.int .i64 0)).setCell ⟨b, 7, none⟩ (.int .i64 0)).setCell ⟨b, 8, none⟩ (.int .i64 0)).setCell ⟨b, 9, none⟩ (.int .i64 0)
theorem look_no' {w : World} {b : Nat} {F : Nat → Prop} {c : Nat} {st : St} (h : TreeAt w b F c st) {d : Int} {s : Txt} (hd : rng d) (hs : s.length ≤ maxLen) (hP : st.P (d, s) = none) :
    Calls Tryd.prog 16 #[TP b, .int .i64 d, .string (bs s)] w fun e w' => e = .returned (.tuple #[BxV 0 0 0 [] (.slice none 0 0), .bool false]) ∧ Below w.heap.size w w' := look_no h hd hs hP
theorem cells_lit {V : World} {k : Nat} (h : BrAt V k noBr (.slice none 0 0)) : V.cell? ⟨k, 0, none⟩ = some (.int .i64 0) ∧ V.cell? ⟨k, 1, none⟩ = some (.int .i64 0) ∧ V.cell? ⟨k, 2, none⟩ = some (.int .i64 0) ∧ V.cell? ⟨k, 3, none⟩ = some (.string ⟨#[]⟩) ∧ V.cell? ⟨k, 4, none⟩ = some (.bool false) ∧ V.cell? ⟨k, 5, none⟩ = some (.slice none 0 0) ∧ V.cell? ⟨k, 6, none⟩ = some (.int .i64 0) ∧ V.cell? ⟨k, 7, none⟩ = some (.int .i64 0) ∧ V.cell? ⟨k, 8, none⟩ = some (.int .i64 0) ∧ V.cell? ⟨k, 9, none⟩ = some (.int .i64 0) := BrAt.cell (b := noBr) h
theorem look_yes' {w : World} {b : Nat} {F : Nat → Prop} {c : Nat} {st : St} (h : TreeAt w b F c st) {d : Int} {s : Txt} (hd : rng d) (hs : s.length ≤ maxLen) {g k : Nat} (hP : st.P (d, s) = some g) (hN : st.N g = some (dnode k d s)) :
    Calls Tryd.prog 16 #[TP b, .int .i64 d, .string (bs s)] w fun e w' => ∃ a' c', e = .returned (.tuple #[BxV 2 0 k [] (.slice a' 0 c'), .bool true]) ∧ Below w.heap.size w w' :=
  (look_yes h hd hs hP hN).mono fun e w' hp => by
    obtain ⟨a', c', e1, _, hb⟩ := hp
    exact ⟨a', c', e1, hb⟩
theorem del_busy' {w : World} {b : Nat} {F : Nat → Prop} {c : Nat} {st : St} (h : TreeAt w b F c st) {d : Int} {s : Txt} (hd : rng d) (hs : s.length ≤ maxLen) {g k : Nat} (hP : st.P (d, s) = some g) (hN : st.N g = some (dnode k d s)) (hz : 0 < (st.Z (k : Int)).getD 0) :
    Calls Tryd.prog 11 #[TP b, .int .i64 d, .string (bs s)] w fun e w' => e = .returned (.tuple #[BxV 0 0 0 [] (.slice none 0 0), .int .i64 16]) ∧ Below w.heap.size w w' := del_busy h hd hs hP hN rfl hz
theorem del_dir' {w : World} {b : Nat} {F : Nat → Prop} {c : Nat} {st : St} (h : TreeAt w b F c st) {d : Int} {s : Txt} (hd : rng d) (hs : s.length ≤ maxLen) {g k : Nat} (hP : st.P (d, s) = some g) (hN : st.N g = some (dnode k d s)) (hz : (st.Z (k : Int)).getD 0 ≤ 0) (hc : c < 10000) :
    Calls Tryd.prog 11 #[TP b, .int .i64 d, .string (bs s)] w fun e w' => ∃ a' c', e = .returned (.tuple #[BxV 2 0 k [] (.slice a' 0 c'), .int .i64 0]) ∧ TreeAt w' b F (c + 3) (unbindAll d [s] { st with Z := upd st.Z (k : Int) none }) ∧ Went F w F w' := del_dir h hd hs hP hN rfl hz hc
theorem len_is {w0 V : World} {b c : Nat} {F : Nat → Prop} {st : St} {R : List Rx} (h : DM w0 V b c F st R) {d n : Int} (hd : rng d) (hn : (st.Z d).getD 0 = n) :
    Calls Tryd.prog 20 #[TP b, .int .i64 d] V fun e w' => e = .returned (.int .i64 n) ∧ w' = V := (len_at h.ty.tree hd hn).mono fun _ _ hp => ⟨hp.1, hp.2.symm⟩
theorem DM.setOut {w0 V : World} {b c : Nat} {F : Nat → Prop} {st : St} {R : List Rx} (h : DM w0 V b c F st R) {k : Nat} (hF : ¬ F k) (hR : ∀ r ∈ R, r.g ≠ k) (hk : w0.heap.size ≤ k) (i : Nat) (v : Value) : DM w0 (V.setCell ⟨k, i, none⟩ v) b c F st R :=
  ⟨h.ty.set hF hk, fun r hr => by
    obtain ⟨h1, h2, h3⟩ := h.row r hr
    exact ⟨row_of h1 (fun j e => by obtain rfl : r.g = j := Option.some.inj e; exact other_set i v (hR r hr)), h2, h3⟩, h.ne⟩
theorem DM.setBr {w0 V : World} {b c : Nat} {F : Nat → Prop} {st : St} {R : List Rx} (h : DM w0 V b c F st R) {k : Nat} (hF : ¬ F k) (hR : ∀ r ∈ R, r.g ≠ k) (hk : w0.heap.size ≤ k) (B : Br) (va : Value) : DM w0 (T.setBr V k B va) b c F st R :=
  (((((((((h.setOut hF hR hk _ _).setOut hF hR hk _ _).setOut hF hR hk _ _).setOut hF hR hk _ _).setOut hF hR hk _ _).setOut hF hR hk _ _).setOut hF hR hk _ _).setOut hF hR hk _ _).setOut hF hR hk _ _).setOut hF hR hk _ _
theorem setBr_other {V : World} {k j : Nat} (B : Br) (va : Value) (h : j ≠ k) : (setBr V k B va).heap[j]? = V.heap[j]? := by
  simp only [setBr]
  rw [other_set _ _ h, other_set _ _ h, other_set _ _ h, other_set _ _ h, other_set _ _ h, other_set _ _ h, other_set _ _ h, other_set _ _ h, other_set _ _ h, other_set _ _ h]
theorem NmAt.setBr {B : Nat} {W : World} {blk : Nat} {qs : List Txt} (h : NmAt B W (some ⟨blk, 0, none⟩) qs) {k : Nat} (hk : blk ≠ k) (br : Br) (va : Value) : NmAt B (T.setBr W k br va) (some ⟨blk, 0, none⟩) qs := fun hne => by
  obtain ⟨blk', e, h1, h2, h3⟩ := h hne
  cases e
  exact ⟨blk, rfl, h1, by simpa [T.setBr] using h2, fun j hj => (cell_of_block (setBr_other br va hk) j).trans (h3 j hj)⟩
theorem sb3 {V : World} {a b c i j l k : Nat} {x y z : Value} (h : V.cell? ⟨a, i, none⟩ = some x ∧ V.cell? ⟨b, j, none⟩ = some y ∧ V.cell? ⟨c, l, none⟩ = some z) (ha : a ≠ k) (hb : b ≠ k) (hc : c ≠ k) (kd u d : Int) (t : List UInt8) (va : Value) : (setBx V k kd u d t va).cell? ⟨a, i, none⟩ = some x ∧ (setBx V k kd u d t va).cell? ⟨b, j, none⟩ = some y ∧ (setBx V k kd u d t va).cell? ⟨c, l, none⟩ = some z :=
  let B : Br := ⟨kd, u, d, t, false, [], 0, 0, 0, 0⟩
  ⟨(cell_of_block (setBr_other B va ha) i).trans h.1, (cell_of_block (setBr_other B va hb) j).trans h.2.1, (cell_of_block (setBr_other B va hc) l).trans h.2.2⟩
/-- behind a look, or a deletion: what it gave lies in a box -/
def BoxCut (w1 : World) (b c : Nat) (F : Nat → Prop) (st : St) (R : List Rx) (B : Nat) (a : Option Addr) (qs : List Txt) (dir : Int) (r : Value) (s15 s16 : Value) (W : World) : Prop :=
  ∃ kb, s15 = .pointer (some ⟨kb, 0, none⟩) ∧ s16 = r ∧ kb < W.heap.size ∧ W.cell? ⟨kb, 2, none⟩ = some (.int .i64 dir) ∧ DM w1 W b c F st R ∧ NmAt B W a qs
theorem cut_new {w1 V : World} {b c : Nat} {F : Nat → Prop} {st : St} {R : List Rx} {B : Nat} {a : Option Addr} {qs : List Txt} (hD : DM w1 V b c F st R) (hM : NmAt B V a qs) (br : Br) (va r : Value) : BoxCut w1 b c F st R B a qs br.dir r (.pointer (some ⟨V.heap.size, 0, none⟩)) r (V.alloc (BrO br va)) :=
  ⟨V.heap.size, rfl, rfl, by simp, (BrAt.new V br va).cell.2.2.1, hD.alloc _, hM.below (one_new _ _)⟩
theorem cut_set {w1 V : World} {b c : Nat} {F : Nat → Prop} {st : St} {R : List Rx} {B : Nat} {blk k : Nat} {qs : List Txt} (hD : DM w1 V b c F st R) (hM : NmAt B V (some ⟨blk, 0, none⟩) qs) {b0 : Br} {v0 : Value} (hB : BrAt V k b0 v0) (hF : ¬ F k) (hR : ∀ r ∈ R, r.g ≠ k) (hk : w1.heap.size ≤ k) (hb : blk ≠ k) (br : Br) (va r : Value) :
    BoxCut w1 b c F st R B (some ⟨blk, 0, none⟩) qs br.dir r (.pointer (some ⟨k, 0, none⟩)) r (setBr V k br va) :=
  ⟨k, rfl, rfl, by simpa [setBr] using hB.lt, (hB.stored br va).cell.2.2.1, hD.setBr hF hR hk br va, hM.setBr hb br va⟩

theorem out_of {w0 V : World} {b c : Nat} {F : Nat → Prop} {st : St} {R : List Rx} (h : DM w0 V b c F st R) {blk : Nat} (hb : blk < V.heap.size) : ¬ F V.heap.size ∧ (∀ r ∈ R, r.g ≠ V.heap.size) ∧ w0.heap.size ≤ V.heap.size ∧ blk ≠ V.heap.size :=
  ⟨h.ty.new (Nat.le_refl _), fun r hr => Nat.ne_of_lt (Rx.lt (h.row r hr).1), h.ty.bel.size, by omega⟩

theorem dm_start {w1 w2 : World} (h2 : TreeAt w2 w1.heap.size (fun i => i = w1.heap.size) 0 noSt) (b2 : Below w1.heap.size w1 w2) : DM w1 w2 w1.heap.size 0 (fun i => i = w1.heap.size) noSt [] :=
  ⟨⟨h2, b2, fun i hi => Nat.le_of_eq hi.symm⟩, fun r hr => (by cases hr), List.Pairwise.nil⟩

theorem u8_of {zs : List Int} (h : ∀ n ∈ zs, (Lit.int .u8 n).wf = true) {k : Nat} (hk : k < zs.length) : 0 ≤ zs.getD k 0 ∧ zs.getD k 0 < 256 := by
  have h1 := h (zs.getD k 0) (by simp [List.getD, hk])
  have h2 : (IntKind.u8.min ≤ zs.getD k 0 ∧ zs.getD k 0 ≤ IntKind.u8.max) := by simpa [Lit.wf] using h1
  have e1 : IntKind.u8.min = 0 := rfl
  have e2 : IntKind.u8.max = 255 := rfl
  omega
theorem TreeAt.node_lt2 {V : World} {b : Nat} {F : Nat → Prop} {c : Nat} {st : St} (h : TreeAt V b F c st) {g : Nat} {x : Nd} (hg : st.N g = some x) : g < V.heap.size := by
  obtain ⟨_, _, _, _, _, h⟩ := h
  exact (h.node g x hg).lt
theorem cell_one_at (w : World) (x : Value) (t : TypeId) {m : Nat} (hm : w.heap.size = m) : ∀ j u, [x][j]? = some u → (w.alloc (.cells #[x] t)).cell? ((⟨m, 0, none⟩ : Addr).add j) = some u := by
  subst hm
  exact cell_one_new w x t
theorem conv_two {i : Nat} (hi : i < 100) (w : World) : (convert 58 9 (.slice (some ⟨w.heap.size, 0, none⟩) 2 2)).run Tryd.prog (w.alloc (.cells #[.int .u8 (48 + (i : Int) / 10), .int .u8 (48 + (i : Int) % 10)] 5)) = .ok (.string (bs (dg i))) (w.alloc (.cells #[.int .u8 (48 + (i : Int) / 10), .int .u8 (48 + (i : Int) % 10)] 5)) := by
  refine run_convert_bytes_back _ 58 9 5 ⟨w.heap.size, 0, none⟩ 2 (dg i) Tryd.underlying58 Tryd.underlying5 Tryd.underlying9 (fun j hj => ?_)
  match j, hj with
  | 0, _ => simp [Addr.add, dg, UInt8.toNat_ofNat']; omega
  | 1, _ => simp [Addr.add, dg, UInt8.toNat_ofNat']; omega
theorem cat_nm (i : Nat) : (⟨#[110]⟩ : ByteArray) ++ bs (dg i) = bs (nm i) := by
  apply ByteArray.ext
  simp [bs, nm, dg]
theorem dg_size (i : Nat) : (bs (dg i)).size = 2 := rfl

set_option maxRecDepth 8000 in
set_option maxHeartbeats 20000000 in
theorem dirs_walk (w : World) (a : Option Addr) (len cap : Nat) (zs : List Int) (hz : zs.length = len * 2) (hN : NumsIn .u8 w a zs) (hwf : ∀ n ∈ zs, (Lit.int .u8 n).wf = true) :
    Calls Tryd.prog 5 #[.slice a len cap] w fun e w' => e = .returned (.bool true) ∧ Below w.heap.size w w' := by
  have HZ := Lib.hid hz
  have HN := Lib.hid hN
  have HW := Lib.hid hwf
  clear hz hN hwf
  by_cases h60 : 60 < len
  · have e60 : decide (60 < (len : Int)) = true := by simp; omega
    clear h60
    as_aux_lemma =>
    go_enter Tryd.func5, Tryd.ntmps5
    go_wp2_with (first
      | (go_at_call 8; ((refine (awake_any _).mono ?_); rintro e w1 ⟨rfl, b1⟩; have L1 := Lib.hid b1; clear b1))
      | (go_at_call 9; ((refine (new_at w1).mono ?_); rintro e w2 ⟨rfl, h2, b2, sz2⟩; have L2 := Lib.hid b2; clear h2 b2)))
    go_ret
    exact ⟨rfl, L1.out.trans (L2.out.mono L1.out.size)⟩
  have e60 : decide (60 < (len : Int)) = false := by simp; omega
  go_enter Tryd.func5, Tryd.ntmps5
  go_wp2_with (first
    | (go_at_call 8; ((refine (awake_any _).mono ?_); rintro e w1 ⟨rfl, b1⟩; have L1 := Lib.hid b1; clear b1))
    | (go_at_call 9; ((refine (new_at w1).mono ?_); rintro e w2 ⟨rfl, h2, b2, sz2⟩; have D2 := Lib.hid ((((dm_start h2 b2).push #[.int .i64 0] 3 (by decide)).push #[.int .i64 0] 3 (by decide)).push #[.int .i64 (-1)] 3 (by decide)); clear h2 b2)))
  have D3 := Lib.hid (D2.out.push #[.bool false] 4 (by decide))
  clear e60 D2
  go_loopw [4, 5, 6, 7, 8] (fun s4 s5 s6 s7 s8 W => Outer w1 len s4 s5 s6 s7 s8 W) (fun _ _ _ _ i _ => len - (intOf i).toNat)
  case atStart =>
    refine ⟨0, 1, w2.heap.size, 1, w2.heap.size + 1, 1, w2.heap.size + 1 + 1, 1, w2.heap.size + 1 + 1 + 1, 1, _, _, _, (fun i => i = w1.heap.size), noSt, 0, Nat.zero_le _, rfl, rfl, rfl, rfl, rfl, Nat.le_refl _, inv_start, ?_⟩
    have := D3.out
    simpa [four, irow, brow] using this
  case round =>
    obtain ⟨i, n, gd, cd, gi, ci, gu, cu, gg, cg, I, U, G, F, st, c, hi, rfl, rfl, rfl, rfl, rfl, hc, hI, hD⟩ := hrel
    by_cases hlt : i < len
    · obtain ⟨bk, o, rfl, hcl⟩ := HN.out (by rw [HZ.out]; omega)
      have hb0 : Below w.heap.size w wr := L1.out.trans (hD.ty.bel.mono L1.out.size)
      have q0 := hcl (i * 2) (by rw [HZ.out]; omega)
      have q1 := hcl (i * 2 + 1) (by rw [HZ.out]; omega)
      replace q0 := (hb0.cell (p := ⟨bk, o + i * 2, none⟩) (cell_lt q0)).trans q0
      replace q1 := (hb0.cell (p := ⟨bk, o + (i * 2 + 1), none⟩) (cell_lt q1)).trans q1
      obtain ⟨z0l, z0h⟩ := u8_of HW.out (show i * 2 < zs.length by rw [HZ.out]; omega)
      obtain ⟨z1l, z1h⟩ := u8_of HW.out (show i * 2 + 1 < zs.length by rw [HZ.out]; omega)
      generalize zs.getD (i * 2) 0 = z0 at q0 z0l z0h
      generalize zs.getD (i * 2 + 1) 0 = z1 at q1 z1l z1h
      rw [← Nat.add_assoc] at q1
      have hnp := hI.pos
      have hnl := hI.le
      have HI := Lib.hid hI
      have HD := Lib.hid hD
      have HB := Lib.hid hb0
      clear hI hD hb0 D3 hcl HN
      have hbk := cell_lt q0
      have cv := fun V => conv_two (i := i) (by omega) V
      have ct := cat_nm i
      have csz := dg_size i
      obtain ⟨k, hk, ek⟩ : ∃ k : Nat, k < n ∧ z0 % (n : Int) = (k : Int) := ⟨(z0 % (n : Int)).toNat, by have := Int.emod_lt_of_pos z0 (show (0 : Int) < n by omega); have := Int.emod_nonneg z0 (show (n : Int) ≠ 0 by omega); omega, by have := Int.emod_nonneg z0 (show (n : Int) ≠ 0 by omega); omega⟩
      have hgd := HD.out.lt (r := ⟨gd, cd, 3, irow (fun k => (k : Int)) n⟩) (by simp)
      have hgg := HD.out.lt (r := ⟨gg, cg, 4, brow G n⟩) (by simp)
      have hgu := HD.out.lt (r := ⟨gu, cu, 3, irow U n⟩) (by simp)
      have kd := HD.out.cell (r := ⟨gd, cd, 3, irow (fun k => (k : Int)) n⟩) (by simp) (irow_get hk)
      have kg := HD.out.cell (r := ⟨gg, cg, 4, brow G n⟩) (by simp) (brow_get hk)
      have ku := HD.out.cell (r := ⟨gu, cu, 3, irow U n⟩) (by simp) (irow_get hk)
      have hIk : 0 ≤ I k ∧ I k ≤ n := by rw [HI.out.ct k hk]; exact ⟨cnt_nonneg _ _ _ _, cnt_le _ _ _ _⟩
      obtain ⟨hIk0, hIk1⟩ := hIk
      cases hz3 : (bits BinOp.and IntKind.u8 z1 3 != 0) with
      | true =>
        cases hG : G k with
        | true =>
          rw [hG] at kg
          have HG := Lib.hid hG
          clear hG
          as_aux_lemma =>
          go_wp2_with (go_at_call 10; ((refine (add_no (HD.out.alloc _).ty.tree (d := k) (s := nm i) (rngn hk (by omega)) (nm_short i) (HI.out.nofree hk HG.out (nm i)) (by decide) (br := dirIn) (a := none) (n := 0) (cc := 0)).mono ?_); rintro e w3 ⟨rfl, b3⟩; have D3 := Lib.hid ((HD.out.alloc _).below b3); clear b3; have kg3 := D3.out.cell (r := ⟨gg, cg, 4, brow G n⟩) (by simp) (brow_get hk); rw [HG.out] at kg3))
          go_roundw
          case rel => exact ⟨i + 1, n, gd, cd, gi, ci, gu, cu, gg, cg, I, U, G, F, st, c, by omega, by go_num, rfl, rfl, rfl, rfl, by omega, HI.out.more, D3.out⟩
          case measure => simp [intOf]; omega
        | false =>
          rw [hG] at kg
          have HG := Lib.hid hG
          clear hG
          obtain ⟨i0, hi0, hz0, hz1, hz2⟩ := info_parts info_int
          obtain ⟨j0, hj0, hy0, hy1, hy2⟩ := info_parts info_bool
          as_aux_lemma =>
          go_wp2_with (first
            | (go_at_call 10; ((refine (add_dir_is (HD.out.alloc _).ty.tree (d := k) (s := nm i) (rngn hk (by omega)) (nm_short i) (HI.out.free (by omega) hk HG.out) (l := n) HI.out.last (by omega)).mono ?_); rintro e w3 ⟨rfl, F3, g3, hg3, t3, x3⟩; have I3 := Lib.hid (HI.out.add hk HG.out (g := g3) (fun g' x hx e => by have := HD.out.ty.tree.node_lt2 hx; simp at hg3; omega)); have D3 := Lib.hid ((HD.out.alloc _).went t3 x3); clear t3 x3 hg3; have kg3 := D3.out.cell (r := ⟨gg, cg, 4, brow G n⟩) (by simp) (brow_get hk); rw [HG.out] at kg3; have ki3 := D3.out.cell (r := ⟨gi, ci, 3, irow I n⟩) (by simp) (irow_get hk); have kf3 := D3.out.fz (r := ⟨gi, ci, 3, irow I n⟩) (by simp) k; have kl3 := D3.out.lt (r := ⟨gi, ci, 3, irow I n⟩) (by simp); have h3s := D3.out.set (R1 := [⟨gd, cd, 3, irow (fun k => (k : Int)) n⟩]) (R2 := [⟨gu, cu, 3, irow U n⟩, ⟨gg, cg, 4, brow G n⟩]) (r := ⟨gi, ci, 3, irow I n⟩) k (.int .i64 (I k + 1)); simp only [irow_set] at h3s; have D3s := Lib.hid h3s; clear h3s))
            | (at_builtin; refine wpList_append_own_at _ rfl (.tmp 96) (.tmp 98) 55 rfl 0 3 i0 _ 1 8 Tryd.underlying55 hi0 hz0 hz1 hz2 rfl (by decide) _ n (irow (fun k => (k : Int)) n) rfl ((D3s.out.alloc _).own (r := ⟨gd, cd, 3, irow (fun k => (k : Int)) n⟩) (by simp) (irow_len _ _)) ⟨w3.heap.size, 0, none⟩ 1 1 [.int .i64 (n : Int)] rfl rfl (cell_one_at _ _ _ (by simp)) (by simp [Value.oneCell']) (by unfold maxLen; omega) (by omega) (Nat.zero_le _) ?_; intro v' w4 h1 h2 _ h4; have h5 := (D3s.out.alloc _).app (R1 := []) (R2 := [⟨gi, ci, 3, irow (upd I k (I k + 1)) n⟩, ⟨gu, cu, 3, irow U n⟩, ⟨gg, cg, 4, brow G n⟩]) (r := ⟨gd, cd, 3, irow (fun k => (k : Int)) n⟩) (irow_len _ _) h1 h2 h4; obtain ⟨g4, c4, rfl, h6⟩ := h5; rw [irow_id] at h6; have D4 := Lib.hid h6; clear h1 h2 h4 h6)
            | (at_builtin; refine wpList_append_own_at _ rfl (.tmp 100) (.tmp 101) 55 rfl 0 3 i0 _ 1 8 Tryd.underlying55 hi0 hz0 hz1 hz2 rfl (by decide) _ n (irow (upd I k (I k + 1)) n) rfl ((D4.out.alloc _).own (r := ⟨gi, ci, 3, irow (upd I k (I k + 1)) n⟩) (by simp) (irow_len _ _)) ⟨w4.heap.size, 0, none⟩ 1 1 [.int .i64 0] rfl rfl (cell_one_at _ _ _ (by simp)) (by simp [Value.oneCell']) (by unfold maxLen; omega) (by omega) (Nat.zero_le _) ?_; intro v' w5 h1 h2 _ h4; have h5 := (D4.out.alloc _).app (R1 := [⟨g4, c4, 3, irow (fun k => (k : Int)) (n + 1)⟩]) (R2 := [⟨gu, cu, 3, irow U n⟩, ⟨gg, cg, 4, brow G n⟩]) (r := ⟨gi, ci, 3, irow (upd I k (I k + 1)) n⟩) (irow_len _ _) h1 h2 h4; obtain ⟨g5, c5, rfl, h6⟩ := h5; rw [irow_snoc] at h6; have D5 := Lib.hid h6; clear h1 h2 h4 h6)
            | (at_builtin; refine wpList_append_own_at _ rfl (.tmp 103) (.tmp 105) 55 rfl 0 3 i0 _ 1 8 Tryd.underlying55 hi0 hz0 hz1 hz2 rfl (by decide) _ n (irow U n) rfl ((D5.out.alloc _).own (r := ⟨gu, cu, 3, irow U n⟩) (by simp) (irow_len _ _)) ⟨w5.heap.size, 0, none⟩ 1 1 [.int .i64 (k : Int)] rfl rfl (cell_one_at _ _ _ (by simp)) (by simp [Value.oneCell']) (by unfold maxLen; omega) (by omega) (Nat.zero_le _) ?_; intro v' w6 h1 h2 _ h4; have h5 := (D5.out.alloc _).app (R1 := [⟨g4, c4, 3, irow (fun k => (k : Int)) (n + 1)⟩, ⟨g5, c5, 3, irow (upd (upd I k (I k + 1)) n 0) (n + 1)⟩]) (R2 := [⟨gg, cg, 4, brow G n⟩]) (r := ⟨gu, cu, 3, irow U n⟩) (irow_len _ _) h1 h2 h4; obtain ⟨g6, c6, rfl, h6⟩ := h5; rw [irow_snoc] at h6; have D6 := Lib.hid h6; clear h1 h2 h4 h6)
            | (at_builtin; refine wpList_append_own_at _ rfl (.tmp 107) (.tmp 108) 56 rfl 0 4 j0 _ 1 1 Tryd.underlying56 hj0 hy0 hy1 hy2 rfl (by decide) _ n (brow G n) rfl ((D6.out.alloc _).own (r := ⟨gg, cg, 4, brow G n⟩) (by simp) (brow_len _ _)) ⟨w6.heap.size, 0, none⟩ 1 1 [.bool false] rfl rfl (cell_one_at _ _ _ (by simp)) (by simp [Value.oneCell']) (by unfold maxLen; omega) (by omega) (Nat.zero_le _) ?_; intro v' w7 h1 h2 _ h4; have h5 := (D6.out.alloc _).app (R1 := [⟨g4, c4, 3, irow (fun k => (k : Int)) (n + 1)⟩, ⟨g5, c5, 3, irow (upd (upd I k (I k + 1)) n 0) (n + 1)⟩, ⟨g6, c6, 3, irow (upd U n k) (n + 1)⟩]) (R2 := []) (r := ⟨gg, cg, 4, brow G n⟩) (brow_len _ _) h1 h2 h4; obtain ⟨g7, c7, rfl, h6⟩ := h5; rw [brow_snoc] at h6; have D7 := Lib.hid h6; clear h1 h2 h4 h6))
          go_roundw
          case rel => exact ⟨i + 1, n + 1, g4, c4, g5, c5, g6, c6, g7, c7, _, _, _, F3, _, c + 5, by omega, by go_num, rfl, rfl, rfl, rfl, by omega, I3.out, D7.out⟩
          case measure => simp [intOf]; omega
      | false =>
        by_cases hk0 : k = 0
        · subst hk0
          have hu := HI.out.u0
          rw [hu] at ku
          as_aux_lemma =>
          go_wp2
          go_roundw
          case rel => exact ⟨i + 1, n, gd, cd, gi, ci, gu, cu, gg, cg, I, U, G, F, st, c, by omega, by go_num, rfl, rfl, rfl, rfl, by omega, HI.out.more, HD.out.alloc _⟩
          case measure => simp [intOf]; omega
        obtain ⟨p, hup, hpk⟩ := HI.out.up k (by omega) hk
        rw [hup] at ku
        have HU := Lib.hid hup
        have ep : decide ((p : Int) < 0) = false := by simp
        clear hup
        cases hG : G k with
        | true =>
          rw [hG] at kg
          clear hG
          as_aux_lemma =>
          go_wp2
          go_roundw
          case rel => exact ⟨i + 1, n, gd, cd, gi, ci, gu, cu, gg, cg, I, U, G, F, st, c, by omega, by go_num, rfl, rfl, rfl, rfl, by omega, HI.out.more, HD.out.alloc _⟩
          case measure => simp [intOf]; omega
        | false =>
          rw [hG] at kg
          have HG := Lib.hid hG
          clear hG
          have kp := HD.out.cell (r := ⟨gd, cd, 3, irow (fun k => (k : Int)) n⟩) (by simp) (irow_get (show p < n by omega))
          go_wp2_with (go_at_call 19; ((refine ((HD.out.alloc _).names HI.out (show p < n by omega) (by omega) (by omega)).mono ?_); rintro e w5 ⟨a5, c5, qs, rfl, m5, b5, l5, t5⟩; have D5 := Lib.hid ((HD.out.alloc _).below b5); have M5 := Lib.hid m5; have T5 := Lib.hid t5; clear m5 b5 t5))
          have HF : Hid (∀ x, F x → x < wr.heap.size + 1) := Lib.hid (fun x hx => by have := HD.out.ty.tree.ltF x hx; omega)
          have hgi := HD.out.lt (r := ⟨gi, ci, 3, irow I n⟩) (by simp)
          have M6 : Hid (NmAt (wr.heap.size + 1) w5 a5 qs) := Lib.hid (by have := M5.out; simpa using this)
          obtain ⟨B0, hB0⟩ : ∃ B, B = wr.heap.size + 1 := ⟨_, rfl⟩
          rw [← hB0] at M6 HF
          clear M5 kd kg ku kp q0 q1 cv ct csz hIk0 hIk1 hbk hz3
          go_loopw [14] (fun s14 W => Inner w1 i n gd cd gi ci gu cu gg cg k B0 U F a5 qs s14 W) (fun j _ => qs.length - (intOf j).toNat)
          case atStart => exact ⟨0, I, G, st, c, Nat.zero_le _, rfl, by omega, fun _ => hc, HI.out, D5.out, M6.out⟩
          case round =>
            obtain ⟨j, I', G', st', c', hj, rfl, hc1, hc2, hI', hD', hM'⟩ := hrel
            by_cases hjl : j < qs.length
            · obtain ⟨blk, rfl, hb1, hb2, hb3⟩ := hM' (fun e => by rw [e] at hjl; simp at hjl)
              have kb := hb3 j hjl
              have kd := hD'.cell (r := ⟨gd, cd, 3, irow (fun k => (k : Int)) n⟩) (by simp) (irow_get hk)
              have kp := hD'.cell (r := ⟨gd, cd, 3, irow (fun k => (k : Int)) n⟩) (by simp) (irow_get (show p < n by omega))
              have ku := hD'.cell (r := ⟨gu, cu, 3, irow U n⟩) (by simp) (irow_get hk)
              rw [HU.out] at ku
              have hql := T5.out _ (List.getElem_mem hjl)
              have hp0 : (0 : Int) ≤ (p : Int) := by omega
              have hpn : (p : Int) < (n : Int) := by omega
              have DD := Lib.hid hD'
              have MM := Lib.hid hM'
              have II := Lib.hid hI'
              clear hD' hM' hI' hb3
              cases hP : st'.P ((p : Int), qs[j]) with
              | none =>
                have HP := Lib.hid hP
                clear hP kb kd kp ku
                go_wp2
                have D7 := Lib.hid DD.out.drew
                have M7 := Lib.hid (MM.out.below (Below.refl _ _).drew)
                have E7 := Lib.hid (DD.out.alloc (BxO 0 0 0 [] (.slice none 0 0))).drew
                have L7 := Lib.hid ((MM.out.below (one_new _ (BxO 0 0 0 [] (.slice none 0 0)))).below (Below.refl _ _).drew)
                have X7 : Hid (BrAt (World.drew (World.alloc wr (BxO 0 0 0 [] (.slice none 0 0)))) wr.heap.size noBr (.slice none 0 0)) := Lib.hid ((BrAt.new wr noBr (.slice none 0 0)).below (Below.refl _ _).drew)
                have k7 := Lib.hid (dirs3 D7.out M7.out hk (show p < n by omega) HU.out hjl)
                have k7a := Lib.hid (dirs3 E7.out L7.out hk (show p < n by omega) HU.out hjl)
                have O7 := Lib.hid (out_of DD.out (show blk < wr.heap.size by omega))
                have n1 : gu ≠ wr.heap.size := Nat.ne_of_lt (DD.out.lt (r := ⟨gu, cu, 3, irow U n⟩) (by simp))
                have n2 : gd ≠ wr.heap.size := Nat.ne_of_lt (DD.out.lt (r := ⟨gd, cd, 3, irow (fun k => (k : Int)) n⟩) (by simp))
                have n3 : blk ≠ wr.heap.size := by omega
                go_cut [15, 16] (fun s15 s16 W => BoxCut w1 w1.heap.size (c') F (st') (four gd cd gi ci gu cu gg cg n I' U G') B0 (some ⟨blk, 0, none⟩) qs 0 (.bool false) s15 s16 W)
                case first =>
                  go_region_held3 (fun V => V.cell? ⟨gu, k, none⟩ = some (.int .i64 (p : Int)) ∧ V.cell? ⟨gd, p, none⟩ = some (.int .i64 (p : Int)) ∧ V.cell? ⟨blk, j, none⟩ = some (.string (bs qs[j])))
                    (first | (with_reducible exact k7.out) | (with_reducible exact k8.out) | (with_reducible exact k7a.out) | (with_reducible exact al3 k8.out) | (with_reducible exact sb3 k8.out n1 n2 n3 0 0 0 [] (.slice none 0 0)))
                    (first
                      | (go_at_call 16; ((with_reducible refine (look_no' D7.out.ty.tree (rngn (show p < n by omega) (by omega)) hql HP.out).mono ?_); rintro e w8 ⟨rfl, b8⟩; have D8 := Lib.hid (D7.out.below b8); have M8 := Lib.hid (M7.out.below b8); have k8 := Lib.hid (dirs3 D8.out M8.out hk (show p < n by omega) HU.out hjl); clear b8))
                      | (go_at_call 16; ((with_reducible refine (look_no' E7.out.ty.tree (rngn (show p < n by omega) (by omega)) hql HP.out).mono ?_); rintro e w8 ⟨rfl, b8⟩; have D8 := Lib.hid (E7.out.below b8); have M8 := Lib.hid (L7.out.below b8); have X8 := Lib.hid (X7.out.below b8); obtain ⟨x0, x1, x2, x3, x4, x5, x6, x7, x8', x9⟩ := cells_lit X8.out; have f8 := X8.out.fz; have l8 := X8.out.lt; have k8 := Lib.hid (dirs3 D8.out M8.out hk (show p < n by omega) HU.out hjl); clear b8)))
                  all_goals
                    go_wp2
                    go_meet
                  all_goals first
                    | exact cut_new D8.out M8.out noBr (.slice none 0 0) (.bool false)
                    | exact cut_set D8.out M8.out X8.out O7.out.1 O7.out.2.1 O7.out.2.2.1 O7.out.2.2.2 noBr (.slice none 0 0) (.bool false)
                case rest =>
                  obtain ⟨kb, rfl, rfl, lkb, ckb, hD9, hM9⟩ := hcut
                  have D9 := Lib.hid hD9
                  have M9 := Lib.hid hM9
                  clear hD9 hM9 D7 M7 E7 L7 X7 k7 k7a O7 n1 n2 n3 DD MM
                  go_wp2
                  go_quiet (fail)
                  go_wp2
                  go_roundw
                  case rel => exact ⟨j + 1, I', G', st', c', by omega, by go_num, hc1, hc2, II.out, D9.out.drewN nq, M9.out.below (bel_drewN _ _)⟩
                  case measure => simp [intOf]; omega
              | some g =>
                obtain ⟨k', hk1, hk2, hk3, hk4, hk5, _⟩ := II.out.pl _ _ _ hP
                have HP := Lib.hid hP
                have HQ := Lib.hid hk5
                have HK := Lib.hid (And.intro hk3 hk4)
                clear hP hk5 hk3 hk4 kb kd kp ku
                go_wp2
                have D7 := Lib.hid DD.out.drew
                have M7 := Lib.hid (MM.out.below (Below.refl _ _).drew)
                have E7 := Lib.hid (DD.out.alloc (BxO 0 0 0 [] (.slice none 0 0))).drew
                have L7 := Lib.hid ((MM.out.below (one_new _ (BxO 0 0 0 [] (.slice none 0 0)))).below (Below.refl _ _).drew)
                have X7 : Hid (BrAt (World.drew (World.alloc wr (BxO 0 0 0 [] (.slice none 0 0)))) wr.heap.size noBr (.slice none 0 0)) := Lib.hid ((BrAt.new wr noBr (.slice none 0 0)).below (Below.refl _ _).drew)
                have k7 := Lib.hid (dirs3 D7.out M7.out hk (show p < n by omega) HU.out hjl)
                have k7a := Lib.hid (dirs3 E7.out L7.out hk (show p < n by omega) HU.out hjl)
                have O7 := Lib.hid (out_of DD.out (show blk < wr.heap.size by omega))
                have n1 : gu ≠ wr.heap.size := Nat.ne_of_lt (DD.out.lt (r := ⟨gu, cu, 3, irow U n⟩) (by simp))
                have n2 : gd ≠ wr.heap.size := Nat.ne_of_lt (DD.out.lt (r := ⟨gd, cd, 3, irow (fun k => (k : Int)) n⟩) (by simp))
                have n3 : blk ≠ wr.heap.size := by omega
                go_cut [15, 16] (fun s15 s16 W => BoxCut w1 w1.heap.size (c') F (st') (four gd cd gi ci gu cu gg cg n I' U G') B0 (some ⟨blk, 0, none⟩) qs (k' : Int) (.bool true) s15 s16 W)
                case first =>
                  go_region_held3 (fun V => V.cell? ⟨gu, k, none⟩ = some (.int .i64 (p : Int)) ∧ V.cell? ⟨gd, p, none⟩ = some (.int .i64 (p : Int)) ∧ V.cell? ⟨blk, j, none⟩ = some (.string (bs qs[j])))
                    (first | (with_reducible exact k7.out) | (with_reducible exact k8.out) | (with_reducible exact k7a.out) | (with_reducible exact al3 k8.out) | (with_reducible exact sb3 k8.out n1 n2 n3 2 0 (k' : Int) [] (.slice a8 0 c8)))
                    (first
                      | (go_at_call 16; ((with_reducible refine (look_yes' D7.out.ty.tree (rngn (show p < n by omega) (by omega)) hql HP.out HQ.out).mono ?_); rintro e w8 ⟨a8, c8, rfl, b8⟩; have D8 := Lib.hid (D7.out.below b8); have M8 := Lib.hid (M7.out.below b8); have k8 := Lib.hid (dirs3 D8.out M8.out hk (show p < n by omega) HU.out hjl); clear b8))
                      | (go_at_call 16; ((with_reducible refine (look_yes' E7.out.ty.tree (rngn (show p < n by omega) (by omega)) hql HP.out HQ.out).mono ?_); rintro e w8 ⟨a8, c8, rfl, b8⟩; have D8 := Lib.hid (E7.out.below b8); have M8 := Lib.hid (L7.out.below b8); have X8 := Lib.hid (X7.out.below b8); obtain ⟨x0, x1, x2, x3, x4, x5, x6, x7, x8', x9⟩ := cells_lit X8.out; have f8 := X8.out.fz; have l8 := X8.out.lt; have k8 := Lib.hid (dirs3 D8.out M8.out hk (show p < n by omega) HU.out hjl); clear b8)))
                  all_goals
                    go_wp2
                    go_meet
                  all_goals first
                    | exact cut_new D8.out M8.out (dirK k') (.slice a8 0 c8) (.bool true)
                    | exact cut_set D8.out M8.out X8.out O7.out.1 O7.out.2.1 O7.out.2.2.1 O7.out.2.2.2 (dirK k') (.slice a8 0 c8) (.bool true)
                case rest =>
                  obtain ⟨kb, rfl, rfl, lkb, ckb, hD9, hM9⟩ := hcut
                  have D9 := Lib.hid hD9
                  have M9 := Lib.hid hM9
                  have kd := hD9.cell (r := ⟨gd, cd, 3, irow (fun k => (k : Int)) n⟩) (by simp) (irow_get hk)
                  clear hD9 hM9 D7 M7 E7 L7 X7 k7 k7a O7 n1 n2 n3 DD MM
                  by_cases hkk : k' = k
                  · subst hkk
                    go_wp2
                    go_quiet (fail)
                    clear kd ckb
                    have DA := Lib.hid (D9.out.drewN nq)
                    have MA := Lib.hid (M9.out.below (bel_drewN _ nq))
                    have lbl : blk < (wc.drewN nq).heap.size := by obtain ⟨b', e, _, h2, _⟩ := MA.out (fun e => by rw [e] at hjl; simp at hjl); cases e; exact h2
                    clear D9 M9
                    generalize wc.drewN nq = wq at DA MA lbl ⊢
                    go_wp2
                    by_cases hz : I' k' = 0
                    · have HZ0 := Lib.hid hz
                      have ei : (I' k' == 0) = true := by simp [hz]
                      have HZ1 : Hid ((st'.Z (k' : Int)).getD 0 ≤ 0) := Lib.hid (by rw [(II.out.zn k' hk HK.out.1).1, hz]; exact Int.le_refl _)
                      have hcc : c' ≤ 10 * i := hc2 HK.out.1
                      clear hz
                      have D7 := Lib.hid DA.out.drew
                      have M7 := Lib.hid (MA.out.below (Below.refl _ _).drew)
                      have E7 := Lib.hid (DA.out.alloc (BxO 0 0 0 [] (.slice none 0 0))).drew
                      have L7 := Lib.hid ((MA.out.below (one_new _ (BxO 0 0 0 [] (.slice none 0 0)))).below (Below.refl _ _).drew)
                      have X7 : Hid (BrAt (World.drew (World.alloc wq (BxO 0 0 0 [] (.slice none 0 0)))) wq.heap.size noBr (.slice none 0 0)) := Lib.hid ((BrAt.new wq noBr (.slice none 0 0)).below (Below.refl _ _).drew)
                      have k7 := Lib.hid (dirs3 D7.out M7.out hk (show p < n by omega) HU.out hjl)
                      have k7a := Lib.hid (dirs3 E7.out L7.out hk (show p < n by omega) HU.out hjl)
                      have O7 := Lib.hid (out_of DA.out (show blk < wq.heap.size by omega))
                      have n1 : gu ≠ wq.heap.size := Nat.ne_of_lt (DA.out.lt (r := ⟨gu, cu, 3, irow U n⟩) (by simp))
                      have n2 : gd ≠ wq.heap.size := Nat.ne_of_lt (DA.out.lt (r := ⟨gd, cd, 3, irow (fun k => (k : Int)) n⟩) (by simp))
                      have n3 : blk ≠ wq.heap.size := by omega
                      go_cut [17, 18] (fun s15 s16 W => BoxCut w1 w1.heap.size (c' + 3) F (unbindAll (p : Int) [qs[j]] { st' with Z := upd st'.Z (k' : Int) none }) (four gd cd gi ci gu cu gg cg n I' U G') B0 (some ⟨blk, 0, none⟩) qs (k' : Int) (.int .i64 0) s15 s16 W)
                      case first =>
                        go_region_held3 (fun V => V.cell? ⟨gu, k', none⟩ = some (.int .i64 (p : Int)) ∧ V.cell? ⟨gd, p, none⟩ = some (.int .i64 (p : Int)) ∧ V.cell? ⟨blk, j, none⟩ = some (.string (bs qs[j])))
                          (first | (with_reducible exact k7.out) | (with_reducible exact k8.out) | (with_reducible exact k7a.out) | (with_reducible exact al3 k8.out) | (with_reducible exact sb3 k8.out n1 n2 n3 2 0 (k' : Int) [] (.slice a8 0 c8)))
                          (first
                            | (go_at_call 11; ((with_reducible refine (del_dir' D7.out.ty.tree (rngn (show p < n by omega) (by omega)) hql HP.out HQ.out HZ1.out (by omega)).mono ?_); rintro e w8 ⟨a8, c8, rfl, t8, x8⟩; have D8 := Lib.hid (D7.out.went t8 x8); have M8 := Lib.hid (M7.out.went x8 HF.out); have k8 := Lib.hid (dirs3 D8.out M8.out hk (show p < n by omega) HU.out hjl); clear t8 x8))
                            | (go_at_call 11; ((with_reducible refine (del_dir' E7.out.ty.tree (rngn (show p < n by omega) (by omega)) hql HP.out HQ.out HZ1.out (by omega)).mono ?_); rintro e w8 ⟨a8, c8, rfl, t8, x8⟩; have D8 := Lib.hid (E7.out.went t8 x8); have M8 := Lib.hid (L7.out.went x8 HF.out); have X8 : Hid (BrAt w8 wq.heap.size noBr (.slice none 0 0)) := Lib.hid ((x8.block _ X7.out.lt O7.out.1).trans X7.out); obtain ⟨x0, x1, x2, x3, x4, x5, x6, x7, x8', x9⟩ := cells_lit X8.out; have f8 := X8.out.fz; have l8 := X8.out.lt; have k8 := Lib.hid (dirs3 D8.out M8.out hk (show p < n by omega) HU.out hjl); clear t8 x8)))
                        all_goals
                          go_wp2
                          go_meet
                        all_goals first
                          | exact cut_new D8.out M8.out (dirK k') (.slice a8 0 c8) (.int .i64 0)
                          | exact cut_set D8.out M8.out X8.out O7.out.1 O7.out.2.1 O7.out.2.2.1 O7.out.2.2.2 (dirK k') (.slice a8 0 c8) (.int .i64 0)
                      case rest =>
                        obtain ⟨kb2, rfl, rfl, lkb2, ckb2, hD9, hM9⟩ := hcut
                        have D9 := Lib.hid hD9
                        have M9 := Lib.hid hM9
                        have ki := hD9.cell (r := ⟨gi, ci, 3, irow I' n⟩) (by simp) (irow_get hk)
                        clear hD9 hM9 D7 M7 E7 L7 X7 k7 k7a O7 n1 n2 n3 DA MA
                        have fg := D9.out.fz (r := ⟨gg, cg, 4, brow G' n⟩) (by simp) k'
                        have kg := D9.out.cell (r := ⟨gg, cg, 4, brow G' n⟩) (by simp) (brow_get hk)
                        have lg := D9.out.lt (r := ⟨gg, cg, 4, brow G' n⟩) (by simp)
                        have hB := D9.out.set (R1 := [⟨gd, cd, 3, irow (fun k => (k : Int)) n⟩, ⟨gi, ci, 3, irow I' n⟩, ⟨gu, cu, 3, irow U n⟩]) (r := ⟨gg, cg, 4, brow G' n⟩) (R2 := []) k' (.bool true)
                        rw [brow_set] at hB
                        have ku := hB.cell (r := ⟨gu, cu, 3, irow U n⟩) (by simp) (irow_get hk)
                        rw [HU.out] at ku
                        have kp := hB.cell (r := ⟨gi, ci, 3, irow I' n⟩) (by simp) (irow_get (show p < n by omega))
                        have fp := hB.fz (r := ⟨gi, ci, 3, irow I' n⟩) (by simp) p
                        have lp := hB.lt (r := ⟨gi, ci, 3, irow I' n⟩) (by simp)
                        have hC := hB.set (R1 := [⟨gd, cd, 3, irow (fun k => (k : Int)) n⟩]) (r := ⟨gi, ci, 3, irow I' n⟩) (R2 := [⟨gu, cu, 3, irow U n⟩, ⟨gg, cg, 4, brow (upd G' k' true) n⟩]) p (.int .i64 (I' p - 1))
                        rw [irow_set] at hC
                        have DC := Lib.hid hC
                        have MC := Lib.hid ((M9.out.set (g := gg) (i := k') (v := .bool true) (by omega)).set (g := gi) (i := p) (v := .int .i64 (I' p - 1)) (by omega))
                        have IC := Lib.hid (II.out.del hk HK.out.1 HU.out hpk HZ0.out HP.out HQ.out)
                        have hIp : 0 ≤ I' p ∧ I' p ≤ n := by rw [II.out.ct p (by omega)]; exact ⟨cnt_nonneg _ _ _ _, cnt_le _ _ _ _⟩
                        obtain ⟨hIp0, hIp1⟩ := hIp
                        clear hB hC D9 M9 II
                        go_wp2
                        go_roundw
                        case rel => exact ⟨j + 1, upd I' p (I' p - 1), upd G' k' true, _, c' + 3, by omega, by go_num, by omega, fun h => (by rw [upd_same] at h; cases h), IC.out, DC.out, MC.out⟩
                        case measure => simp [intOf]; omega
                    · have HZ0 := Lib.hid hz
                      have ei : (I' k' == 0) = false := by simp [hz]
                      have HZ1 : Hid (0 < (st'.Z (k' : Int)).getD 0) := Lib.hid (by rw [(II.out.zn k' hk HK.out.1).1]; have := II.out.nonneg hk; omega)
                      clear hz
                      have D7 := Lib.hid DA.out.drew
                      have M7 := Lib.hid (MA.out.below (Below.refl _ _).drew)
                      have E7 := Lib.hid (DA.out.alloc (BxO 0 0 0 [] (.slice none 0 0))).drew
                      have L7 := Lib.hid ((MA.out.below (one_new _ (BxO 0 0 0 [] (.slice none 0 0)))).below (Below.refl _ _).drew)
                      have X7 : Hid (BrAt (World.drew (World.alloc wq (BxO 0 0 0 [] (.slice none 0 0)))) wq.heap.size noBr (.slice none 0 0)) := Lib.hid ((BrAt.new wq noBr (.slice none 0 0)).below (Below.refl _ _).drew)
                      have k7 := Lib.hid (dirs3 D7.out M7.out hk (show p < n by omega) HU.out hjl)
                      have k7a := Lib.hid (dirs3 E7.out L7.out hk (show p < n by omega) HU.out hjl)
                      have O7 := Lib.hid (out_of DA.out (show blk < wq.heap.size by omega))
                      have n1 : gu ≠ wq.heap.size := Nat.ne_of_lt (DA.out.lt (r := ⟨gu, cu, 3, irow U n⟩) (by simp))
                      have n2 : gd ≠ wq.heap.size := Nat.ne_of_lt (DA.out.lt (r := ⟨gd, cd, 3, irow (fun k => (k : Int)) n⟩) (by simp))
                      have n3 : blk ≠ wq.heap.size := by omega
                      go_cut [17, 18] (fun s15 s16 W => BoxCut w1 w1.heap.size (c') F (st') (four gd cd gi ci gu cu gg cg n I' U G') B0 (some ⟨blk, 0, none⟩) qs 0 (.int .i64 16) s15 s16 W)
                      case first =>
                        go_region_held3 (fun V => V.cell? ⟨gu, k', none⟩ = some (.int .i64 (p : Int)) ∧ V.cell? ⟨gd, p, none⟩ = some (.int .i64 (p : Int)) ∧ V.cell? ⟨blk, j, none⟩ = some (.string (bs qs[j])))
                          (first | (with_reducible exact k7.out) | (with_reducible exact k8.out) | (with_reducible exact k7a.out) | (with_reducible exact al3 k8.out) | (with_reducible exact sb3 k8.out n1 n2 n3 0 0 0 [] (.slice none 0 0)))
                          (first
                            | (go_at_call 11; ((with_reducible refine (del_busy' D7.out.ty.tree (rngn (show p < n by omega) (by omega)) hql HP.out HQ.out HZ1.out).mono ?_); rintro e w8 ⟨rfl, b8⟩; have D8 := Lib.hid (D7.out.below b8); have M8 := Lib.hid (M7.out.below b8); have k8 := Lib.hid (dirs3 D8.out M8.out hk (show p < n by omega) HU.out hjl); clear b8))
                            | (go_at_call 11; ((with_reducible refine (del_busy' E7.out.ty.tree (rngn (show p < n by omega) (by omega)) hql HP.out HQ.out HZ1.out).mono ?_); rintro e w8 ⟨rfl, b8⟩; have D8 := Lib.hid (E7.out.below b8); have M8 := Lib.hid (L7.out.below b8); have X8 := Lib.hid (X7.out.below b8); obtain ⟨x0, x1, x2, x3, x4, x5, x6, x7, x8', x9⟩ := cells_lit X8.out; have f8 := X8.out.fz; have l8 := X8.out.lt; have k8 := Lib.hid (dirs3 D8.out M8.out hk (show p < n by omega) HU.out hjl); clear b8)))
                        all_goals
                          go_wp2
                          go_meet
                        all_goals first
                          | exact cut_new D8.out M8.out noBr (.slice none 0 0) (.int .i64 16)
                          | exact cut_set D8.out M8.out X8.out O7.out.1 O7.out.2.1 O7.out.2.2.1 O7.out.2.2.2 noBr (.slice none 0 0) (.int .i64 16)
                      case rest =>
                        obtain ⟨kb2, rfl, rfl, lkb2, ckb2, hD9, hM9⟩ := hcut
                        have D9 := Lib.hid hD9
                        have M9 := Lib.hid hM9
                        have ki := hD9.cell (r := ⟨gi, ci, 3, irow I' n⟩) (by simp) (irow_get hk)
                        clear hD9 hM9 D7 M7 E7 L7 X7 k7 k7a O7 n1 n2 n3 DA MA
                        go_wp2
                        go_roundw
                        case rel => exact ⟨j + 1, I', G', st', c', by omega, by go_num, hc1, hc2, II.out, D9.out, M9.out⟩
                        case measure => simp [intOf]; omega
                  · have ekk : (((k' : Int)) != ((k : Int))) = true := by simp; omega
                    go_wp2
                    go_quiet (fail)
                    go_wp2
                    go_roundw
                    case rel => exact ⟨j + 1, I', G', st', c', by omega, by go_num, hc1, hc2, II.out, D9.out.drewN nq, M9.out.below (bel_drewN _ _)⟩
                    case measure => simp [intOf]; omega
            · obtain rfl : j = qs.length := by omega
              clear hj hjl
              go_wp2
              go_roundw
              case rel => exact ⟨i + 1, n, gd, cd, gi, ci, gu, cu, gg, cg, I', U, G', F, st', c', by omega, by go_num, rfl, rfl, rfl, rfl, by omega, hI'.more, hD'⟩
              case measure => simp [intOf]; omega
    · obtain rfl : i = len := by omega
      as_aux_lemma =>
      have HI := Lib.hid hI
      have HD := Lib.hid hD
      have hnl := hI.le
      have hi60 : i ≤ 60 := by omega
      clear hI hD hlt hi D3 HN h60
      go_wp2
      go_loopw [19] (fun s19 W => ∃ q : Nat, q ≤ n ∧ s19 = .int .i64 (q : Nat) ∧ DM w1 W w1.heap.size c F st (four gd cd gi ci gu cu gg cg n I U G)) (fun q _ => n - (intOf q).toNat)
      case atStart => exact ⟨0, Nat.zero_le _, rfl, HD.out⟩
      case round =>
        obtain ⟨q, hq, rfl, hV⟩ := hrel
        have DV := Lib.hid hV
        by_cases hqn : q < n
        · have kd := hV.cell (r := ⟨gd, cd, 3, irow (fun k => (k : Int)) n⟩) (by simp) (irow_get hqn)
          have ki := hV.cell (r := ⟨gi, ci, 3, irow I n⟩) (by simp) (irow_get hqn)
          have kg := hV.cell (r := ⟨gg, cg, 4, brow G n⟩) (by simp) (brow_get hqn)
          have hr := rngn hqn (show n ≤ 100 by omega)
          clear hV
          cases hG : G q with
          | true =>
            have hcall : ∀ m, Calls Tryd.prog 20 #[TP w1.heap.size, .int .i64 (q : Int)] (wr.drewN m) fun e w' => e = .returned (.int .i64 0) ∧ w' = wr.drewN m := fun m => len_is (DV.out.drewN m) hr (by rw [HI.out.zg q hqn hG]; rfl)
            rw [hG] at kg
            clear hG
            go_wp2
            go_quiet ((go_at_call 20; exact Calls.quiet_of_same (hcall _)))
            go_wp2
            go_roundw
            case rel => exact ⟨q + 1, by omega, by go_num, DV.out.drewN nq⟩
            case measure => simp [intOf]; omega
          | false =>
            have hcall : ∀ m, Calls Tryd.prog 20 #[TP w1.heap.size, .int .i64 (q : Int)] (wr.drewN m) fun e w' => e = .returned (.int .i64 (I q)) ∧ w' = wr.drewN m := fun m => len_is (DV.out.drewN m) hr (HI.out.zn q hqn hG).1
            rw [hG] at kg
            clear hG
            go_wp2
            go_quiet ((go_at_call 20; exact Calls.quiet_of_same (hcall _)))
            go_wp2
            go_roundw
            case rel => exact ⟨q + 1, by omega, by go_num, DV.out.drewN nq⟩
            case measure => simp [intOf]; omega
        · obtain rfl : q = n := by omega
          have HB := Lib.hid (L1.out.trans (hV.ty.bel.mono L1.out.size))
          clear hV hqn
          go_wp2
          go_ret
          exact ⟨rfl, HB.out⟩

end Go.Proofs.YtfghoceigofoiaaDoor.T
