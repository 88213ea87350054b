/-
  What a store is in memory: one block of four cells (quota, words in use, last number given, the table), a map from numbers to slices, and a row of words for each segment, no two in one block. Which blocks those are (F), what a call does to them and that it leaves all others alone (Went).
-/
import Derived.Test.YtknfiepbibaklaaDoorProg
import Derived.WalkKit
import Derived.ProofKit
import Derived.Below
import Derived.Lib.Hide
import Derived.Maps.OwnSet
import Derived.Maps.AppendAt
namespace Go.Proofs.YtknfiepbibaklaaDoor.W
open Go.ChangeShapes Go.WideShapes Go.ChangeAt Go.RowKit

/-- words as they lie in memory; a store's four cells -/
@[reducible] def row (ws : List Int) : Obj := .cells (ws.map (Value.int .u64)).toArray 141 (0, 0)
@[reducible] def stO (q u l : Int) (m : Option Nat) : Obj := .cells #[.int .i64 q, .int .i64 u, .int .i64 l, .map m] 67 (0, 0)

/-- how a slice in the table reads: where it lies, how long it is -/
def segD (g n : Nat) : DataW Unit := .agg [.lit (.int .i64 g), .lit (.int .i64 n)]
def segR : Value → Option (DataW Unit × List MemPlace)
  | .slice none 0 0 => some (.nil, [])
  | .slice (some a) n c => if a = ⟨a.block, 0, none⟩ ∧ c = n then some (segD a.block n, []) else none
  | _ => none

theorem segD_inj {g n g' n' : Nat} (h : segD g n = segD g' n') : g = g' ∧ n = n' := by
  simp [segD] at h
  omega
theorem segR_mk (g n : Nat) : segR (.slice (some ⟨g, 0, none⟩) n n) = some (segD g n, []) := by simp [segR]
theorem segR_nil : segR (.slice none 0 0) = some (.nil, []) := rfl
theorem segR_inv {v : Value} {g n : Nat} {ps : List MemPlace} (h : segR v = some (segD g n, ps)) : v = .slice (some ⟨g, 0, none⟩) n n := by
  unfold segR at h
  split at h
  · simp [segD] at h
  · rename_i a k c
    split at h
    · rename_i hc
      simp only [Option.some.injEq, Prod.mk.injEq] at h
      obtain ⟨h1, rfl⟩ := segD_inj h.1
      obtain ⟨h2, rfl⟩ := hc
      rw [h2, h1]
    · cases h
  · cases h
theorem segR_inv_nil {v : Value} {ps : List MemPlace} (h : segR v = some (.nil, ps)) : v = .slice none 0 0 := by
  unfold segR at h
  split at h
  · rfl
  · split at h
    · simp [segD] at h
    · cases h
  · cases h

/-- a table with one number's entry changed -/
def upd {α : Type} (S : Int → α) (k : Int) (v : α) : Int → α := fun j => if j = k then v else S j
theorem upd_same {α : Type} (S : Int → α) (k : Int) (v : α) : upd S k v k = v := by simp [upd]
theorem upd_other {α : Type} (S : Int → α) {k j : Int} (v : α) (h : j ≠ k) : upd S k v j = S j := by simp [upd, h]

/-- a store in memory, its table and its rows named -/
structure StoreL (w : World) (b : Nat) (F : Nat → Prop) (q u l : Int) (c : Nat) (S : Int → Option (List Int)) (m : Option Nat) (loc : Int → Nat) : Prop where
  head : w.heap[b]? = some (stO q u l m)
  inF : F b
  ltF : ∀ i, F i → i < w.heap.size
  rows : ∀ k ws, S k = some ws → w.heap[loc k]? = some (row ws) ∧ F (loc k) ∧ ws.length ≤ 1024 ∧ 1 ≤ k ∧ k ≤ l
  apart : ∀ k k' ws ws', S k = some ws → S k' = some ws' → loc k = loc k' → k = k'
  none_ : m = none → ∀ k, S k = none
  some_ : ∀ mb, m = some mb → F mb ∧ ∃ D, w.ownsMap Tryd.prog 3 segR mb c D ∧ ∀ k, (S k = none → Maps.has D (.int .i64 k) = false) ∧ ∀ ws, S k = some ws → Maps.has D (.int .i64 k) = true ∧ D.atKey (.int .i64 k) .nil = segD (loc k) ws.length

/-- a store in memory -/
def StoreAt (w : World) (b : Nat) (F : Nat → Prop) (q u l : Int) (c : Nat) (S : Int → Option (List Int)) : Prop := ∃ m loc, StoreL w b F q u l c S m loc

/-- a call changed the blocks F and made new ones; the store's blocks are F' now -/
structure Went (F : Nat → Prop) (w : World) (F' : Nat → Prop) (w' : World) : Prop where
  os : w'.os = w.os
  tape : w'.tape = w.tape
  output : w'.output = w.output
  size : w.heap.size ≤ w'.heap.size
  block : ∀ i, i < w.heap.size → ¬ F i → w'.heap[i]? = w.heap[i]?
  foot : ∀ i, F' i → F i ∨ w.heap.size ≤ i

theorem Went.refl (F : Nat → Prop) (w : World) : Went F w F w := ⟨rfl, rfl, rfl, Nat.le_refl _, fun _ _ _ => rfl, fun _ h => Or.inl h⟩
theorem Went.trans {F F' F'' : Nat → Prop} {w w' w'' : World} (h : Went F w F' w') (h' : Went F' w' F'' w'') : Went F w F'' w'' :=
  ⟨h'.os.trans h.os, h'.tape.trans h.tape, h'.output.trans h.output, Nat.le_trans h.size h'.size,
    fun i hi hn => (h'.block i (Nat.lt_of_lt_of_le hi h.size) (fun hf => (h.foot i hf).elim hn (fun hg => by omega))).trans (h.block i hi hn),
    fun i hi => (h'.foot i hi).elim (fun hf => h.foot i hf) (fun hg => Or.inr (Nat.le_trans h.size hg))⟩
theorem Went.below {F F' : Nat → Prop} {w w' : World} (h : Went F w F' w') {B : Nat} (hB : ∀ i, F i → B ≤ i) (hs : B ≤ w.heap.size) : Below B w w' :=
  ⟨h.os, h.tape, h.output, h.size, fun i hi => h.block i (by omega) (fun hf => by have := hB i hf; omega)⟩
theorem Went.ge {F F' : Nat → Prop} {w w' : World} (h : Went F w F' w') {B : Nat} (hB : ∀ i, F i → B ≤ i) (hs : B ≤ w.heap.size) : ∀ i, F' i → B ≤ i :=
  fun i hi => (h.foot i hi).elim (hB i) (fun hg => by omega)
theorem Went.set {F F' : Nat → Prop} {w w' : World} (h : Went F w F' w') {b i : Nat} {v : Value} (hb : F' b) : Went F w F' (w'.setCell ⟨b, i, none⟩ v) :=
  ⟨h.os, h.tape, h.output, by simpa using h.size, fun j hj hn => by
    rw [Below.heap_setCell _ _ _ _ (fun e => (h.foot b hb).elim (fun hf => hn (by rw [e]; exact hf)) (fun hg => by simp at e; omega))]
    exact h.block j hj hn, h.foot⟩
theorem Went.out {F F' : Nat → Prop} {w w' : World} (h : Went F w F' w') {g : Nat} (hg : g < w.heap.size) (hn : ¬ F g) : ¬ F' g := fun hf => (h.foot g hf).elim hn (fun h => by omega)

theorem head_set {w : World} {b : Nat} {cs : Array Value} {t : TypeId} {fr : Nat × Nat} (h : w.heap[b]? = some (.cells cs t fr)) (i : Nat) (v : Value) : (w.setCell ⟨b, i, none⟩ v).heap[b]? = some (.cells (cs.setIfInBounds i v) t fr) := by
  rw [setCell_eq_setRow w b i cs t fr v h]
  exact setRow_heap _ _ _ _ _ _ h
theorem other_set {w : World} {b k : Nat} (i : Nat) (v : Value) (h : k ≠ b) : (w.setCell ⟨b, i, none⟩ v).heap[k]? = w.heap[k]? := Below.heap_setCell _ _ _ _ h

section
variable {w : World} {b : Nat} {F : Nat → Prop} {q u l : Int} {c : Nat} {S : Int → Option (List Int)} {m : Option Nat} {loc : Int → Nat}

theorem StoreL.c0 (h : StoreL w b F q u l c S m loc) : w.cell? ⟨b, 0, none⟩ = some (.int .i64 q) := by simp [World.cell?, h.head]
theorem StoreL.c1 (h : StoreL w b F q u l c S m loc) : w.cell? ⟨b, 1, none⟩ = some (.int .i64 u) := by simp [World.cell?, h.head]
theorem StoreL.c2 (h : StoreL w b F q u l c S m loc) : w.cell? ⟨b, 2, none⟩ = some (.int .i64 l) := by simp [World.cell?, h.head]
theorem StoreL.c3 (h : StoreL w b F q u l c S m loc) : w.cell? ⟨b, 3, none⟩ = some (.map m) := by simp [World.cell?, h.head]
theorem StoreL.fz (h : StoreL w b F q u l c S m loc) (i : Nat) : w.frozen? ⟨b, i, none⟩ = false := by simp [World.frozen?, h.head]
theorem StoreL.lt (h : StoreL w b F q u l c S m loc) : b < w.heap.size := h.ltF b h.inF

theorem row_ne {k : Int} {ws : List Int} (h : StoreL w b F q u l c S m loc) (hk : S k = some ws) : loc k ≠ b := by
  intro e
  have h1 := (h.rows k ws hk).1
  rw [e, h.head] at h1
  simp at h1
theorem tab_ne {mb : Nat} (h : StoreL w b F q u l c S m loc) (hm : m = some mb) : mb ≠ b := by
  intro e
  obtain ⟨_, D, ⟨es, cl, hb, _⟩, _⟩ := h.some_ mb hm
  rw [e, h.head] at hb
  simp at hb
theorem tab_row {mb : Nat} {k : Int} {ws : List Int} (h : StoreL w b F q u l c S m loc) (hm : m = some mb) (hk : S k = some ws) : loc k ≠ mb := by
  intro e
  obtain ⟨_, D, ⟨es, cl, hb, _⟩, _⟩ := h.some_ mb hm
  have h1 := (h.rows k ws hk).1
  rw [e, hb] at h1
  simp at h1
theorem owns_of {P : Program} {k : TypeId} {R : Value → Option (DataW Unit × List MemPlace)} {mb n : Nat} {D : DataW Unit} {w' : World} (h : w.ownsMap P k R mb n D) (e : w'.heap[mb]? = w.heap[mb]?) : w'.ownsMap P k R mb n D := by
  obtain ⟨es, cl, hb, r⟩ := h
  exact ⟨es, cl, e.trans hb, r⟩

/-- other blocks may change -/
theorem StoreL.keep (h : StoreL w b F q u l c S m loc) {w' : World} (hs : w.heap.size ≤ w'.heap.size) (hk : ∀ i, F i → w'.heap[i]? = w.heap[i]?) : StoreL w' b F q u l c S m loc where
  head := (hk b h.inF).trans h.head
  inF := h.inF
  ltF := fun i hi => Nat.lt_of_lt_of_le (h.ltF i hi) hs
  rows := fun k ws hS => ⟨(hk _ (h.rows k ws hS).2.1).trans (h.rows k ws hS).1, (h.rows k ws hS).2⟩
  apart := h.apart
  none_ := h.none_
  some_ := fun mb hm => by
    obtain ⟨h1, D, h2, h3⟩ := h.some_ mb hm
    exact ⟨h1, D, owns_of h2 (hk mb h1), h3⟩
theorem StoreAt.keep (h : StoreAt w b F q u l c S) {w' : World} (hs : w.heap.size ≤ w'.heap.size) (hk : ∀ i, F i → w'.heap[i]? = w.heap[i]?) : StoreAt w' b F q u l c S := by
  obtain ⟨m, loc, h⟩ := h
  exact ⟨m, loc, h.keep hs hk⟩
theorem StoreAt.ltF (h : StoreAt w b F q u l c S) : ∀ i, F i → i < w.heap.size := by
  obtain ⟨m, loc, h⟩ := h
  exact h.ltF
theorem StoreAt.below (h : StoreAt w b F q u l c S) {w' : World} (hb : Below w.heap.size w w') : StoreAt w' b F q u l c S := h.keep hb.size (fun i hi => hb.block i (h.ltF i hi))
theorem StoreAt.set (h : StoreAt w b F q u l c S) {g i : Nat} {v : Value} (hg : ¬ F g) : StoreAt (w.setCell ⟨g, i, none⟩ v) b F q u l c S :=
  h.keep (by simp) (fun j hj => other_set _ _ (fun e => hg (e ▸ hj)))
theorem StoreAt.drew (h : StoreAt w b F q u l c S) : StoreAt w.drew b F q u l c S := h.keep (Nat.le_refl _) (fun _ _ => rfl)
/-- another store may be written -/
theorem StoreAt.other (h : StoreAt w b F q u l c S) {G G' : Nat → Prop} {w' : World} (hw : Went G w G' w') (hd : ∀ i, F i → ¬ G i) : StoreAt w' b F q u l c S :=
  h.keep hw.size (fun i hi => hw.block i (h.ltF i hi) (hd i hi))
theorem StoreAt.other_out (h : StoreAt w b F q u l c S) {G G' : Nat → Prop} {w' : World} (hw : Went G w G' w') (hd : ∀ i, F i → ¬ G i) : ∀ i, F i → ¬ G' i :=
  fun i hi => hw.out (h.ltF i hi) (hd i hi)

/-- a store of no segments -/
theorem store_new (w : World) (q : Int) : StoreAt (w.alloc (stO q 0 0 none)) w.heap.size (fun i => i = w.heap.size) q 0 0 0 (fun _ => none) :=
  ⟨none, fun _ => 0, {
    head := heap_alloc_new w _
    inF := rfl
    ltF := fun i hi => by simp [hi]
    rows := fun k ws h => by cases h
    apart := fun _ _ _ _ h => by cases h
    none_ := fun _ _ => rfl
    some_ := fun _ h => by cases h }⟩

/-- what the table answers -/
def segV (S : Int → Option (List Int)) (loc : Int → Nat) (k : Int) : Value :=
  match S k with
  | none => .slice none 0 0
  | some ws => .slice (some ⟨loc k, 0, none⟩) ws.length ws.length

theorem wf64 {k : Int} (h0 : -9223372036854775808 ≤ k) (h1 : k ≤ 9223372036854775807) : (Lit.int .i64 k).wf = true := WalkArith.wf_i64 (by omega)
theorem key64 {k : Int} (h0 : -9223372036854775808 ≤ k) (h1 : k ≤ 9223372036854775807) : keyOf Tryd.prog 3 (.int .i64 k) = some (.int .i64 k) := Maps.keyOf_int_mk Tryd.underlying3 (wf64 h0 h1)
theorem law64 : Maps.Keyed Tryd.prog 3 := Maps.int_keyed Tryd.underlying3
theorem zeroS (w : World) : (zeroValue 86).run Tryd.prog w = .ok (.slice none 0 0) w := by kernel_rfl

theorem StoreL.look_ok (h : StoreL w b F q u l c S m loc) {k : Int} (h0 : -9223372036854775808 ≤ k) (h1 : k ≤ 9223372036854775807) :
    (Instr.lookup 65 (.map m) (.int .i64 k) true).run Tryd.prog w = .ok (.tuple #[segV S loc k, .bool (S k).isSome]) w := by
  cases m with
  | none =>
    rw [Maps.look_nil true law64 Tryd.underlying65 (zeroS w) (key64 h0 h1)]
    simp [segV, h.none_ rfl k]
  | some mb =>
    obtain ⟨_, D, hD, hk⟩ := h.some_ mb rfl
    obtain ⟨v, ps, hrun, hv⟩ := hD.look_ok law64 Tryd.underlying65 (zeroS w) segR_nil (key64 h0 h1)
    rw [hrun]
    cases hS : S k with
    | none =>
      have e := (hk k).1 hS
      rw [Maps.atKey_of_not_has e] at hv
      rw [e, segR_inv_nil hv]
      simp [segV, hS]
    | some ws =>
      obtain ⟨e, e'⟩ := (hk k).2 ws hS
      rw [e'] at hv
      rw [e, segR_inv hv]
      simp [segV, hS]

theorem StoreL.look (h : StoreL w b F q u l c S m loc) {k : Int} (h0 : -9223372036854775808 ≤ k) (h1 : k ≤ 9223372036854775807) :
    (Instr.lookup 65 (.map m) (.int .i64 k) false).run Tryd.prog w = .ok (segV S loc k) w := by
  cases m with
  | none =>
    rw [Maps.look_nil false law64 Tryd.underlying65 (zeroS w) (key64 h0 h1)]
    simp [segV, h.none_ rfl k]
  | some mb =>
    obtain ⟨_, D, hD, hk⟩ := h.some_ mb rfl
    obtain ⟨v, ps, hrun, hv⟩ := hD.lookup law64 Tryd.underlying65 (zeroS w) segR_nil (key64 h0 h1)
    rw [hrun]
    cases hS : S k with
    | none =>
      have e := (hk k).1 hS
      rw [Maps.atKey_of_not_has e] at hv
      rw [segR_inv_nil hv]
      simp [segV, hS]
    | some ws =>
      obtain ⟨e, e'⟩ := (hk k).2 ws hS
      rw [e'] at hv
      rw [segR_inv hv]
      simp [segV, hS]

/-- one of the four cells is written -/
theorem StoreL.turn (h : StoreL w b F q u l c S m loc) {i : Nat} {v : Value} {q' u' l' : Int} (e : (#[.int .i64 q, .int .i64 u, .int .i64 l, .map m] : Array Value).setIfInBounds i v = #[.int .i64 q', .int .i64 u', .int .i64 l', .map m]) (hl : l ≤ l') :
    StoreL (w.setCell ⟨b, i, none⟩ v) b F q' u' l' c S m loc where
  head := by rw [head_set h.head, e]
  inF := h.inF
  ltF := fun j hj => by simpa using h.ltF j hj
  rows := fun k ws hS => by
    obtain ⟨r1, r2, r3, r4, r5⟩ := h.rows k ws hS
    exact ⟨by rw [other_set _ _ (row_ne h hS)]; exact r1, r2, r3, r4, by omega⟩
  apart := h.apart
  none_ := h.none_
  some_ := fun mb hm => by
    obtain ⟨h1, D, h2, h3⟩ := h.some_ mb hm
    exact ⟨h1, D, owns_of h2 (other_set _ _ (tab_ne h hm)), h3⟩
theorem StoreL.setU (h : StoreL w b F q u l c S m loc) (u' : Int) : StoreL (w.setCell ⟨b, 1, none⟩ (.int .i64 u')) b F q u' l c S m loc := h.turn (by simp) (Int.le_refl _)
theorem StoreL.setL (h : StoreL w b F q u l c S m loc) (l' : Int) (hl : l ≤ l') : StoreL (w.setCell ⟨b, 2, none⟩ (.int .i64 l')) b F q u l' c S m loc := h.turn (by simp) hl

/-- the table is made -/
theorem StoreL.tabled (h : StoreL w b F q u l c S none loc) : StoreL ((w.alloc (.map #[] 0)).setCell ⟨b, 3, none⟩ (.map (some w.heap.size))) b (fun i => F i ∨ i = w.heap.size) q u l c S (some w.heap.size) loc := by
  have hlt := h.lt
  have hb : (w.alloc (.map #[] 0)).heap[b]? = some (stO q u l none) := (heap_alloc_old w _ hlt).trans h.head
  exact {
    head := by rw [head_set hb]; simp
    inF := Or.inl h.inF
    ltF := fun i hi => by
      simp
      rcases hi with hi | hi
      · have := h.ltF i hi
        omega
      · omega
    rows := fun k ws hS => by rw [h.none_ rfl k] at hS; cases hS
    apart := fun k _ ws _ hS => by rw [h.none_ rfl k] at hS; cases hS
    none_ := fun e => by cases e
    some_ := fun mb hm => by
      cases hm
      refine ⟨Or.inr rfl, .map [], ?_, fun k => ⟨fun _ => rfl, fun ws hS => by rw [h.none_ rfl k] at hS; cases hS⟩⟩
      exact owns_of ((World.ownsMap_made w _ _ _).mono (Nat.zero_le _)) (other_set _ _ (by omega)) }

/-- a word is written -/
theorem StoreL.write (h : StoreL w b F q u l c S m loc) {k : Int} {ws : List Int} (hS : S k = some ws) {i : Nat} (x : Int) :
    StoreL (w.setCell ⟨loc k, i, none⟩ (.int .u64 x)) b F q u l c (upd S k (some (ws.set i x))) m loc where
  head := by rw [other_set _ _ (Ne.symm (row_ne h hS))]; exact h.head
  inF := h.inF
  ltF := fun j hj => by simpa using h.ltF j hj
  rows := fun k' ws' hS' => by
    by_cases e : k' = k
    · subst e
      rw [upd_same] at hS'
      cases hS'
      obtain ⟨r1, r2, r3, r4, r5⟩ := h.rows k' ws hS
      refine ⟨?_, r2, by simpa using r3, r4, r5⟩
      rw [head_set r1]
      simp [row, List.map_set]
    · rw [upd_other _ _ e] at hS'
      obtain ⟨r1, r2⟩ := h.rows k' ws' hS'
      exact ⟨by rw [other_set _ _ (fun e' => e (h.apart k' k ws' ws hS' hS e'))]; exact r1, r2⟩
  apart := fun k1 k2 w1 w2 h1 h2 e => by
    have f : ∀ k' w', upd S k (some (ws.set i x)) k' = some w' → ∃ w'', S k' = some w'' := fun k' w' h' => by
      by_cases e : k' = k
      · exact ⟨ws, by rw [e]; exact hS⟩
      · rw [upd_other _ _ e] at h'
        exact ⟨w', h'⟩
    obtain ⟨y1, g1⟩ := f k1 w1 h1
    obtain ⟨y2, g2⟩ := f k2 w2 h2
    exact h.apart k1 k2 y1 y2 g1 g2 e
  none_ := fun e => by rw [h.none_ e k] at hS; cases hS
  some_ := fun mb hm => by
    obtain ⟨h1, D, h2, h3⟩ := h.some_ mb hm
    refine ⟨h1, D, owns_of h2 (other_set _ _ (Ne.symm (tab_row h hm hS))), fun k' => ?_⟩
    by_cases e : k' = k
    · subst e
      rw [upd_same]
      exact ⟨fun e => (by cases e), fun ws' e => by cases e; simpa using (h3 k').2 ws hS⟩
    · rw [upd_other _ _ e]
      exact h3 k'

/-- a segment is dropped from the table -/
theorem StoreL.drop (h : StoreL w b F q u l c S m loc) {k : Int} {ws : List Int} (hS : S k = some ws) (h0 : -9223372036854775808 ≤ k) (h1 : k ≤ 9223372036854775807) (ty : TypeId) :
    ∃ w', (Builtin.delete_ #[65, 3] ty #[.map m, .int .i64 k]).run Tryd.prog w = .ok (.tuple #[]) w' ∧ StoreL w' b F q u l c (upd S k none) m loc ∧ Went F w F w' := by
  cases m with
  | none => rw [h.none_ rfl k] at hS; cases hS
  | some mb =>
    obtain ⟨hF, D, hD, hk⟩ := h.some_ mb rfl
    obtain ⟨w', hrun, hD', hturn⟩ := hD.drop law64 Tryd.underlying65 (key64 h0 h1) ty
    have hg := hturn.grown
    have other : ∀ i, i < w.heap.size → i ≠ mb → w'.heap[i]? = w.heap[i]? := fun i hi hne => hg.block i hi (by simpa using hne)
    refine ⟨w', hrun, ?_, ⟨hg.os, hg.tape, hg.output, hg.size, fun i hi hn => other i hi (fun e => hn (e ▸ hF)), fun i hi => Or.inl hi⟩⟩
    exact {
      head := (other b h.lt (Ne.symm (tab_ne h rfl))).trans h.head
      inF := h.inF
      ltF := fun i hi => Nat.lt_of_lt_of_le (h.ltF i hi) hg.size
      rows := fun k' ws' hS' => by
        by_cases e : k' = k
        · subst e
          rw [upd_same] at hS'
          cases hS'
        · rw [upd_other _ _ e] at hS'
          obtain ⟨r1, r2⟩ := h.rows k' ws' hS'
          exact ⟨(other _ (h.ltF _ r2.1) (tab_row h rfl hS')).trans r1, r2⟩
      apart := fun k1 k2 w1 w2 e1 e2 => by
        by_cases e : k1 = k
        · rw [e, upd_same] at e1; cases e1
        · by_cases e' : k2 = k
          · rw [e', upd_same] at e2; cases e2
          · rw [upd_other _ _ e] at e1
            rw [upd_other _ _ e'] at e2
            exact h.apart k1 k2 w1 w2 e1 e2
      none_ := fun e => by cases e
      some_ := fun mb' hm => by
        cases hm
        refine ⟨hF, _, hD', fun k' => ?_⟩
        by_cases e : k' = k
        · subst e
          rw [upd_same]
          exact ⟨fun _ => Maps.has_del_same, fun _ e => by cases e⟩
        · have e' : (Lit.int .i64 k') ≠ Lit.int .i64 k := fun h => e (by simpa using h)
          rw [upd_other _ _ e, Maps.has_del_other e', Maps.atKey_del_other e']
          exact hk k' }

/-- a segment's new row, made behind all else, goes into the table -/
theorem StoreL.put (h : StoreL w b F q u l c S m loc) {mb : Nat} (hm : m = some mb) {w1 : World} (hb1 : Below w.heap.size w w1) {ws : List Int} (hg1 : w1.heap[w.heap.size]? = some (row ws)) (hlen : ws.length ≤ 1024)
    {k : Int} (h1 : 1 ≤ k) (hl : k ≤ l) (hk : k ≤ 9223372036854775807) (hc : c < maxLen) :
    ∃ w2, (Instr.mapUpdate 65 (.map (some mb)) (.int .i64 k) (.slice (some ⟨w.heap.size, 0, none⟩) ws.length ws.length)).run Tryd.prog w1 = .ok () w2 ∧
      StoreL w2 b (fun i => F i ∨ i = w.heap.size) q u l (c + 1) (upd S k (some ws)) (some mb) (upd loc k w.heap.size) ∧ Went F w (fun i => F i ∨ i = w.heap.size) w2 := by
  subst hm
  obtain ⟨hF, D, hD, hkey⟩ := h.some_ mb rfl
  have hmb := h.ltF mb hF
  have hD1 := owns_of hD (hb1.block mb hmb)
  obtain ⟨w2, hrun, hD2, hturn⟩ := hD1.store law64 Tryd.underlying65 hc (key64 (by omega) hk) (segR_mk w.heap.size ws.length)
  have hg := hturn.grown
  have hsz1 : w.heap.size < w1.heap.size := (Array.getElem?_eq_some_iff.1 hg1).1
  have new : w2.heap[w.heap.size]? = some (row ws) := (hg.block _ hsz1 (by simp; omega)).trans hg1
  have other : ∀ i, i < w.heap.size → i ≠ mb → w2.heap[i]? = w.heap[i]? := fun i hi hne => (hg.block i (by omega) (by simpa using hne)).trans (hb1.block i hi)
  have hsize : w.heap.size ≤ w2.heap.size := Nat.le_trans hb1.size hg.size
  have old : ∀ k' ws', k' ≠ k → upd S k (some ws) k' = some ws' → S k' = some ws' := fun k' ws' e h' => by rw [upd_other _ _ e] at h'; exact h'
  refine ⟨w2, hrun, ?_, ⟨hg.os.trans hb1.os, hg.tape.trans hb1.tape, hg.output.trans hb1.output, hsize, fun i hi hn => other i hi (fun e => hn (e ▸ hF)), fun i hi => hi.imp id (fun e => by omega)⟩⟩
  exact {
    head := (other b h.lt (Ne.symm (tab_ne h rfl))).trans h.head
    inF := Or.inl h.inF
    ltF := fun i hi => by
      have e := (Array.getElem?_eq_some_iff.1 new).1
      rcases hi with hi | hi
      · have := h.ltF i hi
        omega
      · omega
    rows := fun k' ws' hS' => by
      by_cases e : k' = k
      · subst e
        rw [upd_same] at hS'
        cases hS'
        rw [upd_same]
        exact ⟨new, Or.inr rfl, hlen, h1, hl⟩
      · have hS'' := old k' ws' e hS'
        obtain ⟨r1, r2, r3⟩ := h.rows k' ws' hS''
        rw [upd_other _ _ e]
        exact ⟨(other _ (h.ltF _ r2) (tab_row h rfl hS'')).trans r1, Or.inl r2, r3⟩
    apart := fun k1 k2 w1' w2' e1 e2 he => by
      by_cases e : k1 = k
      · by_cases e' : k2 = k
        · rw [e, e']
        · rw [e, upd_same, upd_other _ _ e'] at he
          have := h.ltF _ (h.rows k2 w2' (old k2 w2' e' e2)).2.1
          omega
      · by_cases e' : k2 = k
        · rw [e', upd_same, upd_other _ _ e] at he
          have := h.ltF _ (h.rows k1 w1' (old k1 w1' e e1)).2.1
          omega
        · rw [upd_other _ _ e, upd_other _ _ e'] at he
          exact h.apart k1 k2 w1' w2' (old k1 w1' e e1) (old k2 w2' e' e2) he
    none_ := fun e => by cases e
    some_ := fun mb' hm => by
      cases hm
      refine ⟨Or.inl hF, _, hD2, fun k' => ?_⟩
      by_cases e : k' = k
      · subst e
        rw [upd_same, upd_same]
        exact ⟨fun e => (by cases e), fun ws' e => by cases e; exact ⟨Maps.has_put_same (k := .int .i64 k') hD1.isMap trivial _, Maps.atKey_put_same (k := .int .i64 k') hD1.isMap trivial _ _⟩⟩
      · have e' : (Lit.int .i64 k') ≠ Lit.int .i64 k := fun h => e (by simpa using h)
        rw [upd_other _ _ e, upd_other _ _ e, Maps.has_put_other e', Maps.atKey_put_other e']
        exact hkey k' }

end

end Go.Proofs.YtknfiepbibaklaaDoor.W
