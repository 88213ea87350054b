/-
  What a tree is in memory: one block of four cells (the last number given, three maps), a block for each node with its list of terms and its names in rows of their own. St tells it as plain functions; TreeL says that it lies there, F which blocks are its own; Went what a call did to them.
-/
import Derived.Test.YtpcdcmoapenbdaaDoorTMap
import Derived.Test.YtpcdcmoapenbdaaDoorAOwn
import Derived.Test.YtpcdcmoapenbdaaDoorRCalls
import Derived.OwnWalk
import Derived.Laws.OwnMore
namespace Go.Proofs.YtpcdcmoapenbdaaDoor.T
open Go.ChangeShapes Go.WideShapes Go.ChangeAt Go.RowKit
open Go.Proofs.YtpcdcmoapenbdaaDoor.N (bs bs_data bs_size bs_inj)
open Go.Proofs.YtpcdcmoapenbdaaDoor.A (Tm)

abbrev Txt := List UInt8
def rng (k : Int) : Prop := -9223372036854775808 ≤ k ∧ k ≤ 9223372036854775807

structure Br where
  kind : Int
  uid : Int
  dir : Int
  link : Txt
  obj : Bool
  acl : List Tm
  r1 : Int
  r2 : Int
  r3 : Int
  gt : Int
structure Nd where
  br : Br
  home : Int
  names : List Txt
structure St where
  last : Int
  P : Int × Txt → Option Nat
  G : Int → Option Nat
  Z : Int → Option Int
  N : Nat → Option Nd

@[reducible] def BrV (b : Br) (av : Value) : Value := .agg #[.int .i64 b.kind, .int .i64 b.uid, .int .i64 b.dir, .string (bs b.link), .bool b.obj, av, .int .i64 b.r1, .int .i64 b.r2, .int .i64 b.r3, .int .i64 b.gt]
@[reducible] def NdO (x : Nd) (av nv : Value) : Obj := .cells #[.int .i64 x.br.kind, .int .i64 x.br.uid, .int .i64 x.br.dir, .string (bs x.br.link), .bool x.br.obj, av, .int .i64 x.br.r1, .int .i64 x.br.r2, .int .i64 x.br.r3, .int .i64 x.br.gt, .int .i64 x.home, nv] 95 (0, 0)
@[reducible] def TrO (l : Int) (mp mg mz : Option Nat) : Obj := .cells #[.int .i64 l, .map mp, .map mg, .map mz] 62 (0, 0)
@[reducible] def TP (b : Nat) : Value := .pointer (some ⟨b, 0, none⟩)

/-! ### the three kinds of map -/

def ptrR : Value → Option (DataW Unit × List MemPlace)
  | .pointer none => some (.nil, [])
  | .pointer (some a) => if a = ⟨a.block, 0, none⟩ then some (.lit (.int .i64 a.block), []) else none
  | _ => none
def intR : Value → Option (DataW Unit × List MemPlace)
  | .int .i64 n => some (.lit (.int .i64 n), [])
  | _ => none
theorem ptrR_mk (g : Nat) : ptrR (TP g) = some (.lit (.int .i64 g), []) := by simp [ptrR]
theorem ptrR_inv {v : Value} {g : Nat} {ps : List MemPlace} (h : ptrR v = some (.lit (.int .i64 g), ps)) : v = TP g := by
  unfold ptrR at h
  split at h
  · simp at h
  · rename_i a
    split at h
    · rename_i hc
      simp only [Option.some.injEq, Prod.mk.injEq, DataW.lit.injEq, Lit.int.injEq, true_and] at h
      have e : a.block = g := by omega
      rw [hc, e]
    · cases h
  · cases h
theorem ptrR_nil {v : Value} {ps : List MemPlace} (h : ptrR v = some (.nil, ps)) : v = .pointer none := by
  unfold ptrR at h
  split at h
  · rfl
  · split at h
    · simp at h
    · cases h
  · cases h
theorem intR_inv {v : Value} {n : Int} {ps : List MemPlace} (h : intR v = some (.lit (.int .i64 n), ps)) : v = .int .i64 n := by
  unfold intR at h
  split at h
  · simp only [Option.some.injEq, Prod.mk.injEq, DataW.lit.injEq, Lit.int.injEq, true_and] at h
    rw [h.1]
  · cases h

theorem wf64 {k : Int} (h : rng k) : (Lit.int .i64 k).wf = true := WalkArith.wf_i64 (by unfold rng at h; omega)
theorem laidOut : laidOutB Tryd.prog = true := by kernel_rfl
theorem rowPlace : (124 : TypeId) < Tryd.prog.types.size := of_decide_eq_true (by kernel_rfl)
theorem widePlace : (match Tryd.prog.underlying 124 with | some (.array _ _) | some (.struct _) => true | _ => false) = true := by kernel_rfl
set_option maxRecDepth 100000 in
theorem lawPlace : Maps.Keyed Tryd.prog 124 := Maps.Keyed.of_law (deep_law_laid laidOut (m := 3) (by omega) rowPlace (by kernel_rfl) widePlace)
theorem lawInt : Maps.Keyed Tryd.prog 3 := Maps.int_keyed Tryd.underlying3
theorem keyPlace : Tryd.prog.keyType 124 = true := by kernel_rfl
theorem cellsPlace : Tryd.prog.cellsOf 124 = 2 := by kernel_rfl
theorem cellsInt : Tryd.prog.cellsOf 3 = 1 := by kernel_rfl
theorem cellsString : Tryd.prog.cellsOf 9 = 1 := by kernel_rfl
theorem many : 2 ≤ Tryd.prog.types.size := of_decide_eq_true (by kernel_rfl)
theorem key_place {d : Int} {s : Txt} (hd : rng d) (hs : s.length ≤ maxLen) : keyOf Tryd.prog 124 (.agg #[.int .i64 d, .string (bs s)]) = some (.string (keyBytes [.int .i64 d, .string s])) := by
  have hw := wf64 hd
  have hz : (bs s).size ≤ maxLen := by rw [bs_size]; exact hs
  have hf : (Value.agg #[.int .i64 d, .string (bs s)]).formed Tryd.prog 124 = true := by
    simp [Value.formed, Tryd.underlying124, cellsPlace]
  unfold keyOf
  rw [Tryd.underlying124]
  simp only [keyPlace, hf, Bool.and_self, if_true]

  obtain ⟨n, hn⟩ : ∃ n, Tryd.prog.types.size = n + 2 := ⟨Tryd.prog.types.size - 2, by have := many; omega⟩
  rw [hn]
  simp [Program.keyLits, Tryd.underlying124, Tryd.underlying3, Tryd.underlying9, cellsPlace, cellsInt, cellsString, hw, hz, Value.cells, bs_data]

def kP : Kind (Int × Txt) Nat where
  kt := 124
  et := 93
  mt := 58
  kv := fun k => .agg #[.int .i64 k.1, .string (bs k.2)]
  kl := fun k => .string (keyBytes [.int .i64 k.1, .string k.2])
  ok := fun k => rng k.1 ∧ k.2.length ≤ maxLen
  ev := fun g => TP g
  enc := fun g => .lit (.int .i64 g)
  zv := .pointer none
  zd := .nil
  R := ptrR
def kG : Kind Int Nat where
  kt := 3
  et := 93
  mt := 59
  kv := fun k => .int .i64 k
  kl := fun k => .int .i64 k
  ok := rng
  ev := fun g => TP g
  enc := fun g => .lit (.int .i64 g)
  zv := .pointer none
  zd := .nil
  R := ptrR
def kZ : Kind Int Int where
  kt := 3
  et := 3
  mt := 60
  kv := fun k => .int .i64 k
  kl := fun k => .int .i64 k
  ok := rng
  ev := fun n => .int .i64 n
  enc := fun n => .lit (.int .i64 n)
  zv := .int .i64 0
  zd := .lit (.int .i64 0)
  R := intR

theorem zero_ptr (w : World) : (zeroValue 93).run Tryd.prog w = .ok (.pointer none) w := by kernel_rfl
theorem zero_int (w : World) : (zeroValue 3).run Tryd.prog w = .ok (.int .i64 0) w := by kernel_rfl

theorem goodP : kP.Good Tryd.prog where
  keyed := lawPlace
  under := Tryd.underlying58
  key := fun k hk => key_place hk.1 hk.2
  inj := fun k k' h => by
    simp only [kP, Value.agg.injEq, Array.mk.injEq, List.cons.injEq, Value.int.injEq, Value.string.injEq, true_and, and_true] at h
    exact Prod.ext h.1 (bs_inj h.2)
  zero := zero_ptr
  zr := rfl
  rd := fun g => ptrR_mk g
  back := fun _ _ _ h => ptrR_inv h
  backz := fun _ _ h => ptrR_nil h
theorem goodG : kG.Good Tryd.prog where
  keyed := lawInt
  under := Tryd.underlying59
  key := fun k hk => Maps.keyOf_int_mk Tryd.underlying3 (wf64 hk)
  inj := fun k k' h => by simpa [kG] using h
  zero := zero_ptr
  zr := rfl
  rd := fun g => ptrR_mk g
  back := fun _ _ _ h => ptrR_inv h
  backz := fun _ _ h => ptrR_nil h
theorem goodZ : kZ.Good Tryd.prog where
  keyed := lawInt
  under := Tryd.underlying60
  key := fun k hk => Maps.keyOf_int_mk Tryd.underlying3 (wf64 hk)
  inj := fun k k' h => by simpa [kZ] using h
  zero := zero_int
  zr := rfl
  rd := fun _ => rfl
  back := fun _ _ _ h => intR_inv h
  backz := fun _ _ h => intR_inv h

/-- what the maps answer -/
def ptrOf : Option Nat → Value
  | none => .pointer none
  | some g => TP g
theorem elemP (f : Int × Txt → Option Nat) (k : Int × Txt) : elem kP f k = ptrOf (f k) := by cases h : f k <;> simp [elem, h, ptrOf, kP]
theorem elemG (f : Int → Option Nat) (k : Int) : elem kG f k = ptrOf (f k) := by cases h : f k <;> simp [elem, h, ptrOf, kG]
theorem elemZ (f : Int → Option Int) (k : Int) : elem kZ f k = .int .i64 ((f k).getD 0) := by cases h : f k <;> simp [elem, h, kZ]

/-! ### rows of names -/

def vals (qs : List Txt) : List Value := qs.map fun p => Value.string (bs p)
def Nm (w : World) (v : Value) (qs : List Txt) : Prop := w.ownsRow 0 9 1 v qs.length (vals qs)
def Ac (w : World) (v : Value) (l : List Tm) : Prop := A.Own 0 w v l

/-- a row whose block is as it was -/
theorem row_of {w w' : World} {e : TypeId} {sz : Nat} {v : Value} {n : Nat} {xs : List Value} (h : w.ownsRow 0 e sz v n xs) (hk : ∀ k, v.ownBlock = some k → w'.heap[k]? = w.heap[k]?) : w'.ownsRow 0 e sz v n xs := by
  refine ⟨h.1, ?_⟩
  rcases h.2 with h2 | ⟨g, cap, cur, rfl, hb, hg, r⟩
  · exact Or.inl h2
  · exact Or.inr ⟨g, cap, cur, rfl, hb, (hk g rfl).trans hg, r⟩
theorem row_tag {w : World} {e : TypeId} {sz : Nat} {v : Value} {n : Nat} {xs : List Value} (h : w.ownsRow 0 e sz v n xs) {k : Nat} (hk : v.ownBlock = some k) : ∃ cs, w.heap[k]? = some (.cells cs e (0, 0)) := by
  rcases h.2 with ⟨rfl, _⟩ | ⟨g, cap, cur, rfl, hb, hg, r⟩
  · cases hk
  · cases hk
    exact ⟨cur, hg⟩

/-! ### the tree -/

/-- a node's numbers and texts are such as the program's are -/
structure Nd.Ok (x : Nd) (c : Nat) : Prop where
  names : x.names.length ≤ c
  home : rng x.home
  uid : rng x.br.uid
  dir : rng x.br.dir
  txt : ∀ s ∈ x.names, s.length ≤ maxLen
  acl : x.br.acl.length ≤ 1000000
theorem Nd.Ok.mono {x : Nd} {c c' : Nat} (h : x.Ok c) (hc : c ≤ c') : x.Ok c' := ⟨Nat.le_trans h.names hc, h.home, h.uid, h.dir, h.txt, h.acl⟩

/-- a node in memory -/
structure NodeL (w : World) (F : Nat → Prop) (c g : Nat) (x : Nd) (va vn : Value) : Prop where
  cells : w.heap[g]? = some (NdO x va vn)
  inF : F g
  acl : Ac w va x.br.acl
  aclF : ∀ k, va.ownBlock = some k → F k
  nam : Nm w vn x.names
  namF : ∀ k, vn.ownBlock = some k → F k
  ok : x.Ok c

structure TreeL (w : World) (b : Nat) (F : Nat → Prop) (c : Nat) (st : St) (mp mg mz : Option Nat) (av nv : Nat → Value) : Prop where
  head : w.heap[b]? = some (TrO st.last mp mg mz)
  inF : F b
  ltF : ∀ i, F i → i < w.heap.size
  tabs : (mp = none ∧ mg = none ∧ mz = none) ∨ ∃ p g z, mp = some p ∧ mg = some g ∧ mz = some z ∧ p ≠ g ∧ p ≠ z ∧ g ≠ z
  inP : ∀ mb, mp = some mb → F mb
  inG : ∀ mb, mg = some mb → F mb
  inZ : ∀ mb, mz = some mb → F mb
  mapP : MapO kP Tryd.prog w mp c st.P
  mapG : MapO kG Tryd.prog w mg c st.G
  mapZ : MapO kZ Tryd.prog w mz c st.Z
  node : ∀ g x, st.N g = some x → NodeL w F c g x (av g) (nv g)
  apart : ∀ g g' x x', st.N g = some x → st.N g' = some x' → ∀ k, (nv g).ownBlock = some k → (nv g').ownBlock = some k → g = g'
  thereP : ∀ k g, st.P k = some g → ∃ x, st.N g = some x
  thereG : ∀ k g, st.G k = some g → ∃ x, st.N g = some x
  zb : ∀ d n, st.Z d = some n → -(c : Int) ≤ n ∧ n ≤ c
  lb : 0 ≤ st.last ∧ st.last ≤ c

def TreeAt (w : World) (b : Nat) (F : Nat → Prop) (c : Nat) (st : St) : Prop := ∃ mp mg mz av nv, TreeL w b F c st mp mg mz av nv

/-- a call changed the blocks F and made new ones; the tree's blocks are F' now -/
structure Went (F : Nat → Prop) (w : World) (F' : Nat → Prop) (w' : World) : Prop where
  os : w'.os = w.os
  tape : w'.tape = w.tape
  output : w'.output = w.output
  size : w.heap.size ≤ w'.heap.size
  block : ∀ i, i < w.heap.size → ¬ F i → w'.heap[i]? = w.heap[i]?
  foot : ∀ i, F' i → F i ∨ w.heap.size ≤ i

theorem Went.refl (F : Nat → Prop) (w : World) : Went F w F w := ⟨rfl, rfl, rfl, Nat.le_refl _, fun _ _ _ => rfl, fun _ h => Or.inl h⟩
theorem Went.trans {F F' F'' : Nat → Prop} {w w' w'' : World} (h : Went F w F' w') (h' : Went F' w' F'' w'') : Went F w F'' w'' :=
  ⟨h'.os.trans h.os, h'.tape.trans h.tape, h'.output.trans h.output, Nat.le_trans h.size h'.size,
    fun i hi hn => (h'.block i (Nat.lt_of_lt_of_le hi h.size) (fun hf => (h.foot i hf).elim hn (fun hg => by omega))).trans (h.block i hi hn),
    fun i hi => (h'.foot i hi).elim (fun hf => h.foot i hf) (fun hg => Or.inr (Nat.le_trans h.size hg))⟩
theorem Went.below {F F' : Nat → Prop} {w w' : World} (h : Went F w F' w') {B : Nat} (hB : ∀ i, F i → B ≤ i) (hs : B ≤ w.heap.size) : Below B w w' :=
  ⟨h.os, h.tape, h.output, h.size, fun i hi => h.block i (by omega) (fun hf => by have := hB i hf; omega)⟩
theorem Went.ge {F F' : Nat → Prop} {w w' : World} (h : Went F w F' w') {B : Nat} (hB : ∀ i, F i → B ≤ i) (hs : B ≤ w.heap.size) : ∀ i, F' i → B ≤ i :=
  fun i hi => (h.foot i hi).elim (hB i) (fun hg => by omega)
theorem Went.out {F F' : Nat → Prop} {w w' : World} (h : Went F w F' w') {g : Nat} (hg : g < w.heap.size) (hn : ¬ F g) : ¬ F' g := fun hf => (h.foot g hf).elim hn (fun h => by omega)
theorem Went.of_below {F : Nat → Prop} {w w' : World} (h : Below w.heap.size w w') : Went F w F w' :=
  ⟨h.os, h.tape, h.output, h.size, fun i hi _ => h.block i hi, fun _ h => Or.inl h⟩
/-- what was new may be the tree's now -/
theorem Went.more {F F' : Nat → Prop} {w w' : World} (h : Went F w F w') (hf : ∀ i, F' i → F i ∨ w.heap.size ≤ i) : Went F w F' w' := ⟨h.os, h.tape, h.output, h.size, h.block, hf⟩
theorem Went.grown {F : Nat → Prop} {w w' : World} {k : Nat} (h : w.grownBy w' (some k)) (hk : F k) : Went F w F w' :=
  ⟨h.os, h.tape, h.output, h.size, fun i hi hn => h.block i hi (fun e => hn (by cases e; exact hk)), fun _ h => Or.inl h⟩
theorem Went.set {F F' : Nat → Prop} {w w' : World} (h : Went F w F' w') {b i : Nat} {v : Value} (hb : F' b) : Went F w F' (w'.setCell ⟨b, i, none⟩ v) :=
  ⟨h.os, h.tape, h.output, by simpa using h.size, fun j hj hn => by
    rw [Below.heap_setCell _ _ _ _ (fun e => (h.foot b hb).elim (fun hf => hn (by rw [e]; exact hf)) (fun hg => by simp at e; omega))]
    exact h.block j hj hn, h.foot⟩

theorem head_set {w : World} {b : Nat} {cs : Array Value} {t : TypeId} {fr : Nat × Nat} (h : w.heap[b]? = some (.cells cs t fr)) (i : Nat) (v : Value) : (w.setCell ⟨b, i, none⟩ v).heap[b]? = some (.cells (cs.setIfInBounds i v) t fr) := by
  rw [setCell_eq_setRow w b i cs t fr v h]
  exact setRow_heap _ _ _ _ _ _ h
theorem other_set {w : World} {b k : Nat} (i : Nat) (v : Value) (h : k ≠ b) : (w.setCell ⟨b, i, none⟩ v).heap[k]? = w.heap[k]? := Below.heap_setCell _ _ _ _ h

section
variable {w : World} {b : Nat} {F : Nat → Prop} {c : Nat} {st : St} {mp mg mz : Option Nat} {av nv : Nat → Value}

theorem NodeL.keep {g : Nat} {x : Nd} {va vn : Value} (h : NodeL w F c g x va vn) {w' : World} {F' : Nat → Prop} (hF : ∀ i, F i → F' i) (hk : ∀ i, F i → w'.heap[i]? = w.heap[i]?) {c' : Nat} (hc : c ≤ c') : NodeL w' F' c' g x va vn where
  cells := (hk g h.inF).trans h.cells
  inF := hF g h.inF
  acl := row_of h.acl (fun k e => hk k (h.aclF k e))
  aclF := fun k e => hF k (h.aclF k e)
  nam := row_of h.nam (fun k e => hk k (h.namF k e))
  namF := fun k e => hF k (h.namF k e)
  ok := h.ok.mono hc

theorem MapO.keep {κ α : Type} {s : Kind κ α} {P : Program} {m : Option Nat} {f : κ → Option α} (h : MapO s P w m c f) {w' : World} {c' : Nat} (hc : c ≤ c') (hk : ∀ mb, m = some mb → w'.heap[mb]? = w.heap[mb]?) : MapO s P w' m c' f :=
  ⟨h.1, fun mb e => ((h.2 mb e).of (hk mb e)).mono hc⟩

/-- other blocks may change -/
theorem TreeL.keep (h : TreeL w b F c st mp mg mz av nv) {w' : World} (hs : w.heap.size ≤ w'.heap.size) (hk : ∀ i, F i → w'.heap[i]? = w.heap[i]?) : TreeL w' b F c st mp mg mz av nv where
  head := (hk b h.inF).trans h.head
  inF := h.inF
  ltF := fun i hi => Nat.lt_of_lt_of_le (h.ltF i hi) hs
  tabs := h.tabs
  inP := h.inP
  inG := h.inG
  inZ := h.inZ
  mapP := h.mapP.keep (Nat.le_refl _) (fun mb e => hk mb (h.inP mb e))
  mapG := h.mapG.keep (Nat.le_refl _) (fun mb e => hk mb (h.inG mb e))
  mapZ := h.mapZ.keep (Nat.le_refl _) (fun mb e => hk mb (h.inZ mb e))
  node := fun g x e => (h.node g x e).keep (fun _ h => h) hk (Nat.le_refl _)
  apart := h.apart
  thereP := h.thereP
  thereG := h.thereG
  zb := h.zb
  lb := h.lb
theorem TreeL.mono (h : TreeL w b F c st mp mg mz av nv) {c' : Nat} (hc : c ≤ c') : TreeL w b F c' st mp mg mz av nv where
  head := h.head
  inF := h.inF
  ltF := h.ltF
  tabs := h.tabs
  inP := h.inP
  inG := h.inG
  inZ := h.inZ
  mapP := h.mapP.keep hc (fun _ _ => rfl)
  mapG := h.mapG.keep hc (fun _ _ => rfl)
  mapZ := h.mapZ.keep hc (fun _ _ => rfl)
  node := fun g x e => (h.node g x e).keep (fun _ h => h) (fun _ _ => rfl) hc
  apart := h.apart
  thereP := h.thereP
  thereG := h.thereG
  zb := fun d n e => by have := h.zb d n e; omega
  lb := by have := h.lb; omega

theorem TreeL.drew (h : TreeL w b F c st mp mg mz av nv) : TreeL w.drew b F c st mp mg mz av nv := h.keep (Nat.le_refl _) (fun _ _ => rfl)
theorem TreeL.drewN (h : TreeL w b F c st mp mg mz av nv) (n : Nat) : TreeL (w.drewN n) b F c st mp mg mz av nv := h.keep (Nat.le_refl _) (fun _ _ => rfl)
theorem TreeL.below (h : TreeL w b F c st mp mg mz av nv) {w' : World} (hb : Below w.heap.size w w') : TreeL w' b F c st mp mg mz av nv := h.keep hb.size (fun i hi => hb.block i (h.ltF i hi))
theorem TreeAt.keep (h : TreeAt w b F c st) {w' : World} (hs : w.heap.size ≤ w'.heap.size) (hk : ∀ i, F i → w'.heap[i]? = w.heap[i]?) : TreeAt w' b F c st := by
  obtain ⟨mp, mg, mz, av, nv, h⟩ := h
  exact ⟨mp, mg, mz, av, nv, h.keep hs hk⟩
theorem TreeAt.ltF (h : TreeAt w b F c st) : ∀ i, F i → i < w.heap.size := by
  obtain ⟨mp, mg, mz, av, nv, h⟩ := h
  exact h.ltF
theorem TreeAt.mono (h : TreeAt w b F c st) {c' : Nat} (hc : c ≤ c') : TreeAt w b F c' st := by
  obtain ⟨mp, mg, mz, av, nv, h⟩ := h
  exact ⟨mp, mg, mz, av, nv, h.mono hc⟩
theorem TreeAt.below (h : TreeAt w b F c st) {w' : World} (hb : Below w.heap.size w w') : TreeAt w' b F c st := h.keep hb.size (fun i hi => hb.block i (h.ltF i hi))
theorem TreeAt.drewN (h : TreeAt w b F c st) (n : Nat) : TreeAt (w.drewN n) b F c st := h.keep (Nat.le_refl _) (fun _ _ => rfl)
theorem TreeAt.set (h : TreeAt w b F c st) {g i : Nat} {v : Value} (hg : ¬ F g) : TreeAt (w.setCell ⟨g, i, none⟩ v) b F c st :=
  h.keep (by simp) (fun j hj => other_set _ _ (fun e => hg (e ▸ hj)))

theorem TreeL.c0 (h : TreeL w b F c st mp mg mz av nv) : w.cell? ⟨b, 0, none⟩ = some (.int .i64 st.last) := by simp [World.cell?, h.head]
theorem TreeL.c1 (h : TreeL w b F c st mp mg mz av nv) : w.cell? ⟨b, 1, none⟩ = some (.map mp) := by simp [World.cell?, h.head]
theorem TreeL.c2 (h : TreeL w b F c st mp mg mz av nv) : w.cell? ⟨b, 2, none⟩ = some (.map mg) := by simp [World.cell?, h.head]
theorem TreeL.c3 (h : TreeL w b F c st mp mg mz av nv) : w.cell? ⟨b, 3, none⟩ = some (.map mz) := by simp [World.cell?, h.head]
theorem TreeL.fz (h : TreeL w b F c st mp mg mz av nv) (i : Nat) : w.frozen? ⟨b, i, none⟩ = false := by simp [World.frozen?, h.head]
theorem TreeL.lt (h : TreeL w b F c st mp mg mz av nv) : b < w.heap.size := h.ltF b h.inF

/-! ### no block is two things -/

theorem TreeL.node_ne (h : TreeL w b F c st mp mg mz av nv) {g : Nat} {x : Nd} (hg : st.N g = some x) : g ≠ b := by
  intro e
  have h1 := (h.node g x hg).cells
  rw [e, h.head] at h1
  simp at h1
theorem TreeL.map_ne (h : TreeL w b F c st mp mg mz av nv) {m : Nat} {es : Array MapEntry} {cl : Nat} (hm : w.heap[m]? = some (.map es cl)) : m ≠ b := by
  intro e
  rw [e, h.head] at hm
  simp at hm
theorem tag_ne {i j : Nat} {cs cs' : Array Value} {t t' : TypeId} {f f' : Nat × Nat} (hi : w.heap[i]? = some (.cells cs t f)) (hj : w.heap[j]? = some (.cells cs' t' f')) (ht : t ≠ t') : i ≠ j := by
  intro e
  rw [e, hj] at hi
  simp at hi
  exact ht hi.2.1.symm
theorem map_cells_ne {m j : Nat} {es : Array MapEntry} {cl : Nat} {cs' : Array Value} {t' : TypeId} {f' : Nat × Nat} (hm : w.heap[m]? = some (.map es cl)) (hj : w.heap[j]? = some (.cells cs' t' f')) : m ≠ j := by
  intro e
  rw [e, hj] at hm
  simp at hm

/-- a block that is none of the rows' and nodes' may change, beside the head and the maps -/
theorem TreeL.nodes_keep (h : TreeL w b F c st mp mg mz av nv) {w' : World} {m : Nat} (hk : ∀ i, F i → i ≠ m → w'.heap[i]? = w.heap[i]?) (hm : (∃ es cl, w.heap[m]? = some (.map es cl)) ∨ m = b) {c' : Nat} (hc : c ≤ c') :
    ∀ g x, st.N g = some x → NodeL w' F c' g x (av g) (nv g) := by
  intro g x e
  have hn := h.node g x e
  have ne : ∀ i cs t f, w.heap[i]? = some (.cells cs t f) → t ≠ 62 → i ≠ m := by
    intro i cs t f hi ht
    rcases hm with ⟨es, cl, hm⟩ | rfl
    · exact (map_cells_ne hm hi).symm
    · exact tag_ne hi h.head ht
  have na : ∀ k, (av g).ownBlock = some k → w'.heap[k]? = w.heap[k]? := fun k ek => by
    obtain ⟨cs, hcs⟩ := row_tag hn.acl ek
    exact hk k (hn.aclF k ek) (ne _ _ _ _ hcs (by decide))
  have nn : ∀ k, (nv g).ownBlock = some k → w'.heap[k]? = w.heap[k]? := fun k ek => by
    obtain ⟨cs, hcs⟩ := row_tag hn.nam ek
    exact hk k (hn.namF k ek) (ne _ _ _ _ hcs (by decide))
  exact {
    cells := (hk g hn.inF (ne _ _ _ _ hn.cells (by decide))).trans hn.cells
    inF := hn.inF
    acl := row_of hn.acl na
    aclF := hn.aclF
    nam := row_of hn.nam nn
    namF := hn.namF
    ok := hn.ok.mono hc }

end

end Go.Proofs.YtpcdcmoapenbdaaDoor.T
