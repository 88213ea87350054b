/-
  The document's own tree in memory: one block of three slices (branches, entries, which directories there are), each a row of its own; each branch has a list of terms in a row of its own. Ms tells it as plain lists.
-/
import Derived.Test.YtdlgliajfmfngaaDoorWSees
namespace Go.Proofs.YtdlgliajfmfngaaDoor.T
open Go.ChangeShapes Go.WideShapes Go.ChangeAt Go.RowKit
open Go.Proofs.YtdlgliajfmfngaaDoor.N (bs bs_data bs_size bs_inj bs_of Glob)
open Go.Proofs.YtdlgliajfmfngaaDoor.A (Tm TRow)

/-- an entry: its directory, its branch's number, its name -/
abbrev En := Int × Nat × Txt
structure Ms where
  B : List Br
  E : List En
  D : List Bool

def brC (p : Br × Value) : List Value := [.int .i64 p.1.kind, .int .i64 p.1.uid, .int .i64 p.1.dir, .string (bs p.1.link), .bool p.1.obj, p.2, .int .i64 p.1.r1, .int .i64 p.1.r2, .int .i64 p.1.r3, .int .i64 p.1.gt]
def enC (e : En) : List Value := [.int .i64 e.1, .int .i64 (e.2.1 : Int), .string (bs e.2.2)]
def boC (b : Bool) : List Value := [.bool b]
@[reducible] def MtO (vB vL vD : Value) : Obj := .cells #[vB, vL, vD] 70 (0, 0)

/-! ### rows of values of several cells -/

theorem flat_get {α : Type} (f : α → List Value) (k : Nat) (hf : ∀ x, (f x).length = k) : ∀ (l : List α) (i : Nat) (h : i < l.length) (j : Nat), j < k → (l.flatMap f)[i * k + j]? = (f l[i])[j]?
  | x :: l, 0, _, j, hj => by
    rw [List.flatMap_cons, Nat.zero_mul, Nat.zero_add, List.getElem?_append_left (by rw [hf]; exact hj)]
    rfl
  | x :: l, i + 1, h, j, hj => by
    rw [List.flatMap_cons, List.getElem?_append_right (by rw [hf, Nat.succ_mul]; omega), hf]
    have : (i + 1) * k + j - k = i * k + j := by rw [Nat.succ_mul]; omega
    rw [this]
    exact flat_get f k hf l i (by simpa using h) j hj
theorem flat_len {α : Type} (f : α → List Value) (k : Nat) (hf : ∀ x, (f x).length = k) : ∀ l : List α, (l.flatMap f).length = l.length * k
  | [] => by simp
  | x :: l => by rw [List.flatMap_cons, List.length_append, flat_len f k hf l, hf, List.length_cons, Nat.succ_mul]; omega
/-- one cell of one element changes -/
theorem flat_set {α : Type} (f : α → List Value) (k : Nat) (hf : ∀ x, (f x).length = k) {y : α} {j : Nat} {u : Value} : ∀ (l : List α) (i : Nat) (h : i < l.length), j < k → (f l[i]).set j u = f y → (l.flatMap f).set (i * k + j) u = (l.set i y).flatMap f
  | x :: l, 0, _, hj, e => by
    rw [List.flatMap_cons, Nat.zero_mul, Nat.zero_add, List.set_append_left _ _ (by rw [hf]; exact hj), List.set_cons_zero, List.flatMap_cons]
    exact congrArg (· ++ _) e
  | x :: l, i + 1, h, hj, e => by
    rw [List.flatMap_cons, List.set_append_right _ _ (by rw [hf, Nat.succ_mul]; omega), hf, List.set_cons_succ, List.flatMap_cons]
    have : (i + 1) * k + j - k = i * k + j := by rw [Nat.succ_mul]; omega
    rw [this, flat_set f k hf l i (by simpa using h) hj e]
theorem brC_len (p : Br × Value) : (brC p).length = 10 := rfl
theorem enC_len (e : En) : (enC e).length = 3 := rfl
theorem boC_len (b : Bool) : (boC b).length = 1 := rfl

/-- where an element of a row lies -/
theorem row_form {w : World} {base : Nat} {e : TypeId} {sz : Nat} {v : Value} {n : Nat} {xs : List Value} (h : w.ownsRow base e sz v n xs) : ∃ a cap, v = .slice a n cap ∧ n ≤ cap ∧ (0 < n → ∃ g, a = some ⟨g, 0, none⟩ ∧ g < w.heap.size ∧ base ≤ g) ∧ (a = none → cap = 0) := by
  have h' := h
  rcases h.2 with ⟨rfl, rfl⟩ | ⟨g, cap, cur, rfl, hb, hg, hn, _⟩
  · exact ⟨none, 0, rfl, Nat.le_refl _, fun h => by omega, fun _ => rfl⟩
  · exact ⟨_, cap, rfl, hn, fun _ => ⟨g, rfl, (Array.getElem?_eq_some_iff.1 hg).1, hb⟩, fun h => by cases h⟩
theorem row_at {α : Type} {f : α → List Value} {k : Nat} (hf : ∀ x, (f x).length = k) {w : World} {base : Nat} {e : TypeId} {a : Option Addr} {n cap : Nat} {l : List α} (h : w.ownsRow base e k (.slice a n cap) l.length (l.flatMap f)) {i : Nat} (hi : i < l.length) :
    ∃ g, a = some ⟨g, 0, none⟩ ∧ n = l.length ∧ n ≤ cap ∧ g < w.heap.size ∧ base ≤ g ∧ (∀ j, j < k → w.cell? ⟨g, i * k + j, none⟩ = (f l[i])[j]?) ∧ (∀ j, w.frozen? ⟨g, j, none⟩ = false) := by
  obtain ⟨a', cap', e1, hc, hg, _⟩ := row_form h
  cases e1
  obtain ⟨g, rfl, hlt, hb⟩ := hg (by omega)
  refine ⟨g, rfl, rfl, hc, hlt, hb, fun j hj => ?_, fun j => World.ownsRow.frozenAt h j⟩
  rw [World.ownsRow.cellAt h (i * k + j) (by have : (i + 1) * k ≤ l.length * k := Nat.mul_le_mul_right _ hi; rw [Nat.succ_mul] at this; omega)]
  exact flat_get f k hf l i hi j hj

structure ML (w : World) (b : Nat) (F : Nat → Prop) (bl : List (Br × Value)) (E : List En) (D : List Bool) (vB vL vD : Value) : Prop where
  head : w.heap[b]? = some (MtO vB vL vD)
  inF : F b
  ltF : ∀ i, F i → i < w.heap.size
  rB : w.ownsRow 0 35 10 vB bl.length (bl.flatMap brC)
  fB : ∀ k, vB.ownBlock = some k → F k
  rL : w.ownsRow 0 100 3 vL E.length (E.flatMap enC)
  fL : ∀ k, vL.ownBlock = some k → F k
  rD : w.ownsRow 0 4 1 vD D.length (D.flatMap boC)
  fD : ∀ k, vD.ownBlock = some k → F k
  acl : ∀ p ∈ bl, A.Own 0 w p.2 p.1.acl
  fA : ∀ p ∈ bl, ∀ k, p.2.ownBlock = some k → F k
  len : bl.length ≤ 1000 ∧ E.length ≤ 1000 ∧ D.length ≤ 1000
  ids : ∀ e ∈ E, e.2.1 < bl.length

def MAt (w : World) (b : Nat) (F : Nat → Prop) (m : Ms) : Prop := ∃ bl vB vL vD, ML w b F bl m.E m.D vB vL vD ∧ bl.map Prod.fst = m.B

section
variable {w : World} {b : Nat} {F : Nat → Prop} {bl : List (Br × Value)} {E : List En} {D : List Bool} {vB vL vD : Value}

theorem ML.keep (h : ML w b F bl E D vB vL vD) {w' : World} (hs : w.heap.size ≤ w'.heap.size) (hk : ∀ i, F i → w'.heap[i]? = w.heap[i]?) : ML w' b F bl E D vB vL vD where
  head := (hk b h.inF).trans h.head
  inF := h.inF
  ltF := fun i hi => Nat.lt_of_lt_of_le (h.ltF i hi) hs
  rB := row_of h.rB (fun k e => hk k (h.fB k e))
  fB := h.fB
  rL := row_of h.rL (fun k e => hk k (h.fL k e))
  fL := h.fL
  rD := row_of h.rD (fun k e => hk k (h.fD k e))
  fD := h.fD
  acl := fun p hp => row_of (h.acl p hp) (fun k e => hk k (h.fA p hp k e))
  fA := h.fA
  len := h.len
  ids := h.ids
theorem ML.below (h : ML w b F bl E D vB vL vD) {w' : World} (hb : Below w.heap.size w w') : ML w' b F bl E D vB vL vD := h.keep hb.size (fun i hi => hb.block i (h.ltF i hi))
theorem ML.lt (h : ML w b F bl E D vB vL vD) : b < w.heap.size := h.ltF b h.inF
theorem ML.c0 (h : ML w b F bl E D vB vL vD) : w.cell? ⟨b, 0, none⟩ = some vB := by simp [World.cell?, h.head]
theorem ML.c1 (h : ML w b F bl E D vB vL vD) : w.cell? ⟨b, 1, none⟩ = some vL := by simp [World.cell?, h.head]
theorem ML.c2 (h : ML w b F bl E D vB vL vD) : w.cell? ⟨b, 2, none⟩ = some vD := by simp [World.cell?, h.head]
theorem ML.fz (h : ML w b F bl E D vB vL vD) (i : Nat) : w.frozen? ⟨b, i, none⟩ = false := by simp [World.frozen?, h.head]

/-- the entries: where they lie -/
theorem ML.eForm (h : ML w b F bl E D vB vL vD) : ∃ a cap, vL = .slice a E.length cap ∧ E.length ≤ cap ∧ (a = none → cap = 0) ∧ (0 < E.length → ∃ g, a = some ⟨g, 0, none⟩ ∧ g < w.heap.size) := by
  obtain ⟨a, cap, e, hc, hg, hn⟩ := row_form h.rL
  exact ⟨a, cap, e, hc, hn, fun h => by obtain ⟨g, e, h, _⟩ := hg h; exact ⟨g, e, h⟩⟩
theorem ML.eAt {a : Option Addr} {n cap : Nat} (h : ML w b F bl E D vB (.slice a n cap) vD) {i : Nat} (hi : i < E.length) :
    ∃ g, a = some ⟨g, 0, none⟩ ∧ g < w.heap.size ∧ w.cell? ⟨g, i * 3, none⟩ = some (.int .i64 E[i].1) ∧ w.cell? ⟨g, i * 3 + 1, none⟩ = some (.int .i64 (E[i].2.1 : Int)) ∧ w.cell? ⟨g, i * 3 + 2, none⟩ = some (.string (bs E[i].2.2)) := by
  obtain ⟨g, e, _, _, hl, _, hc, _⟩ := row_at enC_len h.rL hi
  exact ⟨g, e, hl, hc 0 (by omega), hc 1 (by omega), hc 2 (by omega)⟩
theorem ML.bAt {a : Option Addr} {n cap : Nat} (h : ML w b F bl E D (.slice a n cap) vL vD) {i : Nat} (hi : i < bl.length) :
    ∃ g, a = some ⟨g, 0, none⟩ ∧ n = bl.length ∧ n ≤ cap ∧ g < w.heap.size ∧ (∀ j, j < 10 → w.cell? ⟨g, i * 10 + j, none⟩ = (brC bl[i])[j]?) ∧ (∀ j, w.frozen? ⟨g, j, none⟩ = false) := by
  obtain ⟨g, e, e2, hc2, hl, _, hc, hf⟩ := row_at brC_len h.rB hi
  exact ⟨g, e, e2, hc2, hl, hc, hf⟩
theorem ML.dAt {a : Option Addr} {n cap : Nat} (h : ML w b F bl E D vB vL (.slice a n cap)) {i : Nat} (hi : i < D.length) :
    ∃ g, a = some ⟨g, 0, none⟩ ∧ n = D.length ∧ n ≤ cap ∧ g < w.heap.size ∧ w.cell? ⟨g, i, none⟩ = some (.bool D[i]) ∧ (∀ j, w.frozen? ⟨g, j, none⟩ = false) := by
  obtain ⟨g, e, e2, hc2, hl, _, hc, hf⟩ := row_at boC_len h.rD hi
  have := hc 0 (by omega)
  rw [Nat.mul_one, Nat.add_zero] at this
  exact ⟨g, e, e2, hc2, hl, this, hf⟩

end

theorem MAt.below {w : World} {b : Nat} {F : Nat → Prop} {m : Ms} (h : MAt w b F m) {w' : World} (hb : Below w.heap.size w w') : MAt w' b F m := by
  obtain ⟨bl, vB, vL, vD, h, e⟩ := h
  exact ⟨bl, vB, vL, vD, h.below hb, e⟩
theorem MAt.keep {w : World} {b : Nat} {F : Nat → Prop} {m : Ms} (h : MAt w b F m) {w' : World} (hs : w.heap.size ≤ w'.heap.size) (hk : ∀ i, F i → w'.heap[i]? = w.heap[i]?) : MAt w' b F m := by
  obtain ⟨bl, vB, vL, vD, h, e⟩ := h
  exact ⟨bl, vB, vL, vD, h.keep hs hk, e⟩
theorem MAt.ltF {w : World} {b : Nat} {F : Nat → Prop} {m : Ms} (h : MAt w b F m) : ∀ i, F i → i < w.heap.size := by
  obtain ⟨bl, vB, vL, vD, h, e⟩ := h
  exact h.ltF

def noMs : Ms := ⟨[], [], [true]⟩
theorem ms_new (w : World) : MAt ((w.alloc (.cells #[.bool true] 4)).alloc (MtO (.slice none 0 0) (.slice none 0 0) (.slice (some ⟨w.heap.size, 0, none⟩) 1 1))) (w.heap.size + 1) (fun i => i = w.heap.size ∨ i = w.heap.size + 1) noMs := by
  refine ⟨[], .slice none 0 0, .slice none 0 0, .slice (some ⟨w.heap.size, 0, none⟩) 1 1, ?_, rfl⟩
  exact {
    head := by have := heap_alloc_new (w.alloc (.cells #[.bool true] 4)) (MtO (.slice none 0 0) (.slice none 0 0) (.slice (some ⟨w.heap.size, 0, none⟩) 1 1)); simpa using this
    inF := Or.inr rfl
    ltF := fun i hi => by simp; omega
    rB := World.ownsRow_nil _ _ _ _
    fB := fun k e => by cases e
    rL := World.ownsRow_nil _ _ _ _
    fL := fun k e => by cases e
    rD := ⟨rfl, Or.inr ⟨w.heap.size, 1, #[.bool true], rfl, Nat.zero_le _, (heap_alloc_old _ _ (by simp)).trans (heap_alloc_new w _), Nat.le_refl _, by unfold maxLen; omega, rfl, rfl⟩⟩
    fD := fun k e => by cases e; exact Or.inl rfl
    acl := fun p hp => by cases hp
    fA := fun p hp => by cases hp
    len := by decide
    ids := fun e he => by cases he }

theorem mnew_at (w : World) : Calls Tryd.prog 11 #[] w fun e w' => ∃ b F, e = .returned (TP b) ∧ MAt w' b F noMs ∧ Below w.heap.size w w' ∧ (∀ i, F i → w.heap.size ≤ i) ∧ w.heap.size < w'.heap.size := by
  have H := Lib.hid (ms_new w)
  go_enter Tryd.func11, Tryd.ntmps11
  go_wp2
  go_ret
  exact ⟨_, _, rfl, H.out, bel2 (one_new _ _) (one_new _ _), fun i hi => by omega, by simp; omega⟩

end Go.Proofs.YtdlgliajfmfngaaDoor.T
