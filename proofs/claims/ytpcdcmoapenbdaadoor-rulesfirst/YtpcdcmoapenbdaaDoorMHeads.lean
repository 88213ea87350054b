/-
  The document's own tree in memory: one block of three slices (branches, entries, which directories there are), each a row of its own; each branch has a list of terms in a row of its own. Ms tells it as plain lists.
  The document's own tree: what only reads: at, dir, names, uid, Look.
  The document's own Look.
-/
import Derived.Test.YtpcdcmoapenbdaaDoorWSees
import Derived.IntWalk
namespace Go.Proofs.YtpcdcmoapenbdaaDoor.T
open Go.ChangeShapes Go.WideShapes Go.ChangeAt Go.RowKit
open Go.Proofs.YtpcdcmoapenbdaaDoor.N (bs bs_data bs_size bs_inj bs_of Glob)
open Go.Proofs.YtpcdcmoapenbdaaDoor.A (Tm TRow)

/-- an entry: its directory, its branch's number, its name -/
abbrev En := Int × Nat × Txt
structure Ms where
  B : List Br
  E : List En
  D : List Bool

def brC (p : Br × Value) : List Value := [.int .i64 p.1.kind, .int .i64 p.1.uid, .int .i64 p.1.dir, .string (bs p.1.link), .bool p.1.obj, p.2, .int .i64 p.1.r1, .int .i64 p.1.r2, .int .i64 p.1.r3, .int .i64 p.1.gt]
def enC (e : En) : List Value := [.int .i64 e.1, .int .i64 (e.2.1 : Int), .string (bs e.2.2)]
def boC (b : Bool) : List Value := [.bool b]
@[reducible] def MtO (vB vL vD : Value) : Obj := .cells #[vB, vL, vD] 67 (0, 0)

/-! ### rows of values of several cells -/

theorem flat_get {α : Type} (f : α → List Value) (k : Nat) (hf : ∀ x, (f x).length = k) : ∀ (l : List α) (i : Nat) (h : i < l.length) (j : Nat), j < k → (l.flatMap f)[i * k + j]? = (f l[i])[j]?
  | x :: l, 0, _, j, hj => by
    rw [List.flatMap_cons, Nat.zero_mul, Nat.zero_add, List.getElem?_append_left (by rw [hf]; exact hj)]
    rfl
  | x :: l, i + 1, h, j, hj => by
    rw [List.flatMap_cons, List.getElem?_append_right (by rw [hf, Nat.succ_mul]; omega), hf]
    have : (i + 1) * k + j - k = i * k + j := by rw [Nat.succ_mul]; omega
    rw [this]
    exact flat_get f k hf l i (by simpa using h) j hj
theorem flat_len {α : Type} (f : α → List Value) (k : Nat) (hf : ∀ x, (f x).length = k) : ∀ l : List α, (l.flatMap f).length = l.length * k
  | [] => by simp
  | x :: l => by rw [List.flatMap_cons, List.length_append, flat_len f k hf l, hf, List.length_cons, Nat.succ_mul]; omega
/-- one cell of one element changes -/
theorem flat_set {α : Type} (f : α → List Value) (k : Nat) (hf : ∀ x, (f x).length = k) {y : α} {j : Nat} {u : Value} : ∀ (l : List α) (i : Nat) (h : i < l.length), j < k → (f l[i]).set j u = f y → (l.flatMap f).set (i * k + j) u = (l.set i y).flatMap f
  | x :: l, 0, _, hj, e => by
    rw [List.flatMap_cons, Nat.zero_mul, Nat.zero_add, List.set_append_left _ _ (by rw [hf]; exact hj), List.set_cons_zero, List.flatMap_cons]
    exact congrArg (· ++ _) e
  | x :: l, i + 1, h, hj, e => by
    rw [List.flatMap_cons, List.set_append_right _ _ (by rw [hf, Nat.succ_mul]; omega), hf, List.set_cons_succ, List.flatMap_cons]
    have : (i + 1) * k + j - k = i * k + j := by rw [Nat.succ_mul]; omega
    rw [this, flat_set f k hf l i (by simpa using h) hj e]
theorem brC_len (p : Br × Value) : (brC p).length = 10 := rfl
theorem enC_len (e : En) : (enC e).length = 3 := rfl
theorem boC_len (b : Bool) : (boC b).length = 1 := rfl

/-- where an element of a row lies -/
theorem row_form {w : World} {base : Nat} {e : TypeId} {sz : Nat} {v : Value} {n : Nat} {xs : List Value} (h : w.ownsRow base e sz v n xs) : ∃ a cap, v = .slice a n cap ∧ n ≤ cap ∧ (0 < n → ∃ g, a = some ⟨g, 0, none⟩ ∧ g < w.heap.size ∧ base ≤ g) ∧ (a = none → cap = 0) := by
  have h' := h
  rcases h.2 with ⟨rfl, rfl⟩ | ⟨g, cap, cur, rfl, hb, hg, hn, _⟩
  · exact ⟨none, 0, rfl, Nat.le_refl _, fun h => by omega, fun _ => rfl⟩
  · exact ⟨_, cap, rfl, hn, fun _ => ⟨g, rfl, (Array.getElem?_eq_some_iff.1 hg).1, hb⟩, fun h => by cases h⟩
theorem row_at {α : Type} {f : α → List Value} {k : Nat} (hf : ∀ x, (f x).length = k) {w : World} {base : Nat} {e : TypeId} {a : Option Addr} {n cap : Nat} {l : List α} (h : w.ownsRow base e k (.slice a n cap) l.length (l.flatMap f)) {i : Nat} (hi : i < l.length) :
    ∃ g, a = some ⟨g, 0, none⟩ ∧ n = l.length ∧ n ≤ cap ∧ g < w.heap.size ∧ base ≤ g ∧ (∀ j, j < k → w.cell? ⟨g, i * k + j, none⟩ = (f l[i])[j]?) ∧ (∀ j, w.frozen? ⟨g, j, none⟩ = false) := by
  obtain ⟨a', cap', e1, hc, hg, _⟩ := row_form h
  cases e1
  obtain ⟨g, rfl, hlt, hb⟩ := hg (by omega)
  refine ⟨g, rfl, rfl, hc, hlt, hb, fun j hj => ?_, fun j => World.ownsRow.frozenAt h j⟩
  rw [World.ownsRow.cellAt h (i * k + j) (by have : (i + 1) * k ≤ l.length * k := Nat.mul_le_mul_right _ hi; rw [Nat.succ_mul] at this; omega)]
  exact flat_get f k hf l i hi j hj

structure ML (w : World) (b : Nat) (F : Nat → Prop) (bl : List (Br × Value)) (E : List En) (D : List Bool) (vB vL vD : Value) : Prop where
  head : w.heap[b]? = some (MtO vB vL vD)
  inF : F b
  ltF : ∀ i, F i → i < w.heap.size
  rB : w.ownsRow 0 36 10 vB bl.length (bl.flatMap brC)
  fB : ∀ k, vB.ownBlock = some k → F k
  rL : w.ownsRow 0 99 3 vL E.length (E.flatMap enC)
  fL : ∀ k, vL.ownBlock = some k → F k
  rD : w.ownsRow 0 4 1 vD D.length (D.flatMap boC)
  fD : ∀ k, vD.ownBlock = some k → F k
  acl : ∀ p ∈ bl, A.Own 0 w p.2 p.1.acl
  fA : ∀ p ∈ bl, ∀ k, p.2.ownBlock = some k → F k
  len : bl.length ≤ 1000 ∧ E.length ≤ 1000 ∧ D.length ≤ 1000
  ids : ∀ e ∈ E, e.2.1 < bl.length

def MAt (w : World) (b : Nat) (F : Nat → Prop) (m : Ms) : Prop := ∃ bl vB vL vD, ML w b F bl m.E m.D vB vL vD ∧ bl.map Prod.fst = m.B

section
variable {w : World} {b : Nat} {F : Nat → Prop} {bl : List (Br × Value)} {E : List En} {D : List Bool} {vB vL vD : Value}

theorem ML.keep (h : ML w b F bl E D vB vL vD) {w' : World} (hs : w.heap.size ≤ w'.heap.size) (hk : ∀ i, F i → w'.heap[i]? = w.heap[i]?) : ML w' b F bl E D vB vL vD where
  head := (hk b h.inF).trans h.head
  inF := h.inF
  ltF := fun i hi => Nat.lt_of_lt_of_le (h.ltF i hi) hs
  rB := row_of h.rB (fun k e => hk k (h.fB k e))
  fB := h.fB
  rL := row_of h.rL (fun k e => hk k (h.fL k e))
  fL := h.fL
  rD := row_of h.rD (fun k e => hk k (h.fD k e))
  fD := h.fD
  acl := fun p hp => row_of (h.acl p hp) (fun k e => hk k (h.fA p hp k e))
  fA := h.fA
  len := h.len
  ids := h.ids
theorem ML.below (h : ML w b F bl E D vB vL vD) {w' : World} (hb : Below w.heap.size w w') : ML w' b F bl E D vB vL vD := h.keep hb.size (fun i hi => hb.block i (h.ltF i hi))
theorem ML.lt (h : ML w b F bl E D vB vL vD) : b < w.heap.size := h.ltF b h.inF
theorem ML.c0 (h : ML w b F bl E D vB vL vD) : w.cell? ⟨b, 0, none⟩ = some vB := by simp [World.cell?, h.head]
theorem ML.c1 (h : ML w b F bl E D vB vL vD) : w.cell? ⟨b, 1, none⟩ = some vL := by simp [World.cell?, h.head]
theorem ML.c2 (h : ML w b F bl E D vB vL vD) : w.cell? ⟨b, 2, none⟩ = some vD := by simp [World.cell?, h.head]
theorem ML.fz (h : ML w b F bl E D vB vL vD) (i : Nat) : w.frozen? ⟨b, i, none⟩ = false := by simp [World.frozen?, h.head]

/-- the entries: where they lie -/
theorem ML.eForm (h : ML w b F bl E D vB vL vD) : ∃ a cap, vL = .slice a E.length cap ∧ E.length ≤ cap ∧ (a = none → cap = 0) ∧ (0 < E.length → ∃ g, a = some ⟨g, 0, none⟩ ∧ g < w.heap.size) := by
  obtain ⟨a, cap, e, hc, hg, hn⟩ := row_form h.rL
  exact ⟨a, cap, e, hc, hn, fun h => by obtain ⟨g, e, h, _⟩ := hg h; exact ⟨g, e, h⟩⟩
theorem ML.eAt {a : Option Addr} {n cap : Nat} (h : ML w b F bl E D vB (.slice a n cap) vD) {i : Nat} (hi : i < E.length) :
    ∃ g, a = some ⟨g, 0, none⟩ ∧ g < w.heap.size ∧ w.cell? ⟨g, i * 3, none⟩ = some (.int .i64 E[i].1) ∧ w.cell? ⟨g, i * 3 + 1, none⟩ = some (.int .i64 (E[i].2.1 : Int)) ∧ w.cell? ⟨g, i * 3 + 2, none⟩ = some (.string (bs E[i].2.2)) := by
  obtain ⟨g, e, _, _, hl, _, hc, _⟩ := row_at enC_len h.rL hi
  exact ⟨g, e, hl, hc 0 (by omega), hc 1 (by omega), hc 2 (by omega)⟩
theorem ML.bAt {a : Option Addr} {n cap : Nat} (h : ML w b F bl E D (.slice a n cap) vL vD) {i : Nat} (hi : i < bl.length) :
    ∃ g, a = some ⟨g, 0, none⟩ ∧ n = bl.length ∧ n ≤ cap ∧ g < w.heap.size ∧ (∀ j, j < 10 → w.cell? ⟨g, i * 10 + j, none⟩ = (brC bl[i])[j]?) ∧ (∀ j, w.frozen? ⟨g, j, none⟩ = false) := by
  obtain ⟨g, e, e2, hc2, hl, _, hc, hf⟩ := row_at brC_len h.rB hi
  exact ⟨g, e, e2, hc2, hl, hc, hf⟩
theorem ML.dAt {a : Option Addr} {n cap : Nat} (h : ML w b F bl E D vB vL (.slice a n cap)) {i : Nat} (hi : i < D.length) :
    ∃ g, a = some ⟨g, 0, none⟩ ∧ n = D.length ∧ n ≤ cap ∧ g < w.heap.size ∧ w.cell? ⟨g, i, none⟩ = some (.bool D[i]) ∧ (∀ j, w.frozen? ⟨g, j, none⟩ = false) := by
  obtain ⟨g, e, e2, hc2, hl, _, hc, hf⟩ := row_at boC_len h.rD hi
  have := hc 0 (by omega)
  rw [Nat.mul_one, Nat.add_zero] at this
  exact ⟨g, e, e2, hc2, hl, this, hf⟩

end

theorem MAt.below {w : World} {b : Nat} {F : Nat → Prop} {m : Ms} (h : MAt w b F m) {w' : World} (hb : Below w.heap.size w w') : MAt w' b F m := by
  obtain ⟨bl, vB, vL, vD, h, e⟩ := h
  exact ⟨bl, vB, vL, vD, h.below hb, e⟩
theorem MAt.keep {w : World} {b : Nat} {F : Nat → Prop} {m : Ms} (h : MAt w b F m) {w' : World} (hs : w.heap.size ≤ w'.heap.size) (hk : ∀ i, F i → w'.heap[i]? = w.heap[i]?) : MAt w' b F m := by
  obtain ⟨bl, vB, vL, vD, h, e⟩ := h
  exact ⟨bl, vB, vL, vD, h.keep hs hk, e⟩
theorem MAt.ltF {w : World} {b : Nat} {F : Nat → Prop} {m : Ms} (h : MAt w b F m) : ∀ i, F i → i < w.heap.size := by
  obtain ⟨bl, vB, vL, vD, h, e⟩ := h
  exact h.ltF

def noMs : Ms := ⟨[], [], [true]⟩
theorem ms_new (w : World) : MAt ((w.alloc (.cells #[.bool true] 4)).alloc (MtO (.slice none 0 0) (.slice none 0 0) (.slice (some ⟨w.heap.size, 0, none⟩) 1 1))) (w.heap.size + 1) (fun i => i = w.heap.size ∨ i = w.heap.size + 1) noMs := by
  refine ⟨[], .slice none 0 0, .slice none 0 0, .slice (some ⟨w.heap.size, 0, none⟩) 1 1, ?_, rfl⟩
  exact {
    head := by have := heap_alloc_new (w.alloc (.cells #[.bool true] 4)) (MtO (.slice none 0 0) (.slice none 0 0) (.slice (some ⟨w.heap.size, 0, none⟩) 1 1)); simpa using this
    inF := Or.inr rfl
    ltF := fun i hi => by simp; omega
    rB := World.ownsRow_nil _ _ _ _
    fB := fun k e => by cases e
    rL := World.ownsRow_nil _ _ _ _
    fL := fun k e => by cases e
    rD := ⟨rfl, Or.inr ⟨w.heap.size, 1, #[.bool true], rfl, Nat.zero_le _, (heap_alloc_old _ _ (by simp)).trans (heap_alloc_new w _), Nat.le_refl _, by unfold maxLen; omega, rfl, rfl⟩⟩
    fD := fun k e => by cases e; exact Or.inl rfl
    acl := fun p hp => by cases hp
    fA := fun p hp => by cases hp
    len := by decide
    ids := fun e he => by cases he }

theorem mnew_at (w : World) : Calls Tryd.prog 10 #[] w fun e w' => ∃ b F, e = .returned (TP b) ∧ MAt w' b F noMs ∧ Below w.heap.size w w' ∧ (∀ i, F i → w.heap.size ≤ i) ∧ w.heap.size < w'.heap.size := by
  have H := Lib.hid (ms_new w)
  go_enter Tryd.func10, Tryd.ntmps10
  go_wp2
  go_ret
  exact ⟨_, _, rfl, H.out, bel2 (one_new _ _) (one_new _ _), fun i hi => by omega, by simp; omega⟩

end Go.Proofs.YtpcdcmoapenbdaaDoor.T

namespace Go.Proofs.YtpcdcmoapenbdaaDoor.T
open Go.ChangeShapes Go.WideShapes Go.ChangeAt Go.RowKit
open Go.Proofs.YtpcdcmoapenbdaaDoor.N (bs bs_data bs_size bs_inj bs_of Glob txt_same txt_other)
open Go.Proofs.YtpcdcmoapenbdaaDoor.A (Tm TRow)

def isAt (d : Int) (s : Txt) (e : En) : Bool := decide (e.1 = d) && decide (e.2.2 = s)
def at? (E : List En) (d : Int) (s : Txt) : Option Nat := E.findIdx? (isAt d s)
def atN : Option Nat → Int
  | none => -1
  | some k => k
theorem at_some {E : List En} {d : Int} {s : Txt} {k : Nat} (hk : k < E.length) (h : isAt d s E[k] = true) (hb : ∀ j (hj : j < k), isAt d s (E[j]'(by omega)) = false) : at? E d s = some k := by
  unfold at?
  rw [List.findIdx?_eq_some_iff_getElem]
  exact ⟨hk, h, fun j hj => by simp [hb j hj]⟩
theorem at_none {E : List En} {d : Int} {s : Txt} (h : ∀ j (hj : j < E.length), isAt d s E[j] = false) : at? E d s = none := by
  unfold at?
  rw [List.findIdx?_eq_none_iff]
  intro x hx
  obtain ⟨j, hj, rfl⟩ := List.mem_iff_getElem.1 hx
  exact h j hj

section
variable {w : World} {b : Nat} {F : Nat → Prop} {m : Ms}

set_option maxHeartbeats 1000000 in
theorem mat_any (h : MAt w b F m) (d : Int) (s : Txt) :
    Calls Tryd.prog 45 #[TP b, .int .i64 d, .string (bs s)] w fun e w' => e = .returned (.int .i64 (atN (at? m.E d s))) ∧ w = w' := by
  obtain ⟨bl, vB, vL, vD, h, _⟩ := h
  have H := Lib.hid h
  obtain ⟨a, cap, rfl, hc, hn, hg⟩ := h.eForm
  have c1 := h.c1
  have hlen := h.len.2.1
  have hlt := h.lt
  clear h
  go_enter Tryd.func45, Tryd.ntmps45
  go_wp2
  go_loop [7] (fun i => ∃ k : Nat, k ≤ m.E.length ∧ i = .int .i64 k ∧ Hid (∀ j (hj : j < m.E.length), j < k → isAt d s m.E[j] = false)) (fun i => m.E.length - (intOf i).toNat)
  case atStart => exact ⟨0, Nat.zero_le _, rfl, Lib.hid (fun j _ h => by omega)⟩
  case round =>
    obtain ⟨k, hk, rfl, HJ⟩ := hrel
    by_cases hkl : k < m.E.length
    · obtain ⟨g, rfl, hgl, e0, e1, e2⟩ := H.out.eAt hkl
      by_cases hd : m.E[k].1 = d
      · by_cases hs : m.E[k].2.2 = s
        · have t1 : (m.E[k].1 == d) = true := by simpa using hd
          have t2 := txt_same hs
          have HR : Hid (at? m.E d s = some k) := Lib.hid (at_some hkl (by simp [isAt, hd, hs]) (fun j hj => HJ.out j (by omega) hj))
          clear hd hs
          go_wp2
          go_ret
          exact ⟨by rw [HR.out]; rfl, rfl⟩
        · have t1 : (m.E[k].1 == d) = true := by simpa using hd
          have t2 := txt_other hs
          have HJ' : Hid (∀ j (hj : j < m.E.length), j < k + 1 → isAt d s m.E[j] = false) := Lib.hid (fun j hj hjk => by
            by_cases e : j = k
            · subst e; simp [isAt, hs]
            · exact HJ.out j hj (by omega))
          clear hd hs
          go_wp2
          go_round
          case rel => exact ⟨k + 1, by omega, by go_num, HJ'⟩
          case measure => simp [intOf]; omega
      · have t1 : (m.E[k].1 == d) = false := by simpa using hd
        have HJ' : Hid (∀ j (hj : j < m.E.length), j < k + 1 → isAt d s m.E[j] = false) := Lib.hid (fun j hj hjk => by
          by_cases e : j = k
          · subst e; simp [isAt, hd]
          · exact HJ.out j hj (by omega))
        clear hd
        go_wp2
        go_round
        case rel => exact ⟨k + 1, by omega, by go_num, HJ'⟩
        case measure => simp [intOf]; omega
    · obtain rfl : k = m.E.length := by omega
      have HR : Hid (at? m.E d s = none) := Lib.hid (at_none (fun j hj => HJ.out j hj hj))
      go_wp2
      go_ret
      exact ⟨by rw [HR.out]; rfl, rfl⟩

/-- is there such a directory? -/
def isMD (D : List Bool) (d : Int) : Bool := decide (0 ≤ d) && (D[d.toNat]?).getD false

theorem mdir_any (h : MAt w b F m) (d : Int) :
    Calls Tryd.prog 65 #[TP b, .int .i64 d] w fun e w' => e = .returned (.bool (isMD m.D d)) ∧ w = w' := by
  obtain ⟨bl, vB, vL, vD, h, _⟩ := h
  have H := Lib.hid h
  obtain ⟨a, cap, rfl, hc, hg, hn⟩ := row_form h.rD
  have c2 := h.c2
  have hlen := h.len.2.2
  have hlt := h.lt
  clear h
  by_cases h0 : 0 ≤ d
  · by_cases h1 : d < m.D.length
    · obtain ⟨k, rfl⟩ := Int.eq_ofNat_of_zero_le h0
      have hk : k < m.D.length := by omega
      obtain ⟨g, rfl, _, _, hgl, e0, _⟩ := H.out.dAt hk
      have HR : Hid (isMD m.D (k : Int) = m.D[k]) := Lib.hid (by simp [isMD, hk])
      clear h0 h1
      go_enter Tryd.func65, Tryd.ntmps65
      go_wp2
      go_ret
      exact ⟨by rw [HR.out]; rfl, rfl⟩
    · have HR : Hid (isMD m.D d = false) := Lib.hid (by
        have : m.D[d.toNat]? = none := List.getElem?_eq_none (by omega)
        simp [isMD, this])
      go_enter Tryd.func65, Tryd.ntmps65
      go_wp2
      go_ret
      exact ⟨by rw [HR.out]; rfl, rfl⟩
  · have HR : Hid (isMD m.D d = false) := Lib.hid (by simp [isMD, h0])
    go_enter Tryd.func65, Tryd.ntmps65
    go_wp2
    go_ret
    exact ⟨by rw [HR.out]; rfl, rfl⟩

/-- how many names a branch has -/
def cntI (E : List En) (id : Nat) : Nat := (E.filter fun e => decide (e.2.1 = id)).length
def cntD (E : List En) (d : Int) : Nat := (E.filter fun e => decide (e.1 = d)).length
theorem cnt_take {p : En → Bool} {E : List En} {k : Nat} (hk : k < E.length) : ((E.take (k + 1)).filter p).length = ((E.take k).filter p).length + (if p E[k] = true then 1 else 0) := by
  rw [List.take_succ_eq_append_getElem hk, List.filter_append, List.length_append]
  by_cases h : p E[k] = true <;> simp [h]
theorem cnt_le (p : En → Bool) (E : List En) (k : Nat) : ((E.take k).filter p).length ≤ k := by
  have h1 := List.length_filter_le p (E.take k)
  have h2 := List.length_take_le k E
  omega

set_option maxHeartbeats 1000000 in
theorem mnames_any (h : MAt w b F m) (id : Nat) :
    Calls Tryd.prog 49 #[TP b, .int .i64 (id : Int)] w fun e w' => e = .returned (.int .i64 (cntI m.E id)) ∧ w = w' := by
  obtain ⟨bl, vB, vL, vD, h, _⟩ := h
  have H := Lib.hid h
  obtain ⟨a, cap, rfl, hc, hn, hg⟩ := h.eForm
  have c1 := h.c1
  have hlen := h.len.2.1
  have hlt := h.lt
  clear h
  go_enter Tryd.func49, Tryd.ntmps49
  go_wp2
  go_loop [5, 6] (fun n i => ∃ k c : Nat, k ≤ m.E.length ∧ i = .int .i64 k ∧ n = .int .i64 c ∧ c ≤ k ∧ Hid (((m.E.take k).filter fun e => decide (e.2.1 = id)).length = c)) (fun _ i => m.E.length - (intOf i).toNat)
  case atStart => exact ⟨0, 0, Nat.zero_le _, rfl, rfl, Nat.le_refl _, Lib.hid rfl⟩
  case round =>
    obtain ⟨k, c, hk, rfl, rfl, hck, HC⟩ := hrel
    by_cases hkl : k < m.E.length
    · obtain ⟨g, rfl, hgl, e0, e1, e2⟩ := H.out.eAt hkl
      have HT := Lib.hid (cnt_take (p := fun e => decide (e.2.1 = id)) hkl)
      by_cases hd : m.E[k].2.1 = id
      · have t1 : ((m.E[k].2.1 : Int) == (id : Int)) = true := by rw [beq_iff_eq]; omega
        have HC' : Hid (((m.E.take (k + 1)).filter fun e => decide (e.2.1 = id)).length = c + 1) := Lib.hid (by rw [HT.out, HC.out]; simp [hd])
        clear hd
        go_wp2
        go_round
        case rel => exact ⟨k + 1, c + 1, by omega, by go_num, by go_num, by omega, HC'⟩
        case measure => simp [intOf]; omega
      · have t1 : ((m.E[k].2.1 : Int) == (id : Int)) = false := by rw [beq_eq_false_iff_ne]; omega
        have HC' : Hid (((m.E.take (k + 1)).filter fun e => decide (e.2.1 = id)).length = c) := Lib.hid (by rw [HT.out, HC.out]; simp [hd])
        clear hd
        go_wp2
        go_round
        case rel => exact ⟨k + 1, c, by omega, by go_num, rfl, by omega, HC'⟩
        case measure => simp [intOf]; omega
    · obtain rfl : k = m.E.length := by omega
      have HR : Hid (cntI m.E id = c) := Lib.hid (by have := HC.out; rw [List.take_length] at this; exact this)
      go_wp2
      go_ret
      exact ⟨by rw [HR.out]; rfl, rfl⟩

/-- is a segment with that number named? -/
def isU (B : List Br) (u : Int) (e : En) : Bool := match B[e.2.1]? with
  | some x => decide (x.kind = 1) && decide (x.uid = u)
  | none => false
def hasU (m : Ms) (u : Int) : Bool := m.E.any (isU m.B u)

theorem any_step {p : En → Bool} {E : List En} {k : Nat} (h : ∀ j (hj : j < E.length), j < k → p E[j] = false) (hk : k = E.length) : E.any p = false := by
  rw [List.any_eq_false]
  intro x hx
  obtain ⟨j, hj, rfl⟩ := List.mem_iff_getElem.1 hx
  simp [h j hj (by omega)]
theorem any_hit {p : En → Bool} {E : List En} {k : Nat} (hk : k < E.length) (h : p E[k] = true) : E.any p = true := List.any_eq_true.2 ⟨_, List.getElem_mem hk, h⟩

set_option maxHeartbeats 2000000 in
theorem muid_any (h : MAt w b F m) (u : Int) :
    Calls Tryd.prog 68 #[TP b, .int .i64 u] w fun e w' => ∃ r : Int, e = .returned (.int .i64 r) ∧ decide (0 ≤ r) = hasU m u ∧ ∃ n, w' = w.drewN n := by
  obtain ⟨bl, vB, vL, vD, h, hB⟩ := h
  have H := Lib.hid h
  obtain ⟨a, cap, rfl, hc, hn, hg⟩ := h.eForm
  obtain ⟨a2, cap2, rfl, hc2, hg2, hn2⟩ := row_form h.rB
  have c0 := h.c0
  have c1 := h.c1
  have hlen := h.len.2.1
  have hlenB := h.len.1
  have hlt := h.lt
  have HI := Lib.hid h.ids
  have HB := Lib.hid hB
  clear h hB
  go_enter Tryd.func68, Tryd.ntmps68
  go_wp2
  go_loopw [5] (fun i W => ∃ k n : Nat, k ≤ m.E.length ∧ i = .int .i64 k ∧ W = w.drewN n ∧ Hid (∀ j (hj : j < m.E.length), j < k → isU m.B u m.E[j] = false)) (fun i _ => m.E.length - (intOf i).toNat)
  case atStart => exact ⟨0, 0, Nat.zero_le _, rfl, rfl, Lib.hid (fun j _ h => by omega)⟩
  case round =>
    obtain ⟨k, n, hk, rfl, rfl, HJ⟩ := hrel
    by_cases hkl : k < m.E.length
    · obtain ⟨g, rfl, hgl, e0, e1, e2⟩ := H.out.eAt hkl
      have hid := HI.out m.E[k] (List.getElem_mem hkl)
      obtain ⟨g2, rfl, _, _, hgl2, hcb, _⟩ := H.out.bAt hid
      have b0 : w.cell? ⟨g2, m.E[k].2.1 * 10, none⟩ = some (.int .i64 (bl[m.E[k].2.1]).1.kind) := hcb 0 (by omega)
      have b1 : w.cell? ⟨g2, m.E[k].2.1 * 10 + 1, none⟩ = some (.int .i64 (bl[m.E[k].2.1]).1.uid) := hcb 1 (by omega)
      have HX : Hid (m.B[m.E[k].2.1]? = some (bl[m.E[k].2.1]).1) := Lib.hid (by rw [← HB.out, List.getElem?_map, List.getElem?_eq_getElem hid]; rfl)
      generalize (bl[m.E[k].2.1]).1 = x at b0 b1 HX
      generalize hii : m.E[k].2.1 = ii at e1 b0 b1 hid
      have HII := Lib.hid hii
      clear hcb hii
      by_cases h1 : x.kind = 1
      · by_cases h2 : x.uid = u
        · have t1 : (x.kind == 1) = true := by simpa using h1
          have t2 : (x.uid == u) = true := by simpa using h2
          have HR : Hid (hasU m u = true) := Lib.hid (any_hit hkl (by simp [isU, HX.out, h1, h2]))
          clear h1 h2
          go_wp2
          go_quiet (fail)
          go_wp2
          go_ret
          exact ⟨ii, rfl, by rw [HR.out]; simp, n + nq, by first | rfl | rw [World.drewN_drewN]⟩
        · have t1 : (x.kind == 1) = true := by simpa using h1
          have t2 : (x.uid == u) = false := by simpa using h2
          have HJ' : Hid (∀ j (hj : j < m.E.length), j < k + 1 → isU m.B u m.E[j] = false) := Lib.hid (fun j hj hjk => by
            by_cases e : j = k
            · subst e; simp [isU, HX.out, h1, h2]
            · exact HJ.out j hj (by omega))
          clear h1 h2
          go_wp2
          go_quiet (fail)
          go_wp2
          go_roundw
          case rel => exact ⟨k + 1, n + nq, by omega, by go_num, by first | rfl | rw [World.drewN_drewN], HJ'⟩
          case measure => simp [intOf]; omega
      · have t1 : (x.kind == 1) = false := by simpa using h1
        have HJ' : Hid (∀ j (hj : j < m.E.length), j < k + 1 → isU m.B u m.E[j] = false) := Lib.hid (fun j hj hjk => by
          by_cases e : j = k
          · subst e; simp [isU, HX.out, h1]
          · exact HJ.out j hj (by omega))
        clear h1
        go_wp2
        go_quiet (fail)
        go_wp2
        go_roundw
        case rel => exact ⟨k + 1, n + nq, by omega, by go_num, by first | rfl | rw [World.drewN_drewN], HJ'⟩
        case measure => simp [intOf]; omega
    · obtain rfl : k = m.E.length := by omega
      have HR : Hid (hasU m u = false) := Lib.hid (any_step HJ.out rfl)
      go_wp2
      go_ret
      exact ⟨-1, rfl, by rw [HR.out]; rfl, n, rfl⟩

/-- what the document's Look finds -/
def lkM (m : Ms) (d : Int) (s : Txt) : Option Br := match at? m.E d s with
  | none => none
  | some k => (m.E[k]?).bind fun e => m.B[e.2.1]?

/-- a branch in a block of its own, as the document has it -/
@[reducible] def BmO (b : Br) (av : Value) : Obj := .cells #[.int .i64 b.kind, .int .i64 b.uid, .int .i64 b.dir, .string (bs b.link), .bool b.obj, av, .int .i64 b.r1, .int .i64 b.r2, .int .i64 b.r3, .int .i64 b.gt] 36 (0, 0)
def BmAt (w : World) (k : Nat) (b : Br) (av : Value) : Prop := w.heap[k]? = some (BmO b av)
theorem BmAt.cell {w : World} {k : Nat} {b : Br} {av : Value} (h : BmAt w k b av) :
    w.cell? ⟨k, 0, none⟩ = some (.int .i64 b.kind) ∧ w.cell? ⟨k, 1, none⟩ = some (.int .i64 b.uid) ∧ w.cell? ⟨k, 2, none⟩ = some (.int .i64 b.dir) ∧ w.cell? ⟨k, 3, none⟩ = some (.string (bs b.link)) ∧ w.cell? ⟨k, 4, none⟩ = some (.bool b.obj) ∧ w.cell? ⟨k, 5, none⟩ = some av
      ∧ w.cell? ⟨k, 6, none⟩ = some (.int .i64 b.r1) ∧ w.cell? ⟨k, 7, none⟩ = some (.int .i64 b.r2) ∧ w.cell? ⟨k, 8, none⟩ = some (.int .i64 b.r3) ∧ w.cell? ⟨k, 9, none⟩ = some (.int .i64 b.gt) := by
  unfold BmAt at h
  simp [World.cell?, h]
theorem BmAt.fz {w : World} {k : Nat} {b : Br} {av : Value} (h : BmAt w k b av) (i : Nat) : w.frozen? ⟨k, i, none⟩ = false := by
  unfold BmAt at h
  simp [World.frozen?, h]
theorem BmAt.lt {w : World} {k : Nat} {b : Br} {av : Value} (h : BmAt w k b av) : k < w.heap.size := (Array.getElem?_eq_some_iff.1 h).1
theorem BmAt.below {w w' : World} {k : Nat} {b : Br} {av : Value} (h : BmAt w k b av) (hb : Below w.heap.size w w') : BmAt w' k b av := (hb.block k h.lt).trans h
theorem BmAt.new (w : World) (b : Br) (av : Value) : BmAt (w.alloc (BmO b av)) w.heap.size b av := heap_alloc_new w _
theorem BmAt.stored {w : World} {k : Nat} {b0 : Br} {v0 : Value} (h : BmAt w k b0 v0) (b : Br) (av : Value) : BmAt (setBr w k b av) k b av := by
  unfold BmAt at h ⊢
  have h1 := head_set h 0 (.int .i64 b.kind)
  have h2 := head_set h1 1 (.int .i64 b.uid)
  have h3 := head_set h2 2 (.int .i64 b.dir)
  have h4 := head_set h3 3 (.string (bs b.link))
  have h5 := head_set h4 4 (.bool b.obj)
  have h6 := head_set h5 5 av
  have h7 := head_set h6 6 (.int .i64 b.r1)
  have h8 := head_set h7 7 (.int .i64 b.r2)
  have h9 := head_set h8 8 (.int .i64 b.r3)
  have h10 := head_set h9 9 (.int .i64 b.gt)
  exact h10.trans (by simp)

/-- the branch of an entry: where it lies -/
theorem ML.brAt {bl : List (Br × Value)} {E : List En} {D : List Bool} {vL vD : Value} {a : Option Addr} {n cap : Nat} (h : ML w b F bl E D (.slice a n cap) vL vD) {i : Nat} (hi : i < bl.length) :
    ∃ g, a = some ⟨g, 0, none⟩ ∧ n = bl.length ∧ n ≤ cap ∧ g < w.heap.size ∧ w.cell? ⟨g, i * 10, none⟩ = some (.int .i64 bl[i].1.kind) ∧ w.cell? ⟨g, i * 10 + 1, none⟩ = some (.int .i64 bl[i].1.uid) ∧ w.cell? ⟨g, i * 10 + 2, none⟩ = some (.int .i64 bl[i].1.dir) ∧ w.cell? ⟨g, i * 10 + 3, none⟩ = some (.string (bs bl[i].1.link)) ∧ w.cell? ⟨g, i * 10 + 4, none⟩ = some (.bool bl[i].1.obj) ∧ w.cell? ⟨g, i * 10 + 5, none⟩ = some bl[i].2
      ∧ w.cell? ⟨g, i * 10 + 6, none⟩ = some (.int .i64 bl[i].1.r1) ∧ w.cell? ⟨g, i * 10 + 7, none⟩ = some (.int .i64 bl[i].1.r2) ∧ w.cell? ⟨g, i * 10 + 8, none⟩ = some (.int .i64 bl[i].1.r3) ∧ w.cell? ⟨g, i * 10 + 9, none⟩ = some (.int .i64 bl[i].1.gt) ∧ (∀ j, w.frozen? ⟨g, j, none⟩ = false) := by
  obtain ⟨g, e, e2, hc2, hl, hc, hf⟩ := h.bAt hi
  exact ⟨g, e, e2, hc2, hl, hc 0 (by omega), hc 1 (by omega), hc 2 (by omega), hc 3 (by omega), hc 4 (by omega), hc 5 (by omega), hc 6 (by omega), hc 7 (by omega), hc 8 (by omega), hc 9 (by omega), hf⟩

/-- what the document's walks answer: a branch whose list lies somewhere -/
def Lies (w : World) (b : Br) (k : Value → Value) (e : Ending) (w' : World) : Prop :=
  ∃ a' c', e = .returned (k (BrV b (.slice a' b.acl.length c'))) ∧ TRow w' a' c' b.acl ∧ Below w.heap.size w w'

end

end Go.Proofs.YtpcdcmoapenbdaaDoor.T

namespace Go.Proofs.YtpcdcmoapenbdaaDoor.T
open Go.ChangeShapes Go.WideShapes Go.ChangeAt Go.RowKit
open Go.Proofs.YtpcdcmoapenbdaaDoor.N (bs bs_data bs_size bs_inj bs_of Glob)
open Go.Proofs.YtpcdcmoapenbdaaDoor.A (Tm TRow)

section
variable {w : World} {b : Nat} {F : Nat → Prop} {m : Ms}

set_option maxHeartbeats 2000000 in
theorem mlook_no (h : MAt w b F m) {d : Int} {s : Txt} (hL : at? m.E d s = none) :
    Calls Tryd.prog 80 #[TP b, .int .i64 d, .string (bs s)] w fun e w' => e = .returned (.tuple #[BrV noBr (.slice none 0 0), .bool false]) ∧ Below w.heap.size w w' := by
  have ha := mat_any (h.below (one_new w (BmO noBr (.slice none 0 0)))) d s
  rw [hL] at ha
  have B := Lib.hid (BmAt.new w noBr (.slice none 0 0))
  clear h
  go_enter Tryd.func80, Tryd.ntmps80
  go_wp2_with (go_at_call 45; ((refine ha.mono ?_); rintro e w1 ⟨rfl, rfl⟩; simp only [atN]))
  refine (show bodyPost _ _ _ _ _ (w.alloc (BmO noBr (.slice none 0 0))) from ?_)
  generalize hV : w.alloc (BmO noBr (.slice none 0 0)) = V at B ⊢
  obtain ⟨g0, g1, g2, g3, g4, g5, g6, g7, g8, g9⟩ := B.out.cell
  exact bodyPost_ret (v := .tuple #[BrV noBr (.slice none 0 0), .bool false]) (by simp [results, Tryd.results80, go_sem, g0, g1, g2, g3, g4, g5, g6, g7, g8, g9]) rfl ⟨rfl, hV ▸ one_new _ _⟩

theorem own_trow {B : Nat} {V : World} {v : Value} {l : List Tm} (h : A.Own B V v l) : ∃ a' c', v = .slice a' l.length c' ∧ TRow V a' c' l := A.Own.row h

set_option maxHeartbeats 4000000 in
set_option maxRecDepth 8000 in
theorem mlook_yes (h : MAt w b F m) {d : Int} {s : Txt} {k : Nat} (hL : at? m.E d s = some k) {e : En} (hE : m.E[k]? = some e) {x : Br} (hX : m.B[e.2.1]? = some x) :
    Calls Tryd.prog 80 #[TP b, .int .i64 d, .string (bs s)] w (Lies w x fun v => .tuple #[v, .bool true]) := by
  have ha := mat_any (h.below (one_new w (BmO noBr (.slice none 0 0)))) d s
  rw [hL] at ha
  have X0 := Lib.hid (BmAt.new w noBr (.slice none 0 0))
  obtain ⟨bl, vB, vL, vD, h0, hB⟩ := h
  have h := h0.below (one_new w (BmO noBr (.slice none 0 0)))
  have hkl : k < m.E.length := (List.getElem?_eq_some_iff.1 hE).1
  have hke : m.E[k] = e := (List.getElem?_eq_some_iff.1 hE).2
  obtain ⟨a, cap, rfl, hc, hn, hg⟩ := h.eForm
  obtain ⟨a2, cap2, rfl, hc2, hg2, hn2⟩ := row_form h.rB
  obtain ⟨g, rfl, hgl, q0, q1, q2⟩ := h.eAt hkl
  have hid : e.2.1 < bl.length := by rw [← hke]; exact h.ids _ (List.getElem_mem hkl)
  have hx : (bl[e.2.1]).1 = x := by
    rw [← hB, List.getElem?_map, List.getElem?_eq_getElem hid] at hX
    simpa using hX
  obtain ⟨g2, rfl, _, _, hgl2, r0, r1, r2, r3, r4, r5, r6, r7, r8, r9, _⟩ := h.brAt hid
  obtain ⟨a', c', hv, hrow⟩ := own_trow (h0.acl _ (List.getElem_mem hid))
  rw [hke] at q0 q1 q2
  rw [hx] at r0 r1 r2 r3 r4 r6 r7 r8 r9 hrow hv
  rw [hv] at r5
  have c0 := h.c0
  have c1 := h.c1
  have hlt := h.lt
  have hlen := h.len.2.1
  have hlenB := h.len.1
  have HR := Lib.hid hrow
  have hltw := h0.lt
  obtain ⟨s0, s1, s2, s3, s4, s5, s6, s7, s8, s9⟩ := X0.out.cell
  have f2 := X0.out.fz
  have xl := X0.out.lt
  generalize hii : e.2.1 = ii at q1 r0 r1 r2 r3 r4 r5 r6 r7 r8 r9 hid
  clear h h0 hB hX hE hke hx hii hrow hv
  go_enter Tryd.func80, Tryd.ntmps80
  go_wp2_with (go_at_call 45; ((refine ha.mono ?_); rintro e w1 ⟨rfl, rfl⟩; simp only [atN]))
  refine (show Code.wp _ _ _ _ (w.alloc (BmO noBr (.slice none 0 0))) from ?_)
  have B0 := Lib.hid (one_new w (BmO noBr (.slice none 0 0)))
  generalize w.alloc (BmO noBr (.slice none 0 0)) = V at *
  clear ha q0 q2 hn hg hn2 hg2
  go_still_tail 14, (by kernel_rfl)
  change wpList _ _ _ _ _ V.drew
  have X1 : Hid (BmAt V.drew w.heap.size noBr (.slice none 0 0)) := X0
  have B1 : Hid (Below w.heap.size w V.drew) := Lib.hid B0.out.drew
  clear X0 B0 c0 c1 q1 r0 r1 r2 r3 r4 r5 r6 r7 r8 r9 s0 s1 s2 s3 s4 s5 s6 s7 s8 s9 f2 xl
  generalize V.drew = V2 at *
  obtain ⟨s0, s1, s2, s3, s4, s5, s6, s7, s8, s9⟩ := X1.out.cell
  have f2 := X1.out.fz
  have xl := X1.out.lt
  go_wp2
  have X5 := X1.out.stored x (.slice a' x.acl.length c')
  have L5 := Below.setBr B1.out (k := w.heap.size) (Nat.le_refl _) x (.slice a' x.acl.length c')
  have R5 := HR.out.below L5
  refine (show bodyPost _ _ _ _ _ (setBr V2 w.heap.size x (.slice a' x.acl.length c')) from ?_)
  generalize setBr V2 w.heap.size x (.slice a' x.acl.length c') = V5 at X5 L5 R5 ⊢
  obtain ⟨g0, g1, g2', g3, g4, g5, g6, g7, g8, g9⟩ := X5.cell
  exact bodyPost_ret (v := .tuple #[BrV x (.slice a' x.acl.length c'), .bool true]) (by simp [results, Tryd.results80, go_sem, g0, g1, g2', g3, g4, g5, g6, g7, g8, g9]) rfl ⟨a', c', rfl, R5, L5⟩

end

end Go.Proofs.YtpcdcmoapenbdaaDoor.T
