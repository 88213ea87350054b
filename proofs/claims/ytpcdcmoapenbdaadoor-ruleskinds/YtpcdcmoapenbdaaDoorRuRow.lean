/-
  Search rules: rows of two cells, those that came in; what rules may be and what they find, as plain functions of what a tree's names say.
-/
import Derived.Test.YtpcdcmoapenbdaaDoorWFinds
import Derived.Test.YtpcdcmoapenbdaaDoorGIn
import Derived.Lib.SmallJoins
namespace Go.Proofs.YtpcdcmoapenbdaaDoor.T
open Go.ChangeShapes Go.WideShapes Go.ChangeAt Go.RowKit
open Go.Proofs.YtpcdcmoapenbdaaDoor.N (bs bs_data bs_size bs_inj bs_of Glob)
open Go.Proofs.YtpcdcmoapenbdaaDoor.A (Tm TRow)

structure Ru where
  kind : Int
  path : Txt
@[reducible] def RuV (r : Ru) : Value := .agg #[.int .i64 r.kind, .string (bs r.path)]
@[reducible] def RuO (r : Ru) : Obj := .cells #[.int .i64 r.kind, .string (bs r.path)] 40 (0, 0)

def kR : G.El Ru where
  t := 40
  st := 23
  sz := 2
  bytes := 24
  z := .agg #[.int .i64 0, .string ByteArray.empty]
  cells := fun r => [.int .i64 r.kind, .string (bs r.path)]
theorem goodR : kR.Good Tryd.prog where
  under := Tryd.underlying23
  info := by kernel_rfl
  zc := rfl
  pos := by decide
  len := fun _ => rfl
  one := fun x u hu => by
    simp only [kR, List.mem_cons, List.not_mem_nil, or_false] at hu
    rcases hu with rfl | rfl <;> rfl
  small := by decide
theorem cells_rule : Tryd.prog.cellsOf 40 = 2 := by kernel_rfl

/-- a number and a text such as the program's are -/
def Ru.Ok (r : Ru) : Prop := rng r.kind ∧ r.path.length ≤ maxLen

section
variable {H : Type} {enc : TypeId × Value → H} {w : World} {base : Nat} {spare : Nat → Bool} {held : Bool}
set_option maxRecDepth 20000 in
theorem rule_cells (fuel : Nat) (cs : List Value) (x : DataW H × List MemPlace) (h : DataW.trod enc Tryd.prog w base spare held fuel 40 cs = some x) : ∃ r : Ru, cs = kR.cells r ∧ r.Ok := by
  obtain ⟨xs, n, _, _, hl, hlen, hf⟩ := DataW.trod_struct Tryd.underlying40 h
  rw [cells_rule] at hl
  match xs, hlen with
  | [y0, y1], _ =>
    have h0 := hf 0 _ rfl
    have h1 := hf 1 _ rfl
    simp only [List.getElem_toArray, List.getElem_cons_zero, List.getElem_cons_succ, List.getElem?_cons_zero, List.getElem?_cons_succ, cellsInt, cellsString] at h0 h1
    obtain ⟨r0, e0, _, b0⟩ := DataW.trod_int Tryd.underlying3 h0
    obtain ⟨s, e1, _, hm⟩ := DataW.trod_string Tryd.underlying9 h1
    clear hf h h0 h1
    match cs, hl with
    | [p0, p1], _ =>
      simp at e0 e1
      refine ⟨⟨r0, s.data.toList⟩, ?_, ?_, by rw [N.size_len]; exact hm⟩
      · rw [e0, e1]
        simp [kR, bs_of]
      · have := bounds_i64 b0
        exact ⟨this.1, this.2⟩
set_option maxRecDepth 20000 in
theorem open_rules {r : Reach} {b0 : Nat} {v : Value} {d : DataW H} {p : List MemPlace} (hv : Value.okWide Tryd.prog w r b0 23 v) (h : DataW.Trod enc Tryd.prog w base spare held 23 v d p) :
    ∃ a c l, v = .slice a (List.length l) c ∧ G.Row kR w a c l ∧ l.length ≤ maxLen ∧ ∀ t ∈ l, t.Ok :=
  G.open_rows (s := kR) goodR cells_rule rule_cells hv h
end

/-- a rule lies there -/
theorem row_rule {w : World} {a : Option Addr} {c : Nat} {l : List Ru} (h : G.Row kR w a c l) {k : Nat} (hk : k < l.length) : ∃ bk o, a = some ⟨bk, o, none⟩ ∧ bk < w.heap.size ∧ w.cell? ⟨bk, o + k * 2, none⟩ = some (.int .i64 l[k].kind) ∧ w.cell? ⟨bk, o + k * 2 + 1, none⟩ = some (.string (bs l[k].path)) := by
  obtain ⟨bk, o, e, hl, hc⟩ := h.at_ hk
  exact ⟨bk, o, e, hl, hc 0 _ rfl, hc 1 _ rfl⟩

/-! ### what they may be, what they find -/

def ruleB (r : Ru) : Bool := if r.kind = 1 then decide (r.path = []) else if r.kind = 2 then decide (r.path = []) else if r.kind = 3 then decide (N.er r.path = 0) else false
def mayR (l : List Ru) : Bool := decide (l.length ≤ 8) && l.all ruleB
def dirOf (L : Int → Txt → Option Br) (r : Ru) (work : Txt) (fr : Int) : Int × Int := if r.kind = 2 then wDir L work else if r.kind = 3 then wDir L r.path else (fr, 0)
/-- one rule finds it -/
def hit (L : Int → Txt → Option Br) (work : Txt) (fr : Int) (s : Txt) (r : Ru) : Option Br :=
  if (dirOf L r work fr).2 = 0 then (if (wIn L (dirOf L r work fr).1 s).1 = 0 ∧ (wIn L (dirOf L r work fr).1 s).2.kind = 1 then some (wIn L (dirOf L r work fr).1 s).2 else none) else none
def srch (L : Int → Txt → Option Br) (work : Txt) (fr : Int) (s : Txt) : List Ru → Int × Br
  | [] => (4, noBr)
  | r :: rs => match hit L work fr s r with
    | some y => (0, y)
    | none => srch L work fr s rs
def findR (L : Int → Txt → Option Br) (l : List Ru) (work : Txt) (fr : Int) (s : Txt) : Int × Br :=
  if mayR l = true then (if N.may 32 s = true then srch L work fr s l else (3, noBr)) else (1, noBr)

theorem mayR_long {l : List Ru} (h : 8 < l.length) : mayR l = false := by simp [mayR]; omega
theorem mayR_short {l : List Ru} (h : l.length ≤ 8) : mayR l = l.all ruleB := by simp [mayR, h]
theorem all_take_r {l : List Ru} {k : Nat} (h : k < l.length) (ht : (l.take k).all ruleB = true) (hr : ruleB l[k] = true) : (l.take (k + 1)).all ruleB = true := by
  rw [List.take_succ_eq_append_getElem h, List.all_append, ht]
  simp [hr]
theorem all_not_r {l : List Ru} {k : Nat} (h : k < l.length) (hr : ruleB l[k] = false) : l.all ruleB = false := by
  rw [Bool.eq_false_iff]
  intro e
  have := List.all_eq_true.1 e _ (List.getElem_mem h)
  rw [hr] at this
  cases this
theorem mayR_end {l : List Ru} (h : l.length ≤ 8) (ht : (l.take l.length).all ruleB = true) : mayR l = true := by
  rw [mayR_short h, ← ht, List.take_length]
theorem mayR_no {l : List Ru} {k : Nat} (h : k < l.length) (hr : ruleB l[k] = false) : mayR l = false := by
  simp [mayR, all_not_r h hr]

section
variable {L : Int → Txt → Option Br} {work : Txt} {fr : Int} {s : Txt} {l : List Ru} {k : Nat} {R : Int × Br}
theorem srch_none (hk : k < l.length) (h : srch L work fr s (l.drop k) = R) (hn : hit L work fr s l[k] = none) : srch L work fr s (l.drop (k + 1)) = R := by
  rw [List.drop_eq_getElem_cons hk] at h
  simp only [srch, hn] at h
  exact h
theorem srch_some (hk : k < l.length) (h : srch L work fr s (l.drop k) = R) {y : Br} (hn : hit L work fr s l[k] = some y) : R = (0, y) := by
  rw [List.drop_eq_getElem_cons hk] at h
  simp only [srch, hn] at h
  exact h.symm
theorem srch_end (h : srch L work fr s (l.drop l.length) = R) : R = (4, noBr) := by
  rw [List.drop_length] at h
  exact h.symm
theorem hit_dir {r : Ru} {D E : Int} (hD : dirOf L r work fr = (D, E)) (hE : ¬ E = 0) : hit L work fr s r = none := by simp [hit, hD, hE]
theorem hit_in {r : Ru} {D : Int} (hD : dirOf L r work fr = (D, 0)) {E : Int} {y : Br} (hI : wIn L D s = (E, y)) (h : ¬ (E = 0 ∧ y.kind = 1)) : hit L work fr s r = none := by
  simp only [hit, hD, hI, if_true]
  rw [if_neg h]
theorem hit_yes {r : Ru} {D : Int} (hD : dirOf L r work fr = (D, 0)) {y : Br} (hI : wIn L D s = (0, y)) (h : y.kind = 1) : hit L work fr s r = some y := by
  simp [hit, hD, hI, h]
end

end Go.Proofs.YtpcdcmoapenbdaaDoor.T
