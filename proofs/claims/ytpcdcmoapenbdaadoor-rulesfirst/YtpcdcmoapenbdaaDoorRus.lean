/-
  Search rules: rows of two cells, those that came in; what rules may be and what they find, as plain functions of what a tree's names say.
  Rules of the program: whether one may be, whether a list may be, in which directory one looks.
  Find of the program: it answers as the plain function findR.
-/
import Derived.Test.YtpcdcmoapenbdaaDoorWFolls
import Derived.Test.YtpcdcmoapenbdaaDoorGRows
import Derived.Lib.SmallJoins
import Derived.Test.YtpcdcmoapenbdaaDoorTLink
namespace Go.Proofs.YtpcdcmoapenbdaaDoor.T
open Go.ChangeShapes Go.WideShapes Go.ChangeAt Go.RowKit
open Go.Proofs.YtpcdcmoapenbdaaDoor.N (bs bs_data bs_size bs_inj bs_of Glob)
open Go.Proofs.YtpcdcmoapenbdaaDoor.A (Tm TRow)

structure Ru where
  kind : Int
  path : Txt
@[reducible] def RuV (r : Ru) : Value := .agg #[.int .i64 r.kind, .string (bs r.path)]
@[reducible] def RuO (r : Ru) : Obj := .cells #[.int .i64 r.kind, .string (bs r.path)] 40 (0, 0)

def kR : G.El Ru where
  t := 40
  st := 23
  sz := 2
  bytes := 24
  z := .agg #[.int .i64 0, .string ByteArray.empty]
  cells := fun r => [.int .i64 r.kind, .string (bs r.path)]
theorem goodR : kR.Good Tryd.prog where
  under := Tryd.underlying23
  info := by kernel_rfl
  zc := rfl
  pos := by decide
  len := fun _ => rfl
  one := fun x u hu => by
    simp only [kR, List.mem_cons, List.not_mem_nil, or_false] at hu
    rcases hu with rfl | rfl <;> rfl
  small := by decide
theorem cells_rule : Tryd.prog.cellsOf 40 = 2 := by kernel_rfl

/-- a number and a text such as the program's are -/
def Ru.Ok (r : Ru) : Prop := rng r.kind ∧ r.path.length ≤ maxLen

section
variable {H : Type} {enc : TypeId × Value → H} {w : World} {base : Nat} {spare : Nat → Bool} {held : Bool}
set_option maxRecDepth 20000 in
theorem rule_cells (fuel : Nat) (cs : List Value) (x : DataW H × List MemPlace) (h : DataW.trod enc Tryd.prog w base spare held fuel 40 cs = some x) : ∃ r : Ru, cs = kR.cells r ∧ r.Ok := by
  obtain ⟨xs, n, _, _, hl, hlen, hf⟩ := DataW.trod_struct Tryd.underlying40 h
  rw [cells_rule] at hl
  match xs, hlen with
  | [y0, y1], _ =>
    have h0 := hf 0 _ rfl
    have h1 := hf 1 _ rfl
    simp only [List.getElem_toArray, List.getElem_cons_zero, List.getElem_cons_succ, List.getElem?_cons_zero, List.getElem?_cons_succ, cellsInt, cellsString] at h0 h1
    obtain ⟨r0, e0, _, b0⟩ := DataW.trod_int Tryd.underlying3 h0
    obtain ⟨s, e1, _, hm⟩ := DataW.trod_string Tryd.underlying9 h1
    clear hf h h0 h1
    match cs, hl with
    | [p0, p1], _ =>
      simp at e0 e1
      refine ⟨⟨r0, s.data.toList⟩, ?_, ?_, by rw [N.size_len]; exact hm⟩
      · rw [e0, e1]
        simp [kR, bs_of]
      · have := bounds_i64 b0
        exact ⟨this.1, this.2⟩
set_option maxRecDepth 20000 in
theorem open_rules {r : Reach} {b0 : Nat} {v : Value} {d : DataW H} {p : List MemPlace} (hv : Value.okWide Tryd.prog w r b0 23 v) (h : DataW.Trod enc Tryd.prog w base spare held 23 v d p) :
    ∃ a c l, v = .slice a (List.length l) c ∧ G.Row kR w a c l ∧ l.length ≤ maxLen ∧ ∀ t ∈ l, t.Ok :=
  G.open_rows (s := kR) goodR cells_rule rule_cells hv h
end

/-- a rule lies there -/
theorem row_rule {w : World} {a : Option Addr} {c : Nat} {l : List Ru} (h : G.Row kR w a c l) {k : Nat} (hk : k < l.length) : ∃ bk o, a = some ⟨bk, o, none⟩ ∧ bk < w.heap.size ∧ w.cell? ⟨bk, o + k * 2, none⟩ = some (.int .i64 l[k].kind) ∧ w.cell? ⟨bk, o + k * 2 + 1, none⟩ = some (.string (bs l[k].path)) := by
  obtain ⟨bk, o, e, hl, hc⟩ := h.at_ hk
  exact ⟨bk, o, e, hl, hc 0 _ rfl, hc 1 _ rfl⟩

/-! ### what they may be, what they find -/

def ruleB (r : Ru) : Bool := if r.kind = 1 then decide (r.path = []) else if r.kind = 2 then decide (r.path = []) else if r.kind = 3 then decide (N.er r.path = 0) else false
def mayR (l : List Ru) : Bool := decide (l.length ≤ 8) && l.all ruleB
def dirOf (L : Int → Txt → Option Br) (r : Ru) (work : Txt) (fr : Int) : Int × Int := if r.kind = 2 then wDir L work else if r.kind = 3 then wDir L r.path else (fr, 0)
/-- one rule finds it -/
def hit (L : Int → Txt → Option Br) (work : Txt) (fr : Int) (s : Txt) (r : Ru) : Option Br :=
  if (dirOf L r work fr).2 = 0 then (if (wIn L (dirOf L r work fr).1 s).1 = 0 ∧ (wIn L (dirOf L r work fr).1 s).2.kind = 1 then some (wIn L (dirOf L r work fr).1 s).2 else none) else none
def srch (L : Int → Txt → Option Br) (work : Txt) (fr : Int) (s : Txt) : List Ru → Int × Br
  | [] => (4, noBr)
  | r :: rs => match hit L work fr s r with
    | some y => (0, y)
    | none => srch L work fr s rs
def findR (L : Int → Txt → Option Br) (l : List Ru) (work : Txt) (fr : Int) (s : Txt) : Int × Br :=
  if mayR l = true then (if N.may 32 s = true then srch L work fr s l else (3, noBr)) else (1, noBr)

theorem mayR_long {l : List Ru} (h : 8 < l.length) : mayR l = false := by simp [mayR]; omega
theorem mayR_short {l : List Ru} (h : l.length ≤ 8) : mayR l = l.all ruleB := by simp [mayR, h]
theorem all_take_r {l : List Ru} {k : Nat} (h : k < l.length) (ht : (l.take k).all ruleB = true) (hr : ruleB l[k] = true) : (l.take (k + 1)).all ruleB = true := by
  rw [List.take_succ_eq_append_getElem h, List.all_append, ht]
  simp [hr]
theorem all_not_r {l : List Ru} {k : Nat} (h : k < l.length) (hr : ruleB l[k] = false) : l.all ruleB = false := by
  rw [Bool.eq_false_iff]
  intro e
  have := List.all_eq_true.1 e _ (List.getElem_mem h)
  rw [hr] at this
  cases this
theorem mayR_end {l : List Ru} (h : l.length ≤ 8) (ht : (l.take l.length).all ruleB = true) : mayR l = true := by
  rw [mayR_short h, ← ht, List.take_length]
theorem mayR_no {l : List Ru} {k : Nat} (h : k < l.length) (hr : ruleB l[k] = false) : mayR l = false := by
  simp [mayR, all_not_r h hr]

section
variable {L : Int → Txt → Option Br} {work : Txt} {fr : Int} {s : Txt} {l : List Ru} {k : Nat} {R : Int × Br}
theorem srch_none (hk : k < l.length) (h : srch L work fr s (l.drop k) = R) (hn : hit L work fr s l[k] = none) : srch L work fr s (l.drop (k + 1)) = R := by
  rw [List.drop_eq_getElem_cons hk] at h
  simp only [srch, hn] at h
  exact h
theorem srch_some (hk : k < l.length) (h : srch L work fr s (l.drop k) = R) {y : Br} (hn : hit L work fr s l[k] = some y) : R = (0, y) := by
  rw [List.drop_eq_getElem_cons hk] at h
  simp only [srch, hn] at h
  exact h.symm
theorem srch_end (h : srch L work fr s (l.drop l.length) = R) : R = (4, noBr) := by
  rw [List.drop_length] at h
  exact h.symm
theorem hit_dir {r : Ru} {D E : Int} (hD : dirOf L r work fr = (D, E)) (hE : ¬ E = 0) : hit L work fr s r = none := by simp [hit, hD, hE]
theorem hit_in {r : Ru} {D : Int} (hD : dirOf L r work fr = (D, 0)) {E : Int} {y : Br} (hI : wIn L D s = (E, y)) (h : ¬ (E = 0 ∧ y.kind = 1)) : hit L work fr s r = none := by
  simp only [hit, hD, hI, if_true]
  rw [if_neg h]
theorem hit_yes {r : Ru} {D : Int} (hD : dirOf L r work fr = (D, 0)) {y : Br} (hI : wIn L D s = (0, y)) (h : y.kind = 1) : hit L work fr s r = some y := by
  simp [hit, hD, hI, h]
end

end Go.Proofs.YtpcdcmoapenbdaaDoor.T

namespace Go.Proofs.YtpcdcmoapenbdaaDoor.T
open Go.ChangeShapes Go.WideShapes Go.ChangeAt Go.RowKit
open Go.Proofs.YtpcdcmoapenbdaaDoor.N (bs bs_data bs_size bs_inj bs_of Glob retB)
open Go.Proofs.YtpcdcmoapenbdaaDoor.A (Tm TRow)

theorem empty_path (l : Txt) : ((bs l).toList == []) = decide (l = []) := by
  rw [Lib.toList_data, bs_data]
  by_cases h : l = [] <;> simp [h]

section
variable {w : World}

set_option maxHeartbeats 1000000 in
theorem isRule_any (hg : Glob w) {r : Ru} (hp : r.path.length ≤ maxLen) {B : Bool} (hB : ruleB r = B) :
    Calls Tryd.prog 31 #[RuV r] w fun e w' => e = .returned (.bool B) ∧ Below w.heap.size w w' := by
  have HG := Lib.hid hg
  clear hg
  by_cases h1 : r.kind = 1
  · obtain rfl : decide (r.path = []) = B := by rw [← hB, ruleB, if_pos h1]
    have e1 : (r.kind == 1) = true := by simpa using h1
    have e3 := empty_path r.path
    clear h1 hB
    generalize decide (r.path = []) = B at e3 ⊢
    go_enter Tryd.func31, Tryd.ntmps31
    go_wp2
    go_ret
    exact ⟨rfl, one_new _ _⟩
  have e1 : (r.kind == 1) = false := by simpa using h1
  by_cases h2 : r.kind = 2
  · obtain rfl : decide (r.path = []) = B := by rw [← hB, ruleB, if_neg h1, if_pos h2]
    have e2 : (r.kind == 2) = true := by simpa using h2
    have e3 := empty_path r.path
    clear h1 h2 hB
    generalize decide (r.path = []) = B at e3 ⊢
    go_enter Tryd.func31, Tryd.ntmps31
    go_wp2
    go_ret
    exact ⟨rfl, one_new _ _⟩
  have e2 : (r.kind == 2) = false := by simpa using h2
  by_cases h3 : r.kind = 3
  · obtain ⟨E, hE⟩ : ∃ E, N.er r.path = E := ⟨_, rfl⟩
    have hB' : (E == 0) = B := by
      rw [ruleB, if_neg h1, if_neg h2, if_pos h3, hE] at hB
      rw [← hB]
      by_cases h : E = 0 <;> simp [h]
    have e3 : (r.kind == 3) = true := by simpa using h3
    clear h1 h2 h3 hB
    go_enter Tryd.func31, Tryd.ntmps31
    go_wp2_with (go_at_call 57; ((refine (split_er (HG.out.below (one_new _ _)) hp hE).mono ?_); rintro e w1 ⟨v1, rfl, b1⟩))
    go_ret
    exact ⟨rfl, bel2 (one_new _ _) b1⟩
  have e3 : (r.kind == 3) = false := by simpa using h3
  obtain rfl : false = B := by rw [← hB, ruleB, if_neg h1, if_neg h2, if_neg h3]
  clear h1 h2 h3 hB
  go_enter Tryd.func31, Tryd.ntmps31
  go_wp2
  go_ret
  exact ⟨rfl, one_new _ _⟩

set_option maxHeartbeats 1000000 in
theorem rulesMay_any (hg : Glob w) {a : Option Addr} {c n : Nat} {l : List Ru} (hr : G.Row kR w a c l) (hl : ∀ r ∈ l, r.Ok) (hn : l.length = n) {B : Bool} (hB : mayR l = B) :
    Calls Tryd.prog 12 #[.slice a n c] w fun e w' => e = .returned (.bool B) ∧ Below w.heap.size w w' := by
  subst hn hB
  have HG := Lib.hid hg
  have HR := Lib.hid hr
  have HL := Lib.hid hl
  clear hg hr hl
  by_cases h8 : (8 : Int) < (l.length : Int)
  · have e1 : decide ((8 : Int) < (l.length : Int)) = true := by simpa using h8
    have hm := mayR_long (l := l) (by omega)
    clear h8
    go_enter Tryd.func12, Tryd.ntmps12
    go_wp2
    go_ret
    exact ⟨by rw [hm]; rfl, Below.refl _ _⟩
  have e1 : decide ((8 : Int) < (l.length : Int)) = false := by simpa using h8
  have h8' : l.length ≤ 8 := by omega
  clear h8
  go_enter Tryd.func12, Tryd.ntmps12
  go_wp2
  go_loopw [10] (fun i V => ∃ k : Nat, k ≤ l.length ∧ i = .int .i64 k ∧ Hid ((l.take k).all ruleB = true) ∧ Hid (Below w.heap.size w V)) (fun i _ => l.length - (intOf i).toNat)
  case atStart => exact ⟨0, Nat.zero_le _, rfl, Lib.hid rfl, Lib.hid (Below.refl _ _)⟩
  case round =>
    obtain ⟨k, hk, rfl, hT, hV⟩ := hrel
    by_cases hlt : k < l.length
    · obtain ⟨bk, o, rfl, hbk, c0, c1⟩ := row_rule (HR.out.below hV.out) hlt
      have hp := (HL.out _ (List.getElem_mem hlt)).2
      cases hB : ruleB l[k] with
      | true =>
        have YES := Lib.hid (all_take_r hlt hT.out hB)
        have HB := Lib.hid hB
        clear hB
        generalize l[k] = r at c0 c1 hp HB
        go_wp2_with (go_at_call 31; ((refine (isRule_any (r := r) (HG.out.below (bel2 hV.out (one_new _ _))) hp HB.out).mono ?_); rintro e w1 ⟨rfl, b1⟩))
        go_roundw
        case rel => exact ⟨k + 1, by omega, by go_num, YES, Lib.hid (bel2 (bel2 hV.out (one_new _ _)) b1)⟩
        case measure => simp [intOf]; omega
      | false =>
        have NO := Lib.hid (mayR_no hlt hB)
        have HB := Lib.hid hB
        clear hB
        generalize l[k] = r at c0 c1 hp HB
        go_wp2_with (go_at_call 31; ((refine (isRule_any (r := r) (HG.out.below (bel2 hV.out (one_new _ _))) hp HB.out).mono ?_); rintro e w1 ⟨rfl, b1⟩))
        go_ret
        exact ⟨by rw [NO.out]; rfl, bel2 (bel2 hV.out (one_new _ _)) b1⟩
    · obtain rfl : k = l.length := by omega
      have YES := Lib.hid (mayR_end h8' hT.out)
      go_wp2
      go_ret
      exact ⟨by rw [YES.out]; rfl, hV.out⟩

variable {b : Nat} {F : Nat → Prop} {c : Nat} {st : St}

set_option maxHeartbeats 1000000 in
theorem rdirectory_any (h : TreeAt w b F c st) (hL : LinksOk st) (hg : Glob w) {r : Ru} (hp : r.path.length ≤ maxLen) {work : Txt} (hw : work.length ≤ maxLen) {fr D E : Int} (hD : dirOf (lk st) r work fr = (D, E)) :
    Calls Tryd.prog 34 #[TP b, RuV r, .string (bs work), .int .i64 fr] w fun e w' => e = .returned (.tuple #[.int .i64 D, .int .i64 E]) ∧ Below w.heap.size w w' := by
  have H := Lib.hid h
  have HL := Lib.hid hL
  have HG := Lib.hid hg
  clear h hL hg
  by_cases h2 : r.kind = 2
  · have HW : Hid (wDir (lk st) work = (D, E)) := Lib.hid (by rw [← hD, dirOf, if_pos h2])
    have e2 : (r.kind == 2) = true := by simpa using h2
    clear hD h2
    have W1 := wDir_any (H.out.below (one_new w (RuO r))) HL.out (HG.out.below (one_new w (RuO r))) hw
    rw [HW.out] at W1
    go_enter Tryd.func34, Tryd.ntmps34
    go_wp2_with (go_at_call 59; ((refine W1.mono ?_); rintro e w1 ⟨rfl, b1⟩))
    exact bodyPost_ret (v := .tuple #[.int .i64 D, .int .i64 E]) (by simp [results, Tryd.results34, go_sem]) rfl ⟨rfl, bel2 (one_new _ _) b1⟩
  have e2 : (r.kind == 2) = false := by simpa using h2
  by_cases h3 : r.kind = 3
  · have HW : Hid (wDir (lk st) r.path = (D, E)) := Lib.hid (by rw [← hD, dirOf, if_neg h2, if_pos h3])
    have e3 : (r.kind == 3) = true := by simpa using h3
    clear hD h2 h3
    have W1 := wDir_any (H.out.below (one_new w (RuO r))) HL.out (HG.out.below (one_new w (RuO r))) hp
    rw [HW.out] at W1
    go_enter Tryd.func34, Tryd.ntmps34
    go_wp2_with (go_at_call 59; ((refine W1.mono ?_); rintro e w1 ⟨rfl, b1⟩))
    exact bodyPost_ret (v := .tuple #[.int .i64 D, .int .i64 E]) (by simp [results, Tryd.results34, go_sem]) rfl ⟨rfl, bel2 (one_new _ _) b1⟩
  have e3 : (r.kind == 3) = false := by simpa using h3
  obtain ⟨rfl, rfl⟩ : fr = D ∧ 0 = E := by rw [dirOf, if_neg h2, if_neg h3] at hD; cases hD; exact ⟨rfl, rfl⟩
  clear hD h2 h3
  go_enter Tryd.func34, Tryd.ntmps34
  go_wp2
  exact bodyPost_ret (v := .tuple #[.int .i64 fr, .int .i64 0]) (by simp [results, Tryd.results34, go_sem]) rfl ⟨rfl, one_new _ _⟩

end

end Go.Proofs.YtpcdcmoapenbdaaDoor.T

namespace Go.Proofs.YtpcdcmoapenbdaaDoor.T
open Go.ChangeShapes Go.WideShapes Go.ChangeAt Go.RowKit
open Go.Proofs.YtpcdcmoapenbdaaDoor.N (bs bs_data bs_size bs_inj bs_of Glob retB)
open Go.Proofs.YtpcdcmoapenbdaaDoor.A (Tm TRow)

theorem fol_rn {L : Int → Txt → Option Br} (hL : ∀ d s y, L d s = some y → rng y.dir) : ∀ (n : Nat) (ps : List Txt) (x : Br), rng x.dir → rng (fol L n x ps).2.dir := by
  have h0 : rng noBr.dir := by unfold rng noBr; simp only; omega
  intro n
  induction n with
  | zero =>
    intro ps
    induction ps with
    | nil => exact fun x hx => by rw [fol_nil]; exact hx
    | cons p ps ih =>
      intro x hx
      by_cases hk : x.kind = 2
      · cases hl : L x.dir p with
        | none => rw [fol_none 0 hk hl]; exact h0
        | some y =>
          by_cases h3 : y.kind = 3
          · rw [fol_stop hk hl h3]; exact h0
          · rw [fol_on 0 hk hl h3]
            exact ih y (hL _ _ _ hl)
      · rw [fol_kind L 0 hk]; exact h0
  | succ n ihn =>
    intro ps
    induction ps with
    | nil => exact fun x hx => by rw [fol_nil]; exact hx
    | cons p ps ih =>
      intro x hx
      by_cases hk : x.kind = 2
      · cases hl : L x.dir p with
        | none => rw [fol_none (n + 1) hk hl]; exact h0
        | some y =>
          by_cases h3 : y.kind = 3
          · rw [fol_link hk hl h3]
            exact ihn _ (dirN 0) (by unfold rng dirN; simp only; omega)
          · rw [fol_on (n + 1) hk hl h3]
            exact ih y (hL _ _ _ hl)
      · rw [fol_kind L (n + 1) hk]; exact h0
theorem wDir_rn {L : Int → Txt → Option Br} (hL : ∀ d s y, L d s = some y → rng y.dir) {l : Txt} {D E : Int} (h : wDir L l = (D, E)) : rng D := by
  unfold wDir dirR at h
  have hr := fol_rn hL 8 (N.ps l) (dirN 0) rng0
  by_cases h1 : N.er l = 0
  · rw [if_pos h1] at h
    by_cases h2 : (fol L 8 (dirN 0) (N.ps l)).1 = 0
    · rw [if_pos h2] at h
      by_cases h3 : (fol L 8 (dirN 0) (N.ps l)).2.kind = 2
      · rw [if_pos h3] at h; cases h; exact hr
      · rw [if_neg h3] at h; cases h; exact rng0
    · rw [if_neg h2] at h; cases h; exact rng0
  · rw [if_neg h1] at h; cases h; exact rng0
theorem dirOf_rn {L : Int → Txt → Option Br} (hL : ∀ d s y, L d s = some y → rng y.dir) {r : Ru} {work : Txt} {fr : Int} (hf : rng fr) {D E : Int} (h : dirOf L r work fr = (D, E)) : rng D := by
  unfold dirOf at h
  by_cases h2 : r.kind = 2
  · rw [if_pos h2] at h; exact wDir_rn hL h
  rw [if_neg h2] at h
  by_cases h3 : r.kind = 3
  · rw [if_pos h3] at h; exact wDir_rn hL h
  rw [if_neg h3] at h
  cases h
  exact hf

/-- what Find has in memory: the box of its answer -/
structure Fb (w V : World) : Prop where
  one : BrAt V w.heap.size noBr (.slice none 0 0)
  bel : Below w.heap.size w V
theorem Fb.new (w : World) : Fb w (w.alloc (BrO noBr (.slice none 0 0))) := ⟨BrAt.new w noBr _, one_new _ _⟩
theorem Fb.below {w V V' : World} (h : Fb w V) (hb : Below V.heap.size V V') : Fb w V' := ⟨h.one.below hb, bel2 h.bel hb⟩
/-- found, in a box of its own -/
theorem Fb.found {w V w2 : World} (h : Fb w V) {y : Br} {a : Option Addr} {c : Nat} (ho : A.Own V.heap.size w2 (.slice a y.acl.length c) y.acl) (hb : Below V.heap.size V w2) :
    BrAt (setBr (w2.alloc (BrO y (.slice a y.acl.length c))) w.heap.size y (.slice a y.acl.length c)) w.heap.size y (.slice a y.acl.length c) ∧ A.Own w.heap.size (setBr (w2.alloc (BrO y (.slice a y.acl.length c))) w.heap.size y (.slice a y.acl.length c)) (.slice a y.acl.length c) y.acl ∧ Below w.heap.size w (setBr (w2.alloc (BrO y (.slice a y.acl.length c))) w.heap.size y (.slice a y.acl.length c)) := by
  have hl := h.one.lt
  exact one_own ((h.one.below hb).alloc _) (bel2 (bel2 h.bel hb) (one_new _ _)) (own_base (base' := w.heap.size + 1) (ho.keep (one_new _ _)) (by omega))

section
variable {w : World} {b : Nat} {F : Nat → Prop} {c : Nat} {st : St}

set_option maxHeartbeats 4000000 in
set_option maxRecDepth 8000 in
theorem find_rules (h : TreeAt w b F c st) (hL : LinksOk st) (hg : Glob w) {a : Option Addr} {cc n : Nat} {l : List Ru} (hr : G.Row kR w a cc l) (hl : ∀ r ∈ l, r.Ok) (hn : l.length = n) {work : Txt} (hw : work.length ≤ maxLen) {fr : Int} (hf : rng fr) {s : Txt} (hs : s.length ≤ maxLen) {R : Int × Br} (hR : findR (lk st) l work fr s = R) :
    Calls Tryd.prog 14 #[TP b, .slice a n cc, .string (bs work), .int .i64 fr, .string (bs s)] w (FolPost w R) := by
  subst hn
  have H := Lib.hid h
  have HL := Lib.hid hL
  have HG := Lib.hid hg
  have HR := Lib.hid hr
  have HO := Lib.hid hl
  have hsz : (bs s).size ≤ maxLen := by rw [bs_size]; exact hs
  have X0 := Lib.hid (Fb.new w)
  have RN : Hid (∀ d s y, lk st d s = some y → rng y.dir) := Lib.hid (fun d s y e => (lk_node h e).1)
  clear h hL hg hr hl
  cases hm : mayR l with
  | false =>
    obtain rfl : (1, noBr) = R := by rw [← hR, findR, if_neg (by rw [hm]; simp)]
    have HM := Lib.hid hm
    clear hm hR
    go_enter Tryd.func14, Tryd.ntmps14
    go_wp2_with (go_at_call 12; ((refine (rulesMay_any (HG.out.below X0.out.bel) (HR.out.below X0.out.bel) HO.out rfl HM.out).mono ?_); rintro e w1 ⟨rfl, b1⟩; have X1 := Lib.hid (X0.out.below b1); obtain ⟨s0, s1, s2, s3, s4, s5, s6, s7, s8, s9⟩ := X1.out.one.cell; have f2 := X1.out.one.fz; have hlt := X1.out.one.lt))
    have E1 := X1.out.one.stored noBr (.slice none 0 0)
    have E3 := Below.setBr X1.out.bel (k := w.heap.size) (Nat.le_refl _) noBr (.slice none 0 0)
    refine (show bodyPost _ _ _ _ _ (setBr w1 w.heap.size noBr (.slice none 0 0)) from ?_)
    generalize setBr w1 w.heap.size noBr (.slice none 0 0) = V at E1 E3 ⊢
    obtain ⟨g0, g1, g2, g3, g4, g5, g6, g7, g8, g9⟩ := E1.cell
    exact bodyPost_ret (v := .tuple #[BrV noBr (.slice none 0 0), .int .i64 1]) (by simp [results, Tryd.results14, go_sem, g0, g1, g2, g3, g4, g5, g6, g7, g8, g9]) rfl (fol_err E3 rfl)
  | true =>
    have HM := Lib.hid hm
    cases hm2 : N.may 32 s with
    | false =>
      obtain rfl : (3, noBr) = R := by rw [← hR, findR, if_pos hm, if_neg (by rw [hm2]; simp)]
      have HN : Hid (N.may 32 (bs s).data.toList = false) := Lib.hid (by rw [bs_data]; exact hm2)
      clear hm hm2 hR
      go_enter Tryd.func14, Tryd.ntmps14
      go_wp2_with (first
        | (go_at_call 12; ((refine (rulesMay_any (HG.out.below X0.out.bel) (HR.out.below X0.out.bel) HO.out rfl HM.out).mono ?_); rintro e w1 ⟨rfl, b1⟩; have X1 := Lib.hid (X0.out.below b1)))
        | (go_at_call 33; ((refine (N.may_any _ _ hsz).mono ?_); rw [HN.out]; rintro e w2 ⟨rfl, n2, h2⟩; have X2 := Lib.hid (X1.out.below (h2 ▸ bel_drewN w1 n2)); clear h2; obtain ⟨s0, s1, s2, s3, s4, s5, s6, s7, s8, s9⟩ := X2.out.one.cell; have f2 := X2.out.one.fz; have hlt := X2.out.one.lt)))
      have E1 := X2.out.one.stored noBr (.slice none 0 0)
      have E3 := Below.setBr X2.out.bel (k := w.heap.size) (Nat.le_refl _) noBr (.slice none 0 0)
      refine (show bodyPost _ _ _ _ _ (setBr w2 w.heap.size noBr (.slice none 0 0)) from ?_)
      generalize setBr w2 w.heap.size noBr (.slice none 0 0) = V at E1 E3 ⊢
      obtain ⟨g0, g1, g2, g3, g4, g5, g6, g7, g8, g9⟩ := E1.cell
      exact bodyPost_ret (v := .tuple #[BrV noBr (.slice none 0 0), .int .i64 3]) (by simp [results, Tryd.results14, go_sem, g0, g1, g2, g3, g4, g5, g6, g7, g8, g9]) rfl (fol_err E3 rfl)
    | true =>
      have HN : Hid (N.may 32 (bs s).data.toList = true) := Lib.hid (by rw [bs_data]; exact hm2)
      have S0 : Hid (srch (lk st) work fr s (l.drop 0) = R) := Lib.hid (by rw [List.drop_zero, ← hR, findR, if_pos hm, if_pos hm2])
      have h8 : l.length ≤ 8 := by
        by_cases h : l.length ≤ 8
        · exact h
        · have := mayR_long (l := l) (by omega)
          rw [hm] at this
          cases this
      clear hm hm2 hR
      go_enter Tryd.func14, Tryd.ntmps14
      go_wp2_with (first
        | (go_at_call 12; ((refine (rulesMay_any (HG.out.below X0.out.bel) (HR.out.below X0.out.bel) HO.out rfl HM.out).mono ?_); rintro e w1 ⟨rfl, b1⟩; have X1 := Lib.hid (X0.out.below b1)))
        | (go_at_call 33; ((refine (N.may_any _ _ hsz).mono ?_); rw [HN.out]; rintro e w2 ⟨rfl, n2, h2⟩; have X2 := Lib.hid (X1.out.below (h2 ▸ bel_drewN w1 n2)); clear h2)))
      go_loopw [33] (fun i V => ∃ k : Nat, k ≤ l.length ∧ i = .int .i64 k ∧ Hid (srch (lk st) work fr s (l.drop k) = R) ∧ Hid (Fb w V)) (fun i _ => l.length - (intOf i).toNat)
      case atStart => exact ⟨0, Nat.zero_le _, rfl, S0, X2⟩
      case round =>
        clear S0 X2 X1
        obtain ⟨k, hk, rfl, hS, hX⟩ := hrel
        by_cases hlt : k < l.length
        · obtain ⟨bk, o, rfl, hbk, c0, c1⟩ := row_rule (HR.out.below hX.out.bel) hlt
          have hp := (HO.out _ (List.getElem_mem hlt)).2
          obtain ⟨D, E, hD⟩ : ∃ D E, dirOf (lk st) l[k] work fr = (D, E) := ⟨_, _, rfl⟩
          have hDr := dirOf_rn RN.out hf hD
          by_cases hE : E = 0
          case neg =>
            have NX := Lib.hid (srch_none hlt hS.out (hit_dir hD hE))
            have HD := Lib.hid hD
            have e1 : (E != 0) = true := by simpa using hE
            clear hD hE hS
            generalize l[k] = r at c0 c1 hp HD
            go_wp2_with (go_at_call 34; ((refine (rdirectory_any (H.out.below (bel2 hX.out.bel (one_new _ (RuO r)))) HL.out (HG.out.below (bel2 hX.out.bel (one_new _ (RuO r)))) hp hw HD.out).mono ?_); rintro e w3 ⟨rfl, b3⟩; have X3 := Lib.hid ((hX.out.below (one_new _ (RuO r))).below b3)))
            go_roundw
            case rel => exact ⟨k + 1, by omega, by go_num, NX, X3⟩
            case measure => simp [intOf]; omega
          subst hE
          obtain ⟨E, y, hI⟩ : ∃ E y, wIn (lk st) D s = (E, y) := ⟨_, _, rfl⟩
          have HI := Lib.hid hI
          by_cases hy : E = 0 ∧ y.kind = 1
          · obtain ⟨rfl, hy⟩ := hy
            obtain rfl := srch_some hlt hS.out (hit_yes hD hI hy)
            have HD := Lib.hid hD
            have e1 : (y.kind == 1) = true := by simpa using hy
            clear hD hI hy hS
            generalize l[k] = r at c0 c1 hp HD
            go_wp2_with (first
              | (go_at_call 34; ((refine (rdirectory_any (H.out.below (bel2 hX.out.bel (one_new _ (RuO r)))) HL.out (HG.out.below (bel2 hX.out.bel (one_new _ (RuO r)))) hp hw HD.out).mono ?_); rintro e w3 ⟨rfl, b3⟩; have X3 := Lib.hid ((hX.out.below (one_new _ (RuO r))).below b3)))
              | (go_at_call 35; ((refine (wIn_any (H.out.below X3.out.bel) HL.out (HG.out.below X3.out.bel) hDr hs).mono ?_); rw [HI.out]; rintro e w4 ⟨a4, c4, rfl, o4, b4⟩; have E0 := Lib.hid (X3.out.found o4 b4); have X4 := Lib.hid ((X3.out.below b4).below (one_new _ (BrO y (.slice a4 y.acl.length c4)))); obtain ⟨s0, s1, s2, s3, s4, s5, s6, s7, s8, s9⟩ := X4.out.one.cell; have f2 := X4.out.one.fz; have hlt := X4.out.one.lt)))
            obtain ⟨E1, E2, E3⟩ := E0.out
            refine (show bodyPost _ _ _ _ _ (setBr (w4.alloc (BrO y (.slice a4 y.acl.length c4))) w.heap.size y (.slice a4 y.acl.length c4)) from ?_)
            generalize setBr (w4.alloc (BrO y (.slice a4 y.acl.length c4))) w.heap.size y (.slice a4 y.acl.length c4) = V5 at E1 E2 E3 ⊢
            obtain ⟨g0, g1, g2, g3, g4, g5, g6, g7, g8, g9⟩ := E1.cell
            exact bodyPost_ret (v := .tuple #[BrV y (.slice a4 y.acl.length c4), .int .i64 0]) (by simp [results, Tryd.results14, go_sem, g0, g1, g2, g3, g4, g5, g6, g7, g8, g9]) rfl ⟨a4, c4, rfl, E2, E3⟩
          · have NX := Lib.hid (srch_none hlt hS.out (hit_in hD hI hy))
            have HD := Lib.hid hD
            have hy' : (E == 0) = false ∨ (E == 0) = true ∧ (y.kind == 1) = false := by
              by_cases h0 : E = 0
              · right
                exact ⟨by simpa using h0, by simpa using fun h1 => hy ⟨h0, h1⟩⟩
              · left; simpa using h0
            clear hD hI hy hS
            generalize l[k] = r at c0 c1 hp HD
            rcases hy' with e1 | ⟨e1, e2⟩
            all_goals
              go_wp2_with (first
                | (go_at_call 34; ((refine (rdirectory_any (H.out.below (bel2 hX.out.bel (one_new _ (RuO r)))) HL.out (HG.out.below (bel2 hX.out.bel (one_new _ (RuO r)))) hp hw HD.out).mono ?_); rintro e w3 ⟨rfl, b3⟩; have X3 := Lib.hid ((hX.out.below (one_new _ (RuO r))).below b3)))
                | (go_at_call 35; ((refine (wIn_any (H.out.below X3.out.bel) HL.out (HG.out.below X3.out.bel) hDr hs).mono ?_); rw [HI.out]; rintro e w4 ⟨a4, c4, rfl, o4, b4⟩; have X4 := Lib.hid ((X3.out.below b4).below (one_new _ (BrO y (.slice a4 y.acl.length c4)))))))
              go_roundw
              case rel => exact ⟨k + 1, by omega, by go_num, NX, X4⟩
              case measure => simp [intOf]; omega
        · obtain rfl : k = l.length := by omega
          obtain rfl := srch_end hS.out
          obtain ⟨s0, s1, s2, s3, s4, s5, s6, s7, s8, s9⟩ := hX.out.one.cell
          have f2 := hX.out.one.fz
          have hlt' := hX.out.one.lt
          have E1 := hX.out.one.stored noBr (.slice none 0 0)
          have E3 := Below.setBr hX.out.bel (k := w.heap.size) (Nat.le_refl _) noBr (.slice none 0 0)
          go_wp2
          refine (show bodyPost _ _ _ _ _ (setBr wr w.heap.size noBr (.slice none 0 0)) from ?_)
          generalize setBr wr w.heap.size noBr (.slice none 0 0) = V5 at E1 E3 ⊢
          obtain ⟨g0, g1, g2, g3, g4, g5, g6, g7, g8, g9⟩ := E1.cell
          exact bodyPost_ret (v := .tuple #[BrV noBr (.slice none 0 0), .int .i64 4]) (by simp [results, Tryd.results14, go_sem, g0, g1, g2, g3, g4, g5, g6, g7, g8, g9]) rfl (fol_err E3 rfl)

end

end Go.Proofs.YtpcdcmoapenbdaaDoor.T
