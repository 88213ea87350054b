/-
  TreeNames: what its tree is while names are added; what is outside a tree's blocks; texts that came in.
-/
import Derived.Test.YtfghoceigofoiaaDoorTDelete
import Derived.Test.YtfghoceigofoiaaDoorNRow
import Derived.SliceStrings
namespace Go.Proofs.YtfghoceigofoiaaDoor.T
open Go.ChangeShapes Go.WideShapes Go.ChangeAt Go.RowKit
open Go.Proofs.YtfghoceigofoiaaDoor.N (bs bs_data bs_size bs_inj bs_of Row)
open Go.Proofs.YtfghoceigofoiaaDoor.A (Tm TRow)

/-- a slice of texts that came in -/
theorem row_open {H : Type} {X : World} {s : Option Addr} {n c : Nat} {d : DataW H} {p : List MemPlace} {spare : Nat → Bool}
    (ho : (Value.cells (.slice s n c)).toList = [.slice none 0 0] ∧ (d, p) = (.nil, []) ∨
      ∃ (a : Addr) (len cap : Nat) (ss : List ByteArray), (Value.cells (.slice s n c)).toList = [.slice (some a) len cap] ∧ 0 ≤ a.block ∧ len ≤ cap ∧ cap ≤ maxLen ∧ ss.length = (if spare a.block then cap else len) ∧
        (d, p) = (.slice (strs (ss.take len)) (strs (ss.drop len)), MemPlace.row a ss.length) ∧
        (∀ i, i < ss.length → X.cell? (a.add i) = some (.string (ss.getD i ByteArray.empty))) ∧ (∀ s ∈ ss, s.size ≤ maxLen)) :
    ∃ qs : List Txt, n = qs.length ∧ Row X s c qs ∧ ∀ q ∈ qs, q.length ≤ maxLen := by
  rcases ho with ⟨h1, h2⟩ | ⟨a, len, cap, ss, h1, _, hlc, _, hss, hd, hcell, hsz⟩
  · simp [Value.cells] at h1
    obtain ⟨rfl, rfl, rfl⟩ := h1
    exact ⟨[], rfl, Row.nil _ _ _, by simp⟩
  · simp [Value.cells] at h1
    obtain ⟨rfl, rfl, rfl⟩ := h1
    have hlen : n ≤ ss.length := by rw [hss]; split <;> omega
    refine ⟨(ss.take n).map (·.data.toList), by simp; omega, ⟨by simp; omega, fun h0 => ?_⟩, fun q hq => ?_⟩
    · have hn : 0 < n := by simp at h0; omega
      have h00 := hcell 0 (by omega)
      have hadd0 : a.add 0 = a := by simp [Addr.add]
      rw [hadd0] at h00
      have hs := World.cell?_spot h00
      have hblk := World.block_lt_of_cell? X _ h00
      obtain ⟨bk, o, sp⟩ := a
      simp only at hs
      subst hs
      refine ⟨bk, o, rfl, hblk, fun j q hq => ?_⟩
      rw [List.getElem?_map] at hq
      cases hj : (ss.take n)[j]? with
      | none => rw [hj] at hq; cases hq
      | some y =>
        rw [hj] at hq
        cases hq
        have hjl := (List.getElem?_eq_some_iff.1 hj).1
        rw [List.length_take] at hjl
        have hjs : j < ss.length := by omega
        have e := hcell j hjs
        have hadd : (⟨bk, o, none⟩ : Addr).add j = ⟨bk, o + j, none⟩ := by unfold Addr.add; split <;> simp_all
        rw [hadd] at e
        rw [e]
        have hy : ss[j]? = some y := by
          rw [List.getElem?_take] at hj
          rw [if_pos (by omega)] at hj
          exact hj
        rw [List.getD, hy, bs_of]
        rfl
    · obtain ⟨y, hy, rfl⟩ := List.mem_map.1 hq
      have := hsz y (List.mem_of_mem_take hy)
      rw [N.size_len]
      exact this

/-- a block outside a tree's -/
def Out (F : Nat → Prop) (V : World) (k : Nat) : Prop := k < V.heap.size ∧ ¬ F k
theorem Out.went {F F' : Nat → Prop} {V V' : World} {k : Nat} (h : Out F V k) (hw : Went F V F' V') : Out F' V' k := ⟨Nat.lt_of_lt_of_le h.1 hw.size, hw.out h.1 h.2⟩
theorem Out.kept {F F' : Nat → Prop} {V V' : World} {k : Nat} (h : Out F V k) (hw : Went F V F' V') : V'.heap[k]? = V.heap[k]? := hw.block k h.1 h.2
theorem Out.below {F : Nat → Prop} {V V' : World} {k : Nat} (h : Out F V k) (hb : Below V.heap.size V V') : Out F V' k := ⟨Nat.lt_of_lt_of_le h.1 hb.size, h.2⟩

def t7 : Tm := ([42], true, false, false)
def b7 : Br := ⟨1, 7, 0, [], false, [t7], 1, 2, 3, 0⟩

/-- one segment by all these names -/
structure Seven (st : St) (g : Nat) (x : Nd) (on : List Txt) : Prop where
  n : st.N g = some x
  br : x.br = b7
  home : x.home = 0
  names : x.names = on
  u : st.G 7 = some g
  p : ∀ s, st.P (0, s) = if s ∈ on then some g else none
  z : (st.Z 0).getD 0 = on.length

theorem seg7 : segB b7 = b7 := rfl
theorem seven_one (g : Nat) (q : Txt) : Seven (segS noSt g b7 0 q) g ⟨b7, 0, [q]⟩ [q] where
  n := by simp [segS, bindS, nodeS, upd, seg7]
  br := rfl
  home := rfl
  names := rfl
  u := by simp [segS, bindS, nodeS, upd, b7]
  p := fun s => by
    by_cases e : s = q
    · simp [segS, bindS, nodeS, upd, noSt, e]
    · simp [segS, bindS, nodeS, upd, noSt, e]
  z := by simp [segS, bindS, nodeS, upd, noSt]
theorem Seven.more {st : St} {g : Nat} {x : Nd} {on : List Txt} (h : Seven st g x on) (q : Txt) : Seven (bindS st g x q) g { x with names := x.names ++ [q] } (on ++ [q]) where
  n := by simp [bindS, upd]
  br := h.br
  home := h.home
  names := by simp [h.names]
  u := h.u
  p := fun s => by
    show upd st.P (x.home, q) (some g) (0, s) = _
    rw [h.home]
    by_cases e : s = q
    · subst e
      simp [upd]
    · have e' : ((0 : Int), s) ≠ (0, q) := fun h => e (by simpa using h)
      rw [upd_other _ _ e', h.p s]
      simp [e]
  z := by
    show (upd st.Z x.home (some ((st.Z x.home).getD 0 + 1)) 0).getD 0 = _
    rw [h.home, upd_same, h.z]
    simp
theorem Seven.free {st : St} {g : Nat} {x : Nd} {on : List Txt} (h : Seven st g x on) {q : Txt} (hm : N.may 32 q = true) (hq : q ∉ on) : freeE st 0 q = 0 := free_ok hm (by rw [h.p, if_neg hq])
theorem freeE_may {st : St} {q : Txt} (hm : N.may 32 q = false) : freeE st 0 q = 3 := by simp [freeE, isD0, hm]
theorem Seven.there {st : St} {g : Nat} {x : Nd} {on : List Txt} (h : Seven st g x on) {q : Txt} (hm : N.may 32 q = true) (hq : q ∈ on) : freeE st 0 q = 5 := by simp [freeE, isD0, hm, h.p, hq]

theorem unbindAll_G (d : Int) : ∀ (l : List Txt) (st : St), (unbindAll d l st).G = st.G
  | [], _ => rfl
  | t :: l, st => (unbindAll_G d l (unbindS st d t)).trans rfl
theorem unbindAll_Z (d : Int) : ∀ (l : List Txt) (st : St), ((unbindAll d l st).Z d).getD 0 = (st.Z d).getD 0 - l.length
  | [], st => by simp [unbindAll]
  | t :: l, st => by
    have := unbindAll_Z d l (unbindS st d t)
    show ((unbindAll d l (unbindS st d t)).Z d).getD 0 = _
    rw [this]
    simp [unbindS, upd]
    omega

/-- the law's tree, its own branch and its own slice of names -/
structure NL (w1 V : World) (b kb kt c : Nat) (on : List Txt) (v : Value) (F : Nat → Prop) (st : St) : Prop where
  tree : TreeAt V b F c st
  bel : Below w1.heap.size w1 V
  ge : ∀ i, F i → w1.heap.size ≤ i
  box : BrAt V kb b7 (.slice (some ⟨kt, 0, none⟩) 1 1)
  row : TRow V (some ⟨kt, 0, none⟩) 1 [t7]
  obox : ¬ F kb
  orow : ¬ F kt
  kbge : w1.heap.size ≤ kb
  ktge : w1.heap.size ≤ kt
  own : V.ownsRow w1.heap.size 9 1 v on.length (vals on)
  oown : ∀ k, v.ownBlock = some k → ¬ F k ∧ k ≠ kb ∧ k ≠ kt
  short : ∀ s ∈ on, N.may 32 s = true
/-- what it has -/
def StN (st : St) (on : List Txt) : Prop := (on = [] ∧ st = noSt) ∨ (on ≠ [] ∧ ∃ g x, Seven st g x on)

theorem row_one {V V' : World} {k : Nat} (h : TRow V (some ⟨k, 0, none⟩) 1 [t7]) (e : V'.heap[k]? = V.heap[k]?) (hs : k < V'.heap.size) : TRow V' (some ⟨k, 0, none⟩) 1 [t7] := by
  refine ⟨h.1, h.2.1, fun h0 => ?_⟩
  obtain ⟨bk, o, e1, hl, hc⟩ := h.2.2 h0
  cases e1
  refine ⟨k, 0, rfl, hs, fun j hj => ?_⟩
  have := hc j hj
  unfold A.TAt at this ⊢
  simp only [World.cell?, e] at this ⊢
  exact this
theorem row_lt {V : World} {k : Nat} (h : TRow V (some ⟨k, 0, none⟩) 1 [t7]) : k < V.heap.size := by
  obtain ⟨bk, o, e1, hl, hc⟩ := h.2.2 (by simp)
  cases e1
  exact hl

section
variable {w1 V : World} {b kb kt c : Nat} {on : List Txt} {v : Value} {F : Nat → Prop} {st : St}

theorem NL.went (h : NL w1 V b kb kt c on v F st) {F' : Nat → Prop} {V' : World} {c' : Nat} {st' : St} (ht : TreeAt V' b F' c' st') (hw : Went F V F' V') : NL w1 V' b kb kt c' on v F' st' where
  tree := ht
  bel := h.bel.trans (hw.below h.ge h.bel.size)
  ge := hw.ge h.ge h.bel.size
  box := (hw.block kb h.box.lt h.obox).trans h.box
  row := row_one h.row (hw.block kt (row_lt h.row) h.orow) (Nat.lt_of_lt_of_le (row_lt h.row) hw.size)
  obox := hw.out h.box.lt h.obox
  orow := hw.out (row_lt h.row) h.orow
  kbge := h.kbge
  ktge := h.ktge
  own := by
    refine ⟨h.own.1, ?_⟩
    rcases h.own.2 with h2 | ⟨g, cap, cur, rfl, hb, hg, r⟩
    · exact Or.inl h2
    · exact Or.inr ⟨g, cap, cur, rfl, hb, (hw.block g (Array.getElem?_eq_some_iff.1 hg).1 (h.oown g rfl).1).trans hg, r⟩
  oown := fun k e => ⟨hw.out (World.ownsRow.lt h.own k e).2 (h.oown k e).1, (h.oown k e).2⟩
  short := h.short
theorem NL.below (h : NL w1 V b kb kt c on v F st) {V' : World} (hb : Below V.heap.size V V') : NL w1 V' b kb kt c on v F st :=
  h.went (h.tree.below hb) (Went.of_below hb)
theorem NL.mono (h : NL w1 V b kb kt c on v F st) {c' : Nat} (hc : c ≤ c') : NL w1 V b kb kt c' on v F st :=
  { h with tree := h.tree.mono hc }
/-- a name more in the law's slice, behind the text that it is made of -/
theorem NL.put {q : Txt} {v' : Value} {V' : World} {o : Obj} (h : NL w1 V b kb kt c on v F st) (hown : V'.ownsRow w1.heap.size 9 1 v' (on.length + 1) (vals on ++ [.string (bs q)])) (hgr : (V.alloc o).grownBy V' v.ownBlock)
    (hat : v'.ownBlock = v.ownBlock ∨ v'.ownBlock = some (V.alloc o).heap.size) (hq : N.may 32 q = true) : NL w1 V' b kb kt c (on ++ [q]) v' F st := by
  have oth : ∀ i, i < V.heap.size → v.ownBlock ≠ some i → V'.heap[i]? = V.heap[i]? := fun i hi hne => (hgr.block i (by simp; omega) (fun e => hne e.symm)).trans (heap_alloc_old V _ hi)
  have hsz : V.heap.size ≤ V'.heap.size := by have := hgr.size; simp at this; omega
  exact {
    tree := h.tree.keep hsz (fun i hi => oth i (h.tree.ltF i hi) (fun e => (h.oown i e).1 hi))
    bel := (h.bel.alloc h.bel.size o).grown hgr (by have := h.bel.size; simp; omega) (fun k e => (World.ownsRow.lt h.own k e).1)
    ge := h.ge
    box := (oth kb h.box.lt (fun e => (h.oown kb e).2.1 rfl)).trans h.box
    row := row_one h.row (oth kt (row_lt h.row) (fun e => (h.oown kt e).2.2 rfl)) (Nat.lt_of_lt_of_le (row_lt h.row) hsz)
    obox := h.obox
    orow := h.orow
    kbge := h.kbge
    ktge := h.ktge
    own := by
      have e1 : (on ++ [q]).length = on.length + 1 := by simp
      have e2 : vals (on ++ [q]) = vals on ++ [.string (bs q)] := by simp [vals]
      rw [e1, e2]
      exact hown
    oown := fun k e => by
      rcases hat with e' | e'
      · rw [e'] at e
        exact h.oown k e
      · rw [e'] at e
        cases e
        have h1 := h.box.lt
        have h2 := row_lt h.row
        refine ⟨fun hf => ?_, by simp; omega, by simp; omega⟩
        have := h.tree.ltF _ hf
        simp at this
        omega
    short := fun s hs => by
      rcases List.mem_append.1 hs with hs | hs
      · exact h.short s hs
      · rw [List.mem_singleton.1 hs]
        exact hq }

/-- a name of the law's slice -/
theorem NL.at_ (h : NL w1 V b kb kt c on v F st) {k : Nat} (hk : k < on.length) : ∃ g cap, v = .slice (some ⟨g, 0, none⟩) on.length cap ∧ g < V.heap.size ∧ V.cell? ⟨g, k, none⟩ = some (.string (bs on[k])) := by
  rcases h.own.2 with ⟨_, e⟩ | ⟨g, cap, cur, rfl, _, hg, _⟩
  · omega
  · refine ⟨g, cap, rfl, (Array.getElem?_eq_some_iff.1 hg).1, ?_⟩
    rw [World.ownsRow.cellAt h.own k (by omega), vals, List.getElem?_map, List.getElem?_eq_getElem hk]
    rfl
theorem StN.len (h : StN st on) : (st.Z 0).getD 0 = on.length := by
  rcases h with ⟨rfl, rfl⟩ | ⟨_, g, x, h7⟩
  · rfl
  · exact h7.z
theorem NL.slice (h : NL w1 V b kb kt c on v F st) : ∃ a cap, v = .slice a on.length cap := by
  rcases h.own.2 with ⟨rfl, e⟩ | ⟨g, cap, cur, rfl, _⟩
  · exact ⟨none, 0, by rw [e]⟩
  · exact ⟨_, cap, rfl⟩

end

end Go.Proofs.YtfghoceigofoiaaDoor.T
