/-
  Rows of things of several cells each, whatever they are: how a slice holds them, a slice of a call's own, what is appended to it; parts of a row. No function of the program stands in this text.
  Rows that came in: a slice of things whose cells can be told, whatever they are.
-/
import Derived.Test.YtpcdcmoapenbdaaDoorProg
import Derived.WalkKit
import Derived.ProofKit
import Derived.Below
import Derived.Lib.Hide
import Derived.Maps.AppendAt
import Derived.Laws.AppendOwnNone
import Derived.Laws.OwnMore
import Derived.OwnWalk
import Derived.Deep.RegionHeld3
import Derived.OpenShut
import Derived.DataElems
import Derived.WalkLawsBesides
import Derived.SliceStrings
namespace Go.Proofs.YtpcdcmoapenbdaaDoor.G
open Go.ChangeShapes Go.WideShapes Go.ChangeAt Go.RowKit

/-- what stands in a row: its type, the slice's, how many cells and bytes, its zero, its cells -/
structure El (α : Type) where
  t : TypeId
  st : TypeId
  sz : Nat
  bytes : Nat
  z : Value
  cells : α → List Value

structure El.Good {α : Type} (s : El α) (P : Program) : Prop where
  under : P.underlying s.st = some (.slice s.t)
  info : (P.info? s.t).map (fun i => (i.zero, i.size, i.bytes)) = some (some s.z, s.sz, s.bytes)
  zc : s.z.cells.size = s.sz
  pos : 0 < s.sz
  len : ∀ x, (s.cells x).length = s.sz
  one : ∀ x, ∀ u ∈ s.cells x, u.oneCell' = true
  small : s.bytes ≤ 10000

section
variable {α : Type} {s : El α} {P : Program}

def flat (s : El α) (l : List α) : List Value := l.flatMap s.cells
theorem flat_nil : flat s [] = [] := rfl
theorem flat_app (l m : List α) : flat s (l ++ m) = flat s l ++ flat s m := by simp [flat]
theorem flat_cons (x : α) (l : List α) : flat s (x :: l) = s.cells x ++ flat s l := rfl
theorem El.Good.flat_len (g : s.Good P) : ∀ l, (flat s l).length = l.length * s.sz
  | [] => by simp [flat]
  | x :: l => by rw [flat_cons, List.length_append, g.len, g.flat_len l, List.length_cons, Nat.succ_mul]; omega
theorem El.Good.flat_one (g : s.Good P) (l : List α) : ∀ u ∈ flat s l, u.oneCell' = true := fun u hu => by
  obtain ⟨x, _, h⟩ := List.mem_flatMap.1 hu
  exact g.one x u h
theorem El.Good.flat_get (g : s.Good P) : ∀ (l : List α) (j r : Nat) (h : j < l.length), r < s.sz → (flat s l)[j * s.sz + r]? = (s.cells l[j])[r]?
  | x :: l, 0, r, _, hr => by
    rw [flat_cons, List.getElem?_append_left (by rw [g.len]; omega)]
    simp
  | x :: l, j + 1, r, h, hr => by
    have := g.flat_get l j r (by simpa using h) hr
    rw [flat_cons, List.getElem?_append_right (by rw [g.len, Nat.succ_mul]; omega), g.len]
    rw [show (j + 1) * s.sz + r - s.sz = j * s.sz + r by rw [Nat.succ_mul]; omega, this]
    rfl

/-- a slice holds these -/
def Row (s : El α) (w : World) (a : Option Addr) (c : Nat) (l : List α) : Prop :=
  l.length ≤ c ∧ (a = none → c = 0) ∧ (0 < l.length → ∃ bk o, a = some ⟨bk, o, none⟩ ∧ bk < w.heap.size ∧ ∀ j (h : j < l.length) r u, (s.cells l[j])[r]? = some u → w.cell? ⟨bk, o + j * s.sz + r, none⟩ = some u)

theorem Row.nil (w : World) : Row s w none 0 [] := ⟨Nat.zero_le _, fun _ => rfl, fun h => absurd h (by simp)⟩
theorem Row.empty (w : World) (d : Addr) (c : Nat) : Row s w (some d) c [] := ⟨Nat.zero_le _, fun e => (by cases e), fun h => absurd h (by simp)⟩
theorem Row.below {w w' : World} {a : Option Addr} {c : Nat} {l : List α} (h : Row s w a c l) (hb : Below w.heap.size w w') : Row s w' a c l :=
  ⟨h.1, h.2.1, fun h0 => by
    obtain ⟨bk, o, e, hl, hc⟩ := h.2.2 h0
    exact ⟨bk, o, e, Nat.lt_of_lt_of_le hl hb.size, fun j hj r u hu => (hb.cell (p := ⟨bk, o + j * s.sz + r, none⟩) hl).trans (hc j hj r u hu)⟩⟩
theorem Row.at_ {w : World} {a : Option Addr} {c : Nat} {l : List α} (h : Row s w a c l) {k : Nat} (hk : k < l.length) :
    ∃ bk o, a = some ⟨bk, o, none⟩ ∧ bk < w.heap.size ∧ ∀ r u, (s.cells l[k])[r]? = some u → w.cell? ⟨bk, o + k * s.sz + r, none⟩ = some u := by
  obtain ⟨bk, o, e, hl, hc⟩ := h.2.2 (by omega)
  exact ⟨bk, o, e, hl, hc k hk⟩
theorem Row.take {w : World} {a : Option Addr} {c : Nat} {l : List α} (h : Row s w a c l) (k : Nat) : Row s w a c (l.take k) := by
  refine ⟨by have := h.1; rw [List.length_take]; omega, h.2.1, fun h0 => ?_⟩
  rw [List.length_take] at h0
  obtain ⟨bk, o, e, hl, hc⟩ := h.2.2 (by omega)
  refine ⟨bk, o, e, hl, fun j hj r u hu => ?_⟩
  rw [List.length_take] at hj
  rw [List.getElem_take] at hu
  exact hc j (by omega) r u hu
theorem Row.drop {w : World} {bk o c : Nat} {l : List α} (h : Row s w (some ⟨bk, o, none⟩) c l) (k : Nat) (hk : k ≤ l.length) : Row s w (some ⟨bk, o + k * s.sz, none⟩) (c - k) (l.drop k) := by
  refine ⟨by rw [List.length_drop]; have := h.1; omega, fun e => (by cases e), fun h0 => ?_⟩
  rw [List.length_drop] at h0
  obtain ⟨bk', o', e, hl, hc⟩ := h.2.2 (by omega)
  cases e
  refine ⟨bk, o + k * s.sz, rfl, hl, fun j hj r u hu => ?_⟩
  rw [List.length_drop] at hj
  rw [List.getElem_drop] at hu
  have := hc (k + j) (by omega) r u hu
  rw [Nat.add_mul, ← Nat.add_assoc] at this
  exact this
theorem Row.cells (g : s.Good P) {w : World} {bk o c : Nat} {l : List α} (h : Row s w (some ⟨bk, o, none⟩) c l) : ∀ j u, (flat s l)[j]? = some u → w.cell? ((⟨bk, o, none⟩ : Addr).add j) = some u := by
  intro j u hj
  have hl : j < l.length * s.sz := by rw [← g.flat_len l]; exact (List.getElem?_eq_some_iff.1 hj).1
  have hi : j / s.sz < l.length := Nat.div_lt_of_lt_mul (by rw [Nat.mul_comm]; exact hl)
  obtain ⟨bk', o', e, _, hc⟩ := h.at_ hi
  cases e
  have hm := Nat.mod_lt j g.pos
  have e : j = j / s.sz * s.sz + j % s.sz := by rw [Nat.mul_comm]; exact (Nat.div_add_mod j s.sz).symm
  have hg := g.flat_get l (j / s.sz) (j % s.sz) hi hm
  rw [← e, hj] at hg
  rw [Addr.add_lit]
  have := hc (j % s.sz) u hg.symm
  rw [Nat.add_assoc, ← e] at this
  exact this

/-- .. of a call's own -/
def Own (s : El α) (base : Nat) (w : World) (v : Value) (l : List α) : Prop := w.ownsRow base s.t s.sz v l.length (flat s l)
section
variable {base : Nat} {w w' : World} {v : Value} {l : List α}
theorem Own.nil (base : Nat) (w : World) : Own s base w (.slice none 0 0) [] := World.ownsRow_nil w base _ _
theorem Own.alloc (h : Own s base w v l) (o : Obj) : Own s base (w.alloc o) v l := World.ownsRow.alloc h o
theorem Own.lt (h : Own s base w v l) {k : Nat} (hk : v.ownBlock = some k) : base ≤ k ∧ k < w.heap.size := World.ownsRow.lt h k hk
theorem Own.of (h : Own s base w v l) (hk : ∀ k, v.ownBlock = some k → w'.heap[k]? = w.heap[k]?) : Own s base w' v l := by
  refine ⟨h.1, ?_⟩
  rcases h.2 with h2 | ⟨g, cap, cur, rfl, hb, hg, r⟩
  · exact Or.inl h2
  · exact Or.inr ⟨g, cap, cur, rfl, hb, (hk g rfl).trans hg, r⟩
theorem Own.below (h : Own s base w v l) (hb : Below w.heap.size w w') : Own s base w' v l := h.of (fun k hk => hb.block k (h.lt hk).2)
theorem Own.mono (h : Own s base w v l) {base' : Nat} (hb : base' ≤ base) : Own s base' w v l := by
  refine ⟨h.1, ?_⟩
  rcases h.2 with h2 | ⟨g, cap, cur, rfl, hg, r⟩
  · exact Or.inl h2
  · exact Or.inr ⟨g, cap, cur, rfl, Nat.le_trans hb hg, r⟩
theorem Own.row (g : s.Good P) (h : Own s base w v l) : ∃ a c, v = .slice a l.length c ∧ Row s w a c l ∧ (l ≠ [] → ∃ k, a = some ⟨k, 0, none⟩) := by
  have h' := h
  rcases h.2 with ⟨rfl, e⟩ | ⟨k, cap, cur, rfl, hb, hg, hn, hm, hs, ht⟩
  · have : l = [] := List.length_eq_zero_iff.1 e
    subst this
    exact ⟨none, 0, rfl, Row.nil w, fun h => absurd rfl h⟩
  · refine ⟨some ⟨k, 0, none⟩, cap, rfl, ⟨hn, fun e => (by cases e), fun _ => ⟨k, 0, rfl, (Array.getElem?_eq_some_iff.1 hg).1, fun j hj r u hu => ?_⟩⟩, fun _ => ⟨k, rfl⟩⟩
    have hr : r < s.sz := by rw [← g.len l[j]]; exact (List.getElem?_eq_some_iff.1 hu).1
    have hlt : j * s.sz + r < l.length * s.sz := by
      have := Nat.mul_le_mul_right s.sz (show j + 1 ≤ l.length from hj)
      rw [Nat.succ_mul] at this
      omega
    rw [Nat.zero_add, World.ownsRow.cellAt (w := w) (base := base) (e := s.t) (size := s.sz) h' _ hlt, g.flat_get l j r hj hr]
    exact hu
theorem Own.grown {w0 : World} (h : Own s base w v l) (hb : Below w0.heap.size w0 w) (hbase : w0.heap.size ≤ base) (hg : w.grownBy w' v.ownBlock) : Below w0.heap.size w0 w' :=
  hb.grown hg hb.size (fun _ hk => Nat.le_trans hbase (h.lt hk).1)

/-- what an append answers -/
theorem run_app (g : s.Good P) (ty : TypeId) (hown : Own s base w v l) (ao : Option Addr) (c : Nat) (ms : List α) (hrow : Row s w ao c ms) (hlen : l.length + ms.length ≤ 1000000) (hbase : base ≤ w.heap.size) :
    ∃ a' c' w', (Builtin.append_ #[s.st, s.st] ty #[v, .slice ao ms.length c]).run P w = .ok (.slice a' (l ++ ms).length c') w' ∧ Own s base w' (.slice a' (l ++ ms).length c') (l ++ ms) ∧ w.grownBy w' v.ownBlock ∧
      ((Value.slice a' (l ++ ms).length c').ownBlock = v.ownBlock ∨ (Value.slice a' (l ++ ms).length c').ownBlock = some w.heap.size) := by
  obtain ⟨i0, hi, hz0, hz1, hz2⟩ := info_parts g.info
  suffices hx : ∃ v' w', (Builtin.append_ #[s.st, s.st] ty #[v, .slice ao ms.length c]).run P w = .ok v' w' ∧ Own s base w' v' (l ++ ms) ∧ w.grownBy w' v.ownBlock ∧ (v'.ownBlock = v.ownBlock ∨ v'.ownBlock = some w.heap.size) by
    obtain ⟨v', w', h1, h2, h3, h4⟩ := hx
    obtain ⟨a', c', e, _⟩ := Own.row g h2
    subst e
    exact ⟨a', c', w', h1, h2, h3, h4⟩
  cases ao with
  | none =>
    have hc : c = 0 := hrow.2.1 rfl
    have hm : ms = [] := List.length_eq_zero_iff.1 (by have := hrow.1; omega)
    subst hc hm
    have hrun := run_append_owned_none (P := P) (w := w) base s.st ty s.t i0 s.sz g.under hi v _ _ hown
    exact ⟨v, w, hrun, by simpa using hown, World.grownBy.refl _ _, Or.inl rfl⟩
  | some ad =>
    have hb2 : (l.length + ms.length) * s.bytes ≤ 140737488355328 := Nat.le_trans (Nat.mul_le_mul hlen g.small) (by omega)
    obtain ⟨v', w', hr, h2, h3, _, h5⟩ := run_append_own_at (P := P) w base s.st ty s.t i0 s.z s.sz s.bytes g.under hi hz0 hz1 hz2 g.zc g.pos v l.length (flat s l) hown ad ms.length c (flat s ms) (g.flat_len ms) (by
      by_cases h0 : 0 < ms.length
      · obtain ⟨bk, o', e, _, _⟩ := hrow.2.2 h0
        cases e
        exact hrow.cells g
      · have hm : ms = [] := List.length_eq_zero_iff.1 (by omega)
        subst hm
        intro j u hj
        simp [flat] at hj) (g.flat_one ms) (by unfold maxLen; omega) hb2 hbase
    refine ⟨v', w', hr, ?_, h3, h5⟩
    unfold Own
    rw [List.length_append, flat_app]
    exact h2

theorem wpList_g {ops : Array Oper} {rest : List Oper} {o : Oper} {a : Act} {Q : Exit → Act → World → Prop} (g : s.Good P) (hgd : o.guard = none) (x y : Operand)
    (ho : o.op = .call { callee := .builtin .append, args := #[x, y], argTypes := #[s.st, s.st] })
    (hs : a.eval x = v) (hown : Own s base w v l) (ao : Option Addr) (c n : Nat) (ms : List α) (hn : ms.length = n) (hy : a.eval y = .slice ao n c) (hrow : Row s w ao c ms) (N : Nat) (ys : List α) (hys : l ++ ms = ys) (hN : ys.length = N) (hlen : N ≤ 1000000) (hbase : base ≤ w.heap.size)
    (h : ∀ a' c' w', Own s base w' (.slice a' N c') ys → w.grownBy w' v.ownBlock → ((Value.slice a' N c').ownBlock = v.ownBlock ∨ (Value.slice a' N c').ownBlock = some w.heap.size) → wpList P ops Q rest (a.put o.dst (.slice a' N c')) w') : wpList P ops Q (o :: rest) a w := by
  subst hn hys hN
  obtain ⟨a', c', w', hr, h1, h2, h3⟩ := run_app g o.type hown ao c ms hrow (by rw [← List.length_append]; exact hlen) hbase
  refine wpList_plain hgd fun K hK => ?_
  unfold Oper.wp execOp
  simp only [ho, resolve, invoke, builtin, Sem.run_bind, Sem.run_pure, Result.andThen_ok, List.map_toArray, List.map_cons, List.map_nil, hs, hy, hr]
  exact hK _ _ (h a' c' w' h1 h2 h3)

/-- the same at a step of a region that draws its order -/
theorem step_g {ops : Array Oper} {o : Oper} {a : Act} {K : Act → World → Prop} {Q : Exit → Act → World → Prop} {EE : Prop} (g : s.Good P) (hgd : o.guard = none) (x y : Operand)
    (ho : o.op = .call { callee := .builtin .append, args := #[x, y], argTypes := #[s.st, s.st] })
    (hs : a.eval x = v) (hown : Own s base w v l) (ao : Option Addr) (c n : Nat) (ms : List α) (hn : ms.length = n) (hy : a.eval y = .slice ao n c) (hrow : Row s w ao c ms) (N : Nat) (ys : List α) (hys : l ++ ms = ys) (hN : ys.length = N) (hlen : N ≤ 1000000) (hbase : base ≤ w.heap.size)
    (h : ∀ a' c' w', Own s base w' (.slice a' N c') ys → w.grownBy w' v.ownBlock → ((Value.slice a' N c').ownBlock = v.ownBlock ∨ (Value.slice a' N c').ownBlock = some w.heap.size) → K (a.put o.dst (.slice a' N c')) w') : if Region.wanted o (yielded ops a.tmps) = true then Oper.wp P o a w K Q else EE := by
  subst hn hys hN
  have hw : Region.wanted o (yielded ops a.tmps) = true := by simp [Region.wanted, hgd]
  rw [if_pos hw]
  obtain ⟨a', c', w', hr, h1, h2, h3⟩ := run_app g o.type hown ao c ms hrow (by rw [← List.length_append]; exact hlen) hbase
  unfold Oper.wp execOp
  simp only [ho, resolve, invoke, builtin, Sem.run_bind, Sem.run_pure, Result.andThen_ok, List.map_toArray, List.map_cons, List.map_nil, hs, hy, hr]
  exact h a' c' w' h1 h2 h3

end
end

/-- texts in a row -/
def kT : El (List UInt8) where
  t := 9
  st := 24
  sz := 1
  bytes := 16
  z := .string ByteArray.empty
  cells := fun q => [.string ⟨q.toArray⟩]
theorem goodT : kT.Good Tryd.prog where
  under := Tryd.underlying24
  info := by kernel_rfl
  zc := rfl
  pos := by decide
  len := fun _ => rfl
  one := fun x u hu => by
    rw [List.mem_singleton.1 hu]
    rfl
  small := by decide

end Go.Proofs.YtpcdcmoapenbdaaDoor.G

namespace Go.Proofs.YtpcdcmoapenbdaaDoor.G
open Go.ChangeShapes Go.WideShapes Go.ChangeAt Go.RowKit

theorem list_of {α : Type} {P : Nat → α → Prop} : ∀ n, (∀ i, i < n → ∃ x, P i x) → ∃ l : List α, l.length = n ∧ ∀ i (h : i < l.length), P i l[i]
  | 0, _ => ⟨[], rfl, fun i h => absurd h (Nat.not_lt_zero _)⟩
  | n + 1, h => by
    obtain ⟨l, hl, hp⟩ := list_of n (fun i hi => h i (by omega))
    obtain ⟨x, hx⟩ := h n (by omega)
    refine ⟨l ++ [x], by simp [hl], fun i hi => ?_⟩
    by_cases e : i < l.length
    · rw [List.getElem_append_left e]
      exact hp i e
    · have : i = n := by simp at hi; omega
      subst this
      rw [List.getElem_append_right (by omega)]
      simp [hl]
      exact hx

section
variable {α : Type} {s : El α} {P : Program} {H : Type} {enc : TypeId × Value → H} {w : World} {base : Nat} {spare : Nat → Bool} {held : Bool}

theorem open_rows (g : s.Good P) (hcl : P.cellsOf s.t = s.sz) {pd : α → Prop} (each : ∀ fuel cs x, DataW.trod enc P w base spare held fuel s.t cs = some x → ∃ d, cs = s.cells d ∧ pd d)
    {r : Reach} {b0 : Nat} {v : Value} {d : DataW H} {p : List MemPlace} (hv : Value.okWide P w r b0 s.st v) (h : DataW.Trod enc P w base spare held s.st v d p) :
    ∃ a c l, v = .slice a (List.length l) c ∧ Row s w a c l ∧ l.length ≤ maxLen ∧ ∀ t ∈ l, pd t := by
  obtain ⟨a0, len, cap, rfl⟩ := okWide_slice g.under hv
  obtain ⟨fuel, hfu⟩ := h
  rcases DataW.trod_slice g.under hfu with ⟨hcs, _⟩ | ⟨a, len', cap', elems, rest, n, _, hcs, _, hb, hl, hm, hlen, hel, _, _⟩
  · simp [Value.cells] at hcs
    obtain ⟨rfl, rfl, rfl⟩ := hcs
    exact ⟨none, 0, [], rfl, Row.nil w, by simp, by simp⟩
  · simp [Value.cells] at hcs
    obtain ⟨rfl, rfl, rfl⟩ := hcs
    have h1 : ∀ i, i < len → ∃ t : α, (∀ x u, (s.cells t)[x]? = some u → w.cell? (a.add (i * s.sz + x)) = some u) ∧ pd t := by
      intro i hi
      have h1 := hel i hi
      rw [hcl, List.getElem?_eq_getElem (show i < elems.length by omega), Option.bind_eq_some_iff] at h1
      obtain ⟨cs, hcs, htr⟩ := h1
      obtain ⟨_, hcn, hcc⟩ := World.cells?_some hcs
      obtain ⟨t, ht, hmm⟩ := each _ _ _ htr
      refine ⟨t, fun x u hu => ?_, hmm⟩
      have hx : x < s.sz := by rw [← g.len t]; exact (List.getElem?_eq_some_iff.1 hu).1
      have h3 := hcc x hx
      rw [Addr.add_add] at h3
      rw [h3, ht]
      exact hu
    obtain ⟨l, rfl, hat⟩ := list_of len h1
    refine ⟨some a, cap, l, rfl, ?_, by omega, fun t ht => ?_⟩
    · refine ⟨hl, fun e => (by cases e), fun h0 => ?_⟩
      obtain ⟨b, o, sp⟩ := a
      have hc0 : ∃ u, (s.cells l[0])[0]? = some u := ⟨_, List.getElem?_eq_getElem (by rw [g.len]; exact g.pos)⟩
      obtain ⟨u, hu⟩ := hc0
      have q := (hat 0 h0).1 0 u hu
      rw [Nat.zero_mul, Nat.zero_add] at q
      have hadd0 : (⟨b, o, sp⟩ : Addr).add 0 = ⟨b, o, sp⟩ := by simp [Addr.add]
      rw [hadd0] at q
      have hs := World.cell?_spot q
      simp only at hs
      subst hs
      refine ⟨b, o, rfl, World.block_lt_of_cell? w _ q, fun j hj x u hu => ?_⟩
      have := (hat j hj).1 x u hu
      rw [Addr.add_lit, ← Nat.add_assoc] at this
      exact this
    · obtain ⟨i, hi, rfl⟩ := List.getElem_of_mem ht
      exact (hat i hi).2
end

end Go.Proofs.YtpcdcmoapenbdaaDoor.G
