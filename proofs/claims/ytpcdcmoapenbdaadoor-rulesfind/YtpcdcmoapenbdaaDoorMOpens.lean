/-
  Deeds that came in: a slice of deeds, each with a slice of terms inside; are they few, and their texts short (Small).
  Are deeds few, and their texts short: Small.
-/
import Derived.Test.YtpcdcmoapenbdaaDoorMDos
import Derived.Test.YtpcdcmoapenbdaaDoorAOpen
namespace Go.Proofs.YtpcdcmoapenbdaaDoor.T
open Go.ChangeShapes Go.WideShapes Go.ChangeAt Go.RowKit
open Go.Proofs.YtpcdcmoapenbdaaDoor.N (bs bs_data bs_size bs_inj bs_of Glob)
open Go.Proofs.YtpcdcmoapenbdaaDoor.A (Tm TRow tcells termAt cells_term cells_string cells_bool term_cells)

theorem list_of {α : Type} {P : Nat → α → Prop} : ∀ n, (∀ i, i < n → ∃ x, P i x) → ∃ l : List α, l.length = n ∧ ∀ i (h : i < l.length), P i l[i]
  | 0, _ => ⟨[], rfl, fun i h => absurd h (Nat.not_lt_zero _)⟩
  | n + 1, h => by
    obtain ⟨l, hl, hp⟩ := list_of n (fun i hi => h i (by omega))
    obtain ⟨x, hx⟩ := h n (by omega)
    refine ⟨l ++ [x], by simp [hl], fun i hi => ?_⟩
    by_cases e : i < l.length
    · rw [List.getElem_append_left e]
      exact hp i e
    · have : i = n := by simp at hi; omega
      subst this
      rw [List.getElem_append_right (by omega)]
      simp [hl]
      exact hx

theorem cells_int : Tryd.prog.cellsOf 3 = 1 := by kernel_rfl
theorem cells_terms : Tryd.prog.cellsOf 32 = 1 := by kernel_rfl
theorem cells_brk : Tryd.prog.cellsOf 34 = 4 := by kernel_rfl
theorem cells_branch : Tryd.prog.cellsOf 36 = 10 := by kernel_rfl
theorem cells_deed : Tryd.prog.cellsOf 38 = 14 := by kernel_rfl

section
variable {H : Type} {enc : TypeId × Value → H} {w : World} {base : Nat} {spare : Nat → Bool} {held : Bool}

theorem int_cell {fuel : Nat} {cs : List Value} {x : DataW H × List MemPlace} (h : DataW.trod enc Tryd.prog w base spare held fuel 3 cs = some x) : ∃ n : Int, cs = [.int .i64 n] ∧ rng n := by
  obtain ⟨n, hn, _, hw⟩ := DataW.trod_int Tryd.underlying3 h
  refine ⟨n, hn, ?_⟩
  have := bounds_i64 hw
  unfold rng
  omega

theorem terms_cells {fuel : Nat} {cs : List Value} {x : DataW H × List MemPlace} (h : DataW.trod enc Tryd.prog w base spare held fuel 32 cs = some x) :
    ∃ a c l, cs = [.slice a (List.length l) c] ∧ TRow w a c l ∧ ∀ t ∈ l, t.1.length ≤ maxLen := by
  rcases DataW.trod_slice Tryd.underlying32 h with ⟨hcs, _⟩ | ⟨a, len, cap, elems, rest, n, _, hcs, _, hb, hl, hm, hlen, hel, _, _⟩
  · exact ⟨none, 0, [], hcs, TRow.nil w, by simp⟩
  · have each : ∀ i, i < len → ∃ t : Tm, (∀ x, x < 4 → w.cell? (a.add (i * 4 + x)) = (tcells t)[x]?) ∧ t.1.length ≤ maxLen := by
      intro i hi
      have h1 := hel i hi
      rw [cells_term, List.getElem?_eq_getElem (show i < elems.length by omega), Option.bind_eq_some_iff] at h1
      obtain ⟨cs, hcs, htr⟩ := h1
      obtain ⟨_, hcl, hcc⟩ := World.cells?_some hcs
      obtain ⟨t, ht, hmm⟩ := term_cells htr
      refine ⟨t, fun x hx => ?_, hmm⟩
      have h3 := hcc x hx
      rw [Addr.add_add] at h3
      rw [h3, ht]
      rfl
    obtain ⟨l, hll, hat⟩ := list_of len each
    subst hll
    refine ⟨some a, cap, l, hcs, ?_, fun t ht => ?_⟩
    · by_cases h0 : 0 < l.length
      · obtain ⟨b, o, s⟩ := a
        have q := (hat 0 h0).1 0 (by omega)
        have hs : s = none := by
          cases s with
          | none => rfl
          | some y =>
            exfalso
            simp [World.cell?, Addr.add, tcells] at q
            split at q <;> cases q
        subst hs
        have hbl : b < w.heap.size := by
          have hq : w.cell? ((⟨b, o, none⟩ : Addr).add (0 * 4 + 0)) = some (.string (bs l[0].1)) := q
          rw [Addr.add_lit] at hq
          exact World.block_lt_of_cell? w _ hq
        refine ⟨by omega, fun e => (by cases e), fun _ => ⟨b, o, rfl, hbl, fun j hj => ?_⟩⟩
        have q := (hat j hj).1
        have f : ∀ x, x < 4 → w.cell? ⟨b, o + j * 4 + x, none⟩ = (tcells l[j])[x]? := fun x hx => by
          have := q x hx
          rw [Addr.add_lit] at this
          rw [← this, Nat.add_assoc]
        exact ⟨f 0 (by omega), f 1 (by omega), f 2 (by omega), f 3 (by omega)⟩
      · exact ⟨by omega, fun e => (by cases e), fun h => absurd h h0⟩
    · obtain ⟨i, hi, rfl⟩ := List.getElem_of_mem ht
      exact (hat i hi).2

theorem brk_cells {fuel : Nat} {cs : List Value} {x : DataW H × List MemPlace} (h : DataW.trod enc Tryd.prog w base spare held fuel 34 cs = some x) : ∃ r1 r2 r3 gt : Int, cs = [.int .i64 r1, .int .i64 r2, .int .i64 r3, .int .i64 gt] := by
  obtain ⟨xs, n, _, _, hl, hlen, hf⟩ := DataW.trod_struct Tryd.underlying34 h
  rw [cells_brk] at hl
  match xs, hlen with
  | [y0, y1, y2, y3], _ =>
    have h0 := hf 0 _ rfl
    have h1 := hf 1 _ rfl
    have h2 := hf 2 _ rfl
    have h3 := hf 3 _ rfl
    simp only [List.getElem_toArray, List.getElem_cons_zero, List.getElem_cons_succ, List.getElem?_cons_zero, List.getElem?_cons_succ, cells_int] at h0 h1 h2 h3
    obtain ⟨r1, e1, _⟩ := int_cell h0
    obtain ⟨r2, e2, _⟩ := int_cell h1
    obtain ⟨r3, e3, _⟩ := int_cell h2
    obtain ⟨gt, e4, _⟩ := int_cell h3
    clear hf h h0 h1 h2 h3
    match cs, hl with
    | [p0, p1, p2, p3], _ =>
      simp at e1 e2 e3 e4
      exact ⟨r1, r2, r3, gt, by rw [e1, e2, e3, e4]⟩

theorem branch_cells {fuel : Nat} {cs : List Value} {x : DataW H × List MemPlace} (h : DataW.trod enc Tryd.prog w base spare held fuel 36 cs = some x) :
    ∃ (y : Br) (a : Option Addr) (c : Nat), cs = [.int .i64 y.kind, .int .i64 y.uid, .int .i64 y.dir, .string (bs y.link), .bool y.obj, .slice a y.acl.length c, .int .i64 y.r1, .int .i64 y.r2, .int .i64 y.r3, .int .i64 y.gt] ∧ TRow w a c y.acl ∧ (∀ t ∈ y.acl, t.1.length ≤ maxLen) ∧ rng y.uid := by
  obtain ⟨xs, n, _, _, hl, hlen, hf⟩ := DataW.trod_struct Tryd.underlying36 h
  rw [cells_branch] at hl
  match xs, hlen with
  | [y0, y1, y2, y3, y4, y5, y6], _ =>
    have h0 := hf 0 _ rfl
    have h1 := hf 1 _ rfl
    have h2 := hf 2 _ rfl
    have h3 := hf 3 _ rfl
    have h4 := hf 4 _ rfl
    have h5 := hf 5 _ rfl
    have h6 := hf 6 _ rfl
    simp only [List.getElem_toArray, List.getElem_cons_zero, List.getElem_cons_succ, List.getElem?_cons_zero, List.getElem?_cons_succ, cells_int, cells_string, cells_bool, cells_terms, cells_brk] at h0 h1 h2 h3 h4 h5 h6
    obtain ⟨kd, e0, _⟩ := int_cell h0
    obtain ⟨ud, e1, hu⟩ := int_cell h1
    obtain ⟨dr, e2, _⟩ := int_cell h2
    obtain ⟨s, e3, _, _⟩ := DataW.trod_string Tryd.underlying9 h3
    obtain ⟨ob, e4, _⟩ := DataW.trod_bool Tryd.underlying4 h4
    obtain ⟨a, c, l, e5, hr, ht⟩ := terms_cells h5
    obtain ⟨r1, r2, r3, gt, e6⟩ := brk_cells h6
    clear hf h h0 h1 h2 h3 h4 h5 h6
    match cs, hl with
    | [p0, p1, p2, p3, p4, p5, p6, p7, p8, p9], _ =>
      simp at e0 e1 e2 e3 e4 e5 e6
      refine ⟨⟨kd, ud, dr, s.data.toList, ob, l, r1, r2, r3, gt⟩, a, c, ?_, hr, ht, hu⟩
      rw [e0, e1, e2, e3, e4, e5, e6.1, e6.2.1, e6.2.2.1, e6.2.2.2, bs_of]

theorem deed_cells {fuel : Nat} {cs : List Value} {x : DataW H × List MemPlace} (h : DataW.trod enc Tryd.prog w base spare held fuel 38 cs = some x) :
    ∃ (q : Dd) (a : Option Addr) (c : Nat), cs = (ddC q a c).toList ∧ TRow w a c q.br.acl ∧ (∀ t ∈ q.br.acl, t.1.length ≤ maxLen) ∧ rng q.br.uid ∧ rng q.dir := by
  obtain ⟨xs, n, _, _, hl, hlen, hf⟩ := DataW.trod_struct Tryd.underlying38 h
  rw [cells_deed] at hl
  match xs, hlen with
  | [y0, y1, y2, y3, y4], _ =>
    have h0 := hf 0 _ rfl
    have h1 := hf 1 _ rfl
    have h2 := hf 2 _ rfl
    have h3 := hf 3 _ rfl
    have h4 := hf 4 _ rfl
    simp only [List.getElem_toArray, List.getElem_cons_zero, List.getElem_cons_succ, List.getElem?_cons_zero, List.getElem?_cons_succ, cells_int, cells_string, cells_branch] at h0 h1 h2 h3 h4
    obtain ⟨wt, e0, _⟩ := int_cell h0
    obtain ⟨dr, e1, hd⟩ := int_cell h1
    obtain ⟨s, e2, _, _⟩ := DataW.trod_string Tryd.underlying9 h2
    obtain ⟨t, e3, _, _⟩ := DataW.trod_string Tryd.underlying9 h3
    obtain ⟨y, a, c, e4, hr, ht, hu⟩ := branch_cells h4
    clear hf h h0 h1 h2 h3 h4
    match cs, hl with
    | [p0, p1, p2, p3, p4, p5, p6, p7, p8, p9, p10, p11, p12, p13], _ =>
      simp at e0 e1 e2 e3 e4
      refine ⟨⟨wt, dr, s.data.toList, t.data.toList, y⟩, a, c, ?_, hr, ht, hu, hd⟩
      obtain ⟨f0, f1, f2, f3, f4, f5, f6, f7, f8, f9⟩ := e4
      simp only
      rw [e0, e1, e2, e3, f0, f1, f2, f3, f4, f5, f6, f7, f8, f9, bs_of, bs_of]

abbrev DD := Dd × Option Addr × Nat
def DRow (w : World) (a : Option Addr) (c : Nat) (l : List DD) : Prop :=
  l.length ≤ c ∧ (0 < l.length → ∃ bk o, a = some ⟨bk, o, none⟩ ∧ bk < w.heap.size ∧ ∀ j (hj : j < l.length), ∀ x, x < 14 → w.cell? ⟨bk, o + j * 14 + x, none⟩ = (ddC l[j].1 l[j].2.1 l[j].2.2)[x]?)
def DIn (w : World) (p : DD) : Prop := TRow w p.2.1 p.2.2 p.1.br.acl ∧ (∀ t ∈ p.1.br.acl, t.1.length ≤ maxLen) ∧ rng p.1.br.uid ∧ rng p.1.dir
theorem DRow.below {w' : World} {a : Option Addr} {c : Nat} {l : List DD} (h : DRow w a c l) (hb : Below w.heap.size w w') : DRow w' a c l :=
  ⟨h.1, fun h0 => by
    obtain ⟨bk, o, e, hl, hc⟩ := h.2 h0
    exact ⟨bk, o, e, Nat.lt_of_lt_of_le hl hb.size, fun j hj x hx => (hb.cell (p := ⟨bk, o + j * 14 + x, none⟩) hl).trans (hc j hj x hx)⟩⟩
theorem DRow.at_ {a : Option Addr} {c : Nat} {l : List DD} (h : DRow w a c l) {j : Nat} (hj : j < l.length) : ∃ bk o, a = some ⟨bk, o, none⟩ ∧ bk < w.heap.size ∧ l.length ≤ c
      ∧ w.cell? ⟨bk, o + j * 14, none⟩ = some (.int .i64 l[j].1.what) ∧ w.cell? ⟨bk, o + j * 14 + 1, none⟩ = some (.int .i64 l[j].1.dir) ∧ w.cell? ⟨bk, o + j * 14 + 2, none⟩ = some (.string (bs l[j].1.name)) ∧ w.cell? ⟨bk, o + j * 14 + 3, none⟩ = some (.string (bs l[j].1.more)) ∧ w.cell? ⟨bk, o + j * 14 + 4, none⟩ = some (.int .i64 l[j].1.br.kind) ∧ w.cell? ⟨bk, o + j * 14 + 5, none⟩ = some (.int .i64 l[j].1.br.uid) ∧ w.cell? ⟨bk, o + j * 14 + 6, none⟩ = some (.int .i64 l[j].1.br.dir)
      ∧ w.cell? ⟨bk, o + j * 14 + 7, none⟩ = some (.string (bs l[j].1.br.link)) ∧ w.cell? ⟨bk, o + j * 14 + 8, none⟩ = some (.bool l[j].1.br.obj) ∧ w.cell? ⟨bk, o + j * 14 + 9, none⟩ = some (.slice l[j].2.1 l[j].1.br.acl.length l[j].2.2) ∧ w.cell? ⟨bk, o + j * 14 + 10, none⟩ = some (.int .i64 l[j].1.br.r1) ∧ w.cell? ⟨bk, o + j * 14 + 11, none⟩ = some (.int .i64 l[j].1.br.r2) ∧ w.cell? ⟨bk, o + j * 14 + 12, none⟩ = some (.int .i64 l[j].1.br.r3) ∧ w.cell? ⟨bk, o + j * 14 + 13, none⟩ = some (.int .i64 l[j].1.br.gt) := by
  obtain ⟨bk, o, e, hl, hc⟩ := h.2 (by omega)
  have f := hc j hj
  exact ⟨bk, o, e, hl, h.1, f 0 (by omega), f 1 (by omega), f 2 (by omega), f 3 (by omega), f 4 (by omega), f 5 (by omega), f 6 (by omega), f 7 (by omega), f 8 (by omega), f 9 (by omega), f 10 (by omega), f 11 (by omega), f 12 (by omega), f 13 (by omega)⟩

set_option maxRecDepth 100000 in
theorem open_deeds {r : Reach} {b0 : Nat} {v : Value} {d : DataW H} {p : List MemPlace} (hv : Value.okWide Tryd.prog w r b0 22 v) (h : DataW.Trod enc Tryd.prog w base spare held 22 v d p) :
    ∃ a c l, v = .slice a (List.length l) c ∧ DRow w a c l ∧ l.length ≤ maxLen ∧ ∀ p ∈ l, DIn w p := by
  obtain ⟨a0, len, cap, rfl⟩ := okWide_slice Tryd.underlying22 hv
  obtain ⟨fuel, hfu⟩ := h
  rcases DataW.trod_slice Tryd.underlying22 hfu with ⟨hcs, _⟩ | ⟨a, len', cap', elems, rest, n, _, hcs, _, hb, hl, hm, hlen, hel, _, _⟩
  · simp [Value.cells] at hcs
    obtain ⟨rfl, rfl, rfl⟩ := hcs
    exact ⟨none, 0, [], rfl, ⟨Nat.le_refl _, fun h => absurd h (by simp)⟩, by simp, by simp⟩
  · simp [Value.cells] at hcs
    obtain ⟨rfl, rfl, rfl⟩ := hcs
    have each : ∀ i, i < len → ∃ p : DD, (∀ x, x < 14 → w.cell? (a.add (i * 14 + x)) = (ddC p.1 p.2.1 p.2.2)[x]?) ∧ DIn w p := by
      intro i hi
      have h1 := hel i hi
      rw [cells_deed, List.getElem?_eq_getElem (show i < elems.length by omega), Option.bind_eq_some_iff] at h1
      obtain ⟨cs, hcs, htr⟩ := h1
      obtain ⟨_, hcl, hcc⟩ := World.cells?_some hcs
      obtain ⟨q, a', c', hq, hr, ht, hu, hd⟩ := deed_cells htr
      refine ⟨(q, a', c'), fun x hx => ?_, hr, ht, hu, hd⟩
      have h3 := hcc x hx
      rw [Addr.add_add] at h3
      rw [h3, hq]
      simp
    obtain ⟨l, hll, hat⟩ := list_of len each
    subst hll
    refine ⟨some a, cap, l, rfl, ⟨by omega, fun h0 => ?_⟩, by omega, fun p hp => ?_⟩
    · obtain ⟨b, o, s⟩ := a
      have q := (hat 0 h0).1 0 (by omega)
      have hs : s = none := by
        cases s with
        | none => rfl
        | some y =>
          exfalso
          simp [World.cell?, Addr.add, ddC] at q
          split at q <;> cases q
      subst hs
      have hbl : b < w.heap.size := by
        have hq : w.cell? ((⟨b, o, none⟩ : Addr).add (0 * 14 + 0)) = some (.int .i64 l[0].1.what) := q
        rw [Addr.add_lit] at hq
        exact World.block_lt_of_cell? w _ hq
      refine ⟨b, o, rfl, hbl, fun j hj x hx => ?_⟩
      have := (hat j hj).1 x hx
      rw [Addr.add_lit] at this
      rw [← this, Nat.add_assoc]
    · obtain ⟨i, hi, rfl⟩ := List.getElem_of_mem hp
      exact (hat i hi).2

def SmallD (q : Dd) : Prop := q.name.length ≤ 200 ∧ q.more.length ≤ 200 ∧ q.br.link.length ≤ 400 ∧ q.br.acl.length ≤ 40
theorem ok_of {p : DD} (h : DIn w p) (hs : SmallD p.1) : DdOk p.1 := ⟨h.2.2.2, hs.1, hs.2.1, hs.2.2.1, hs.2.2.2, h.2.1, h.2.2.1.2⟩

end

end Go.Proofs.YtpcdcmoapenbdaaDoor.T

namespace Go.Proofs.YtpcdcmoapenbdaaDoor.T
open Go.ChangeShapes Go.WideShapes Go.ChangeAt Go.RowKit
open Go.Proofs.YtpcdcmoapenbdaaDoor.N (bs bs_data bs_size bs_inj bs_of Glob)
open Go.Proofs.YtpcdcmoapenbdaaDoor.A (Tm TRow)

theorem small_ways (k : Nat) (q : Dd) : decide ((120 : Int) < (k : Int)) = true ∨ (decide ((120 : Int) < (k : Int)) = false ∧ decide ((200 : Int) < ((bs q.name).size : Int)) = true) ∨ (decide ((120 : Int) < (k : Int)) = false ∧ decide ((200 : Int) < ((bs q.name).size : Int)) = false ∧ decide ((200 : Int) < ((bs q.more).size : Int)) = true)
    ∨ (decide ((120 : Int) < (k : Int)) = false ∧ decide ((200 : Int) < ((bs q.name).size : Int)) = false ∧ decide ((200 : Int) < ((bs q.more).size : Int)) = false ∧ decide ((400 : Int) < ((bs q.br.link).size : Int)) = true)
    ∨ (decide ((120 : Int) < (k : Int)) = false ∧ decide ((200 : Int) < ((bs q.name).size : Int)) = false ∧ decide ((200 : Int) < ((bs q.more).size : Int)) = false ∧ decide ((400 : Int) < ((bs q.br.link).size : Int)) = false ∧ decide ((40 : Int) < (q.br.acl.length : Int)) = true)
    ∨ ((decide ((120 : Int) < (k : Int)) = false ∧ decide ((200 : Int) < ((bs q.name).size : Int)) = false ∧ decide ((200 : Int) < ((bs q.more).size : Int)) = false ∧ decide ((400 : Int) < ((bs q.br.link).size : Int)) = false ∧ decide ((40 : Int) < (q.br.acl.length : Int)) = false) ∧ k ≤ 120 ∧ SmallD q) := by
  by_cases h1 : (120 : Int) < k
  · exact Or.inl (by simpa using h1)
  by_cases h2 : (200 : Int) < ((bs q.name).size : Int)
  · exact Or.inr (Or.inl ⟨by simpa using h1, by simpa using h2⟩)
  by_cases h3 : (200 : Int) < ((bs q.more).size : Int)
  · exact Or.inr (Or.inr (Or.inl ⟨by simpa using h1, by simpa using h2, by simpa using h3⟩))
  by_cases h4 : (400 : Int) < ((bs q.br.link).size : Int)
  · exact Or.inr (Or.inr (Or.inr (Or.inl ⟨by simpa using h1, by simpa using h2, by simpa using h3, by simpa using h4⟩)))
  by_cases h5 : (40 : Int) < (q.br.acl.length : Int)
  · exact Or.inr (Or.inr (Or.inr (Or.inr (Or.inl ⟨by simpa using h1, by simpa using h2, by simpa using h3, by simpa using h4, by simpa using h5⟩))))
  refine Or.inr (Or.inr (Or.inr (Or.inr (Or.inr ⟨⟨by simpa using h1, by simpa using h2, by simpa using h3, by simpa using h4, by simpa using h5⟩, by omega, ?_⟩))))
  rw [bs_size] at h2 h3 h4
  exact ⟨by omega, by omega, by omega, by omega⟩

instance (q : Dd) : Decidable (SmallD q) := by unfold SmallD; infer_instance
def smallB (l : List DD) : Bool := decide (l.length ≤ 121 ∧ ∀ p ∈ l, SmallD p.1)
theorem small_no {l : List DD} {k : Nat} (hk : k < l.length) (h : ¬ SmallD l[k].1) : smallB l = false := decide_eq_false (fun hh => h (hh.2 _ (List.getElem_mem hk)))

set_option maxRecDepth 20000 in
set_option maxHeartbeats 4000000 in
theorem small7_is {w : World} {a : Option Addr} {c : Nat} {l : List DD} (h : DRow w a c l) {r : Bool} (hr : smallB l = r) :
    Calls Tryd.prog 8 #[.slice a l.length c] w fun e w' => e = .returned (.bool r) ∧ w = w' := by
  have HR := Lib.hid h
  have HB := Lib.hid hr
  clear h hr
  go_enter Tryd.func8, Tryd.ntmps8
  go_wp2
  go_loop [3] (fun i => ∃ k : Nat, k ≤ l.length ∧ k ≤ 121 ∧ i = .int .i64 k ∧ Hid (∀ j (hj : j < l.length), j < k → SmallD l[j].1)) (fun i => l.length - (intOf i).toNat)
  case atStart => exact ⟨0, Nat.zero_le _, by omega, rfl, Lib.hid (fun j hj h0 => absurd h0 (Nat.not_lt_zero _))⟩
  case round =>
    obtain ⟨k, hk, hk1, rfl, ha⟩ := hrel
    by_cases hlt : k < l.length
    · obtain ⟨bk, o, rfl, hbk, hlc, c0, c1, c2, c3, c4, c5, c6, c7, c8, c9, _⟩ := HR.out.at_ hlt
      rcases small_ways k l[k].1 with e1 | ⟨e1, e2⟩ | ⟨e1, e2, e3⟩ | ⟨e1, e2, e3, e4⟩ | ⟨e1, e2, e3, e4, e5⟩ | ⟨⟨e1, e2, e3, e4, e5⟩, hk2, hs⟩
      · obtain rfl : r = false := HB.out.symm.trans (decide_eq_false (fun hh => by have := of_decide_eq_true e1; omega))
        go_wp2
        go_ret
        exact ⟨rfl, rfl⟩
      · obtain rfl : r = false := HB.out.symm.trans (small_no hlt (fun hh => by have := of_decide_eq_true e2; rw [bs_size] at this; have := hh.1; omega))
        go_wp2
        go_ret
        exact ⟨rfl, rfl⟩
      · obtain rfl : r = false := HB.out.symm.trans (small_no hlt (fun hh => by have := of_decide_eq_true e3; rw [bs_size] at this; have := hh.2.1; omega))
        go_wp2
        go_ret
        exact ⟨rfl, rfl⟩
      · obtain rfl : r = false := HB.out.symm.trans (small_no hlt (fun hh => by have := of_decide_eq_true e4; rw [bs_size] at this; have := hh.2.2.1; omega))
        go_wp2
        go_ret
        exact ⟨rfl, rfl⟩
      · obtain rfl : r = false := HB.out.symm.trans (small_no hlt (fun hh => by have := of_decide_eq_true e5; have := hh.2.2.2; omega))
        go_wp2
        go_ret
        exact ⟨rfl, rfl⟩
      · have HS := Lib.hid hs
        go_wp2
        go_round
        case rel =>
          refine ⟨k + 1, by omega, by omega, by go_num, Lib.hid (fun j hj h0 => ?_)⟩
          by_cases e : j = k
          · subst e
            exact HS.out
          · exact ha.out j hj (by omega)
        case measure => simp [intOf]; omega
    · obtain rfl : k = l.length := by omega
      obtain rfl : r = true := HB.out.symm.trans (decide_eq_true ⟨hk1, fun p hp => by
        obtain ⟨j, hj, rfl⟩ := List.getElem_of_mem hp
        exact ha.out j hj hj⟩)
      go_wp2
      go_ret
      exact ⟨rfl, rfl⟩

end Go.Proofs.YtpcdcmoapenbdaaDoor.T
