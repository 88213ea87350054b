/-
  A branch that came in by value, with a slice of terms inside.
-/
import Derived.Test.YtknfiepbibaklaaDoorTCalls
import Derived.Test.YtknfiepbibaklaaDoorAOpen
namespace Go.Proofs.YtknfiepbibaklaaDoor.T
open Go.ChangeShapes Go.WideShapes Go.ChangeAt Go.RowKit
open Go.Proofs.YtknfiepbibaklaaDoor.N (bs bs_data bs_size bs_inj bs_of)
open Go.Proofs.YtknfiepbibaklaaDoor.A (Tm TRow tcells termAt cells_term cells_string cells_bool term_cells)

theorem list_of {α : Type} {P : Nat → α → Prop} : ∀ n, (∀ i, i < n → ∃ x, P i x) → ∃ l : List α, l.length = n ∧ ∀ i (h : i < l.length), P i l[i]
  | 0, _ => ⟨[], rfl, fun i h => absurd h (Nat.not_lt_zero _)⟩
  | n + 1, h => by
    obtain ⟨l, hl, hp⟩ := list_of n (fun i hi => h i (by omega))
    obtain ⟨x, hx⟩ := h n (by omega)
    refine ⟨l ++ [x], by simp [hl], fun i hi => ?_⟩
    by_cases e : i < l.length
    · rw [List.getElem_append_left e]
      exact hp i e
    · have : i = n := by simp at hi; omega
      subst this
      rw [List.getElem_append_right (by omega)]
      simp [hl]
      exact hx

theorem cells_int : Tryd.prog.cellsOf 3 = 1 := by kernel_rfl
theorem cells_terms : Tryd.prog.cellsOf 22 = 1 := by kernel_rfl
theorem cells_brk : Tryd.prog.cellsOf 24 = 4 := by kernel_rfl
theorem cells_branch : Tryd.prog.cellsOf 26 = 10 := by kernel_rfl

section
variable {H : Type} {enc : TypeId × Value → H} {w : World} {base : Nat} {spare : Nat → Bool} {held : Bool}

theorem int_cell {fuel : Nat} {cs : List Value} {x : DataW H × List MemPlace} (h : DataW.trod enc Tryd.prog w base spare held fuel 3 cs = some x) : ∃ n : Int, cs = [.int .i64 n] ∧ rng n := by
  obtain ⟨n, hn, _, hw⟩ := DataW.trod_int Tryd.underlying3 h
  refine ⟨n, hn, ?_⟩
  have := bounds_i64 hw
  unfold rng
  omega

theorem terms_cells {fuel : Nat} {cs : List Value} {x : DataW H × List MemPlace} (h : DataW.trod enc Tryd.prog w base spare held fuel 22 cs = some x) :
    ∃ a c l, cs = [.slice a (List.length l) c] ∧ TRow w a c l ∧ ∀ t ∈ l, t.1.length ≤ maxLen := by
  rcases DataW.trod_slice Tryd.underlying22 h with ⟨hcs, _⟩ | ⟨a, len, cap, elems, rest, n, _, hcs, _, hb, hl, hm, hlen, hel, _, _⟩
  · exact ⟨none, 0, [], hcs, TRow.nil w, by simp⟩
  · have each : ∀ i, i < len → ∃ t : Tm, (∀ x, x < 4 → w.cell? (a.add (i * 4 + x)) = (tcells t)[x]?) ∧ t.1.length ≤ maxLen := by
      intro i hi
      have h1 := hel i hi
      rw [cells_term, List.getElem?_eq_getElem (show i < elems.length by omega), Option.bind_eq_some_iff] at h1
      obtain ⟨cs, hcs, htr⟩ := h1
      obtain ⟨_, hcl, hcc⟩ := World.cells?_some hcs
      obtain ⟨t, ht, hmm⟩ := term_cells htr
      refine ⟨t, fun x hx => ?_, hmm⟩
      have h3 := hcc x hx
      rw [Addr.add_add] at h3
      rw [h3, ht]
      rfl
    obtain ⟨l, hll, hat⟩ := list_of len each
    subst hll
    refine ⟨some a, cap, l, hcs, ?_, fun t ht => ?_⟩
    · by_cases h0 : 0 < l.length
      · obtain ⟨b, o, s⟩ := a
        have q := (hat 0 h0).1 0 (by omega)
        have hs : s = none := by
          cases s with
          | none => rfl
          | some y =>
            exfalso
            simp [World.cell?, Addr.add, tcells] at q
            split at q <;> cases q
        subst hs
        have hbl : b < w.heap.size := by
          have hq : w.cell? ((⟨b, o, none⟩ : Addr).add (0 * 4 + 0)) = some (.string (bs l[0].1)) := q
          rw [Addr.add_lit] at hq
          exact World.block_lt_of_cell? w _ hq
        refine ⟨by omega, fun e => (by cases e), fun _ => ⟨b, o, rfl, hbl, fun j hj => ?_⟩⟩
        have q := (hat j hj).1
        have f : ∀ x, x < 4 → w.cell? ⟨b, o + j * 4 + x, none⟩ = (tcells l[j])[x]? := fun x hx => by
          have := q x hx
          rw [Addr.add_lit] at this
          rw [← this, Nat.add_assoc]
        exact ⟨f 0 (by omega), f 1 (by omega), f 2 (by omega), f 3 (by omega)⟩
      · exact ⟨by omega, fun e => (by cases e), fun h => absurd h h0⟩
    · obtain ⟨i, hi, rfl⟩ := List.getElem_of_mem ht
      exact (hat i hi).2

theorem brk_cells {fuel : Nat} {cs : List Value} {x : DataW H × List MemPlace} (h : DataW.trod enc Tryd.prog w base spare held fuel 24 cs = some x) : ∃ r1 r2 r3 gt : Int, cs = [.int .i64 r1, .int .i64 r2, .int .i64 r3, .int .i64 gt] := by
  obtain ⟨xs, n, _, _, hl, hlen, hf⟩ := DataW.trod_struct Tryd.underlying24 h
  rw [cells_brk] at hl
  match xs, hlen with
  | [y0, y1, y2, y3], _ =>
    have h0 := hf 0 _ rfl
    have h1 := hf 1 _ rfl
    have h2 := hf 2 _ rfl
    have h3 := hf 3 _ rfl
    simp only [List.getElem_toArray, List.getElem_cons_zero, List.getElem_cons_succ, List.getElem?_cons_zero, List.getElem?_cons_succ, cells_int] at h0 h1 h2 h3
    obtain ⟨r1, e1, _⟩ := int_cell h0
    obtain ⟨r2, e2, _⟩ := int_cell h1
    obtain ⟨r3, e3, _⟩ := int_cell h2
    obtain ⟨gt, e4, _⟩ := int_cell h3
    clear hf h h0 h1 h2 h3
    match cs, hl with
    | [p0, p1, p2, p3], _ =>
      simp at e1 e2 e3 e4
      exact ⟨r1, r2, r3, gt, by rw [e1, e2, e3, e4]⟩

theorem branch_cells {fuel : Nat} {cs : List Value} {x : DataW H × List MemPlace} (h : DataW.trod enc Tryd.prog w base spare held fuel 26 cs = some x) :
    ∃ (y : Br) (a : Option Addr) (c : Nat), cs = [.int .i64 y.kind, .int .i64 y.uid, .int .i64 y.dir, .string (bs y.link), .bool y.obj, .slice a y.acl.length c, .int .i64 y.r1, .int .i64 y.r2, .int .i64 y.r3, .int .i64 y.gt] ∧ TRow w a c y.acl ∧ (∀ t ∈ y.acl, t.1.length ≤ maxLen) ∧ rng y.uid := by
  obtain ⟨xs, n, _, _, hl, hlen, hf⟩ := DataW.trod_struct Tryd.underlying26 h
  rw [cells_branch] at hl
  match xs, hlen with
  | [y0, y1, y2, y3, y4, y5, y6], _ =>
    have h0 := hf 0 _ rfl
    have h1 := hf 1 _ rfl
    have h2 := hf 2 _ rfl
    have h3 := hf 3 _ rfl
    have h4 := hf 4 _ rfl
    have h5 := hf 5 _ rfl
    have h6 := hf 6 _ rfl
    simp only [List.getElem_toArray, List.getElem_cons_zero, List.getElem_cons_succ, List.getElem?_cons_zero, List.getElem?_cons_succ, cells_int, cells_string, cells_bool, cells_terms, cells_brk] at h0 h1 h2 h3 h4 h5 h6
    obtain ⟨kd, e0, _⟩ := int_cell h0
    obtain ⟨ud, e1, hu⟩ := int_cell h1
    obtain ⟨dr, e2, _⟩ := int_cell h2
    obtain ⟨s, e3, _, _⟩ := DataW.trod_string Tryd.underlying9 h3
    obtain ⟨ob, e4, _⟩ := DataW.trod_bool Tryd.underlying4 h4
    obtain ⟨a, c, l, e5, hr, ht⟩ := terms_cells h5
    obtain ⟨r1, r2, r3, gt, e6⟩ := brk_cells h6
    clear hf h h0 h1 h2 h3 h4 h5 h6
    match cs, hl with
    | [p0, p1, p2, p3, p4, p5, p6, p7, p8, p9], _ =>
      simp at e0 e1 e2 e3 e4 e5 e6
      refine ⟨⟨kd, ud, dr, s.data.toList, ob, l, r1, r2, r3, gt⟩, a, c, ?_, hr, ht, hu⟩
      rw [e0, e1, e2, e3, e4, e5, e6.1, e6.2.1, e6.2.2.1, e6.2.2.2, bs_of]

set_option maxRecDepth 100000 in
theorem open_branch {r : Reach} {b0 : Nat} {v : Value} {d : DataW H} {p : List MemPlace} (hv : Value.okWide Tryd.prog w r b0 26 v) (h : DataW.Trod enc Tryd.prog w base spare held 26 v d p) :
    ∃ (y : Br) (a : Option Addr) (c : Nat), v = BrV y (.slice a y.acl.length c) ∧ TRow w a c y.acl ∧ (∀ t ∈ y.acl, t.1.length ≤ maxLen) ∧ rng y.uid := by
  obtain ⟨cs, rfl, _⟩ := okWide_struct Tryd.underlying26 hv
  obtain ⟨fuel, hf⟩ := h
  obtain ⟨y, a, c, e, hr, ht, hu⟩ := branch_cells hf
  refine ⟨y, a, c, ?_, hr, ht, hu⟩
  have : cs.toList = _ := e
  cases cs
  simp only at this
  rw [this]

end

end Go.Proofs.YtknfiepbibaklaaDoor.T
