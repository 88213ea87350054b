/-
  Objects that came in: by value, with four slices in them.
-/
import Derived.Test.YtnlohmkgkihldaaOHeap
import Derived.Deep.Strs
import Derived.OpenShut
import Derived.DataElems
namespace Go.Proofs.Ytnlohmkgkihldaa.W
open Go.ChangeShapes Go.WideShapes Go.ChangeAt Go.RowKit
open Go.Proofs.Ytnlohmkgkihldaa.N (bs bs_data bs_of bs_size may may_pos retB)

theorem list_of {α : Type} {P : Nat → α → Prop} : ∀ n, (∀ i, i < n → ∃ x, P i x) → ∃ l : List α, l.length = n ∧ ∀ i (h : i < l.length), P i l[i]
  | 0, _ => ⟨[], rfl, fun i h => absurd h (Nat.not_lt_zero _)⟩
  | n + 1, h => by
    obtain ⟨l, hl, hp⟩ := list_of n (fun i hi => h i (by omega))
    obtain ⟨x, hx⟩ := h n (by omega)
    refine ⟨l ++ [x], by simp [hl], fun i hi => ?_⟩
    by_cases e : i < l.length
    · rw [List.getElem_append_left e]
      exact hp i e
    · have : i = n := by simp at hi; omega
      subst this
      rw [List.getElem_append_right (by omega)]
      simp [hl]
      exact hx

theorem cells_int : Try.prog.cellsOf 3 = 1 := by kernel_rfl
theorem cells_word : Try.prog.cellsOf 37 = 1 := by kernel_rfl
theorem cells_string : Try.prog.cellsOf 9 = 1 := by kernel_rfl
theorem cells_words : Try.prog.cellsOf 22 = 1 := by kernel_rfl
theorem cells_defs : Try.prog.cellsOf 24 = 1 := by kernel_rfl
theorem cells_links : Try.prog.cellsOf 25 = 1 := by kernel_rfl
theorem cells_def : Try.prog.cellsOf 41 = 2 := by kernel_rfl
theorem cells_link : Try.prog.cellsOf 43 = 3 := by kernel_rfl
theorem cells_object : Try.prog.cellsOf 27 = 4 := by kernel_rfl

section
variable {H : Type} {enc : TypeId × Value → H} {w : World} {base : Nat} {spare : Nat → Bool} {held : Bool}

theorem int_cell {fuel : Nat} {cs : List Value} {x : DataW H × List MemPlace} (h : DataW.trod enc Try.prog w base spare held fuel 3 cs = some x) : ∃ n : Int, cs = [.int .i64 n] ∧ I64 n := by
  obtain ⟨n, hn, _, hw⟩ := DataW.trod_int Try.underlying3 h
  refine ⟨n, hn, ?_⟩
  have := bounds_i64 hw
  unfold I64
  omega

theorem words_cells {fuel : Nat} {cs : List Value} {x : DataW H × List MemPlace} (h : DataW.trod enc Try.prog w base spare held fuel 22 cs = some x) :
    ∃ a c zs, cs = [.slice a (List.length zs) c] ∧ NumsIn .u64 w a zs ∧ (∀ z ∈ zs, U64 z) ∧ zs.length ≤ maxLen ∧ zs.length ≤ c := by
  rcases open_ints Try.underlying22 Try.underlying37 cells_word h with ⟨hcs, _⟩ | ⟨a, len, cap, zs, hcs, _, hl, hm, hz, _, hcell, hwz⟩
  · exact ⟨none, 0, [], hcs, fun h => by simp at h, by simp, by simp, by simp⟩
  · have hlen : len ≤ zs.length := by
      rw [hz]
      split <;> omega
    have htl : (zs.take len).length = len := by simp [hlen]
    refine ⟨some a, cap, zs.take len, by rw [hcs, htl], fun h => ?_, fun z hz => ?_, by rw [htl]; omega, by rw [htl]; omega⟩
    · rw [htl] at h
      obtain ⟨b, o, s⟩ := a
      have h0 := hcell 0 (by omega)
      have hs : s = none := by
        cases s with
        | none => rfl
        | some y =>
          exfalso
          simp [World.cell?, Addr.add] at h0
          split at h0 <;> cases h0
      subst hs
      refine ⟨b, o, rfl, fun i hi => ?_⟩
      rw [htl] at hi
      have := hcell i (by omega)
      rw [Addr.add_lit] at this
      rw [this]
      simp [List.getD, List.getElem?_take_of_lt (show i < len by omega)]
    · have := bounds_u64 (hwz z (List.mem_of_mem_take hz))
      exact ⟨this.1, by omega⟩

theorem def_cells {fuel : Nat} {cs : List Value} {x : DataW H × List MemPlace} (h : DataW.trod enc Try.prog w base spare held fuel 41 cs = some x) : ∃ t : Txt × Int, cs = [.string (bs t.1), .int .i64 t.2] ∧ t.1.length ≤ maxLen ∧ I64 t.2 := by
  obtain ⟨y0, y1, n, _, hl, h0, h1⟩ := trod_struct2 Try.underlying41 h
  rw [cells_def] at hl
  rw [cells_string] at h0
  rw [cells_int] at h1
  obtain ⟨s, hs, _, hm⟩ := DataW.trod_string Try.underlying9 h0
  obtain ⟨f, hf, hr⟩ := int_cell h1
  clear h h0 h1
  match cs, hl with
  | [o, p], _ =>
    simp at hs hf
    refine ⟨(s.data.toList, f), ?_, by rw [← N.bs_size]; rw [bs_of]; exact hm, hr⟩
    rw [hs, hf, bs_of]

theorem link_cells {fuel : Nat} {cs : List Value} {x : DataW H × List MemPlace} (h : DataW.trod enc Try.prog w base spare held fuel 43 cs = some x) : ∃ t : Txt × Txt × Int, cs = [.string (bs t.1), .string (bs t.2.1), .int .i64 t.2.2] ∧ t.1.length ≤ maxLen ∧ t.2.1.length ≤ maxLen ∧ I64 t.2.2 := by
  obtain ⟨y0, y1, y2, n, _, hl, h0, h1, h2⟩ := Deep.trod_struct3 Try.underlying43 h
  rw [cells_link] at hl
  rw [cells_string] at h0 h1
  rw [cells_int] at h2
  obtain ⟨s, hs, _, hm⟩ := DataW.trod_string Try.underlying9 h0
  obtain ⟨s', hs', _, hm'⟩ := DataW.trod_string Try.underlying9 h1
  obtain ⟨f, hf, hr⟩ := int_cell h2
  clear h h0 h1 h2
  match cs, hl with
  | [o, p, q], _ =>
    simp at hs hs' hf
    refine ⟨(s.data.toList, s'.data.toList, f), ?_, by rw [← N.bs_size]; rw [bs_of]; exact hm, by rw [← N.bs_size]; rw [bs_of]; exact hm', hr⟩
    rw [hs, hs', hf, bs_of, bs_of]

theorem defs_cells {fuel : Nat} {cs : List Value} {x : DataW H × List MemPlace} (h : DataW.trod enc Try.prog w base spare held fuel 24 cs = some x) :
    ∃ a c l, cs = [.slice a (List.length l) c] ∧ DRow w a l ∧ l.length ≤ maxLen ∧ ∀ t ∈ l, t.1.length ≤ maxLen ∧ I64 t.2 := by
  rcases DataW.trod_slice Try.underlying24 h with ⟨hcs, _⟩ | ⟨a, len, cap, elems, rest, n, _, hcs, _, hb, hl, hm, hlen, hel, _, _⟩
  · exact ⟨none, 0, [], hcs, fun h => by simp at h, by simp, by simp⟩
  · have each : ∀ i, i < len → ∃ t : Txt × Int, (∀ x, x < 2 → w.cell? (a.add (i * 2 + x)) = [Value.string (bs t.1), .int .i64 t.2][x]?) ∧ t.1.length ≤ maxLen ∧ I64 t.2 := by
      intro i hi
      have h1 := hel i hi
      rw [cells_def, List.getElem?_eq_getElem (show i < elems.length by omega), Option.bind_eq_some_iff] at h1
      obtain ⟨cs, hcs, htr⟩ := h1
      obtain ⟨_, hcl, hcc⟩ := World.cells?_some hcs
      obtain ⟨t, ht, hmm⟩ := def_cells htr
      refine ⟨t, fun x hx => ?_, hmm⟩
      have h3 := hcc x hx
      rw [Addr.add_add] at h3
      rw [h3, ht]
    obtain ⟨l, hll, hat⟩ := list_of len each
    subst hll
    refine ⟨some a, cap, l, hcs, fun h0 => ?_, by omega, fun t ht => ?_⟩
    · obtain ⟨b, o, s⟩ := a
      have q := (hat 0 h0).1 0 (by omega)
      have hs : s = none := by
        cases s with
        | none => rfl
        | some y =>
          exfalso
          simp [World.cell?, Addr.add] at q
          split at q <;> cases q
      subst hs
      have hbl : b < w.heap.size := by
        have hq : w.cell? ((⟨b, o, none⟩ : Addr).add (0 * 2 + 0)) = some (.string (bs l[0].1)) := q
        rw [Addr.add_lit] at hq
        exact World.block_lt_of_cell? w _ hq
      refine ⟨b, o, rfl, hbl, fun j hj => ?_⟩
      have q := (hat j hj).1
      have f : ∀ x, x < 2 → w.cell? ⟨b, o + j * 2 + x, none⟩ = [Value.string (bs l[j].1), .int .i64 l[j].2][x]? := fun x hx => by
        have := q x hx
        rw [Addr.add_lit] at this
        rw [← this, Nat.add_assoc]
      exact ⟨f 0 (by omega), f 1 (by omega)⟩
    · obtain ⟨i, hi, rfl⟩ := List.getElem_of_mem ht
      exact (hat i hi).2

theorem links_cells {fuel : Nat} {cs : List Value} {x : DataW H × List MemPlace} (h : DataW.trod enc Try.prog w base spare held fuel 25 cs = some x) :
    ∃ a c l, cs = [.slice a (List.length l) c] ∧ KRow w a l ∧ l.length ≤ maxLen ∧ ∀ t ∈ l, t.1.length ≤ maxLen ∧ t.2.1.length ≤ maxLen ∧ I64 t.2.2 := by
  rcases DataW.trod_slice Try.underlying25 h with ⟨hcs, _⟩ | ⟨a, len, cap, elems, rest, n, _, hcs, _, hb, hl, hm, hlen, hel, _, _⟩
  · exact ⟨none, 0, [], hcs, fun h => by simp at h, by simp, by simp⟩
  · have each : ∀ i, i < len → ∃ t : Txt × Txt × Int, (∀ x, x < 3 → w.cell? (a.add (i * 3 + x)) = [Value.string (bs t.1), .string (bs t.2.1), .int .i64 t.2.2][x]?) ∧ t.1.length ≤ maxLen ∧ t.2.1.length ≤ maxLen ∧ I64 t.2.2 := by
      intro i hi
      have h1 := hel i hi
      rw [cells_link, List.getElem?_eq_getElem (show i < elems.length by omega), Option.bind_eq_some_iff] at h1
      obtain ⟨cs, hcs, htr⟩ := h1
      obtain ⟨_, hcl, hcc⟩ := World.cells?_some hcs
      obtain ⟨t, ht, hmm⟩ := link_cells htr
      refine ⟨t, fun x hx => ?_, hmm⟩
      have h3 := hcc x hx
      rw [Addr.add_add] at h3
      rw [h3, ht]
    obtain ⟨l, hll, hat⟩ := list_of len each
    subst hll
    refine ⟨some a, cap, l, hcs, fun h0 => ?_, by omega, fun t ht => ?_⟩
    · obtain ⟨b, o, s⟩ := a
      have q := (hat 0 h0).1 0 (by omega)
      have hs : s = none := by
        cases s with
        | none => rfl
        | some y =>
          exfalso
          simp [World.cell?, Addr.add] at q
          split at q <;> cases q
      subst hs
      have hbl : b < w.heap.size := by
        have hq : w.cell? ((⟨b, o, none⟩ : Addr).add (0 * 3 + 0)) = some (.string (bs l[0].1)) := q
        rw [Addr.add_lit] at hq
        exact World.block_lt_of_cell? w _ hq
      refine ⟨b, o, rfl, hbl, fun j hj => ?_⟩
      have q := (hat j hj).1
      have f : ∀ x, x < 3 → w.cell? ⟨b, o + j * 3 + x, none⟩ = [Value.string (bs l[j].1), .string (bs l[j].2.1), .int .i64 l[j].2.2][x]? := fun x hx => by
        have := q x hx
        rw [Addr.add_lit] at this
        rw [← this, Nat.add_assoc]
      exact ⟨f 0 (by omega), f 1 (by omega), f 2 (by omega)⟩
    · obtain ⟨i, hi, rfl⟩ := List.getElem_of_mem ht
      exact (hat i hi).2

set_option maxRecDepth 100000 in
theorem open_ob {r : Reach} {b0 : Nat} {v : Value} {d : DataW H} {p : List MemPlace} (hv : Value.okWide Try.prog w r b0 27 v) (h : DataW.Trod enc Try.prog w base spare held 27 v d p) : ∃ q o, v = OV q o ∧ ObIn w q o ∧ Fit o := by
  obtain ⟨cs, rfl, _⟩ := okWide_struct Try.underlying27 hv
  obtain ⟨fuel, hf⟩ := h
  obtain ⟨xs, n, _, _, hl, hlen, hf⟩ := DataW.trod_struct Try.underlying27 hf
  rw [cells_object] at hl
  match xs, hlen with
  | [y0, y1, y2, y3], _ =>
    have h0 := hf 0 _ rfl
    have h1 := hf 1 _ rfl
    have h2 := hf 2 _ rfl
    have h3 := hf 3 _ rfl
    simp only [List.getElem_toArray, List.getElem_cons_zero, List.getElem_cons_succ, List.getElem?_cons_zero, List.getElem?_cons_succ, cells_words, cells_defs, cells_links] at h0 h1 h2 h3
    obtain ⟨a0, c0, l0, e0, n0, u0, m0, -⟩ := words_cells h0
    obtain ⟨a1, c1, l1, e1, n1, u1, m1, -⟩ := words_cells h1
    obtain ⟨a2, c2, l2, e2, n2, m2, u2⟩ := defs_cells h2
    obtain ⟨a3, c3, l3, e3, n3, m3, u3⟩ := links_cells h3
    clear hf h0 h1 h2 h3 hv
    have key : cs.toList = [.slice a0 l0.length c0, .slice a1 l1.length c1, .slice a2 l2.length c2, .slice a3 l3.length c3] := by
      have hl' : cs.toList.length = 4 := by simpa [Value.cells] using hl
      simp only [Value.cells] at e0 e1 e2 e3
      generalize cs.toList = ys at *
      match ys, hl' with
      | [p0, p1, p2, p3], _ =>
        simp at e0 e1 e2 e3
        rw [e0, e1, e2, e3]
    refine ⟨⟨a0, c0, a1, c1, a2, c2, a3, c3⟩, ⟨l0, l1, l2, l3⟩, ?_, ⟨n0, n1, n2, n3⟩, ⟨u0, u1, m0, m1, m2, m3, u2, u3⟩⟩
    cases cs
    simp only at key
    rw [key]
end

end Go.Proofs.Ytnlohmkgkihldaa.W
