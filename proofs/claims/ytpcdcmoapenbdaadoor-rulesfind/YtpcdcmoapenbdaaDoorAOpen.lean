/-
  Terms that came in: a term by value, a slice of terms.
-/
import Derived.Test.YtpcdcmoapenbdaaDoorAOwn
import Derived.Deep.Strs
import Derived.OpenShut
import Derived.DataElems
namespace Go.Proofs.YtpcdcmoapenbdaaDoor.A
open Go.ChangeShapes Go.WideShapes Go.ChangeAt Go.RowKit
open Go.Proofs.YtpcdcmoapenbdaaDoor.N

section
variable {H : Type} {enc : TypeId × Value → H} {w : World} {base : Nat} {spare : Nat → Bool} {held : Bool}

theorem cells_string : Tryd.prog.cellsOf 9 = 1 := by kernel_rfl
theorem cells_bool : Tryd.prog.cellsOf 4 = 1 := by kernel_rfl
theorem cells_flags : Tryd.prog.cellsOf 89 = 3 := by kernel_rfl
theorem cells_term : Tryd.prog.cellsOf 91 = 4 := by kernel_rfl

theorem flag_cells {fuel : Nat} {cs : List Value} {x : DataW H × List MemPlace} (h : DataW.trod enc Tryd.prog w base spare held fuel 89 cs = some x) : ∃ f : Fl, cs = [.bool f.1, .bool f.2.1, .bool f.2.2] := by
  obtain ⟨y0, y1, y2, n, _, hl, h0, h1, h2⟩ := Deep.trod_struct3 Tryd.underlying89 h
  rw [cells_flags] at hl
  rw [cells_bool] at h0 h1 h2
  obtain ⟨a, ha, _⟩ := DataW.trod_bool Tryd.underlying4 h0
  obtain ⟨b, hb, _⟩ := DataW.trod_bool Tryd.underlying4 h1
  obtain ⟨c, hc, _⟩ := DataW.trod_bool Tryd.underlying4 h2
  match cs, hl with
  | [p, q, r], _ =>
    simp at ha hb hc
    exact ⟨(a, b, c), by rw [ha, hb, hc]⟩

theorem term_cells {fuel : Nat} {cs : List Value} {x : DataW H × List MemPlace} (h : DataW.trod enc Tryd.prog w base spare held fuel 91 cs = some x) : ∃ t : Tm, cs = [.string (bs t.1), .bool t.2.1, .bool t.2.2.1, .bool t.2.2.2] ∧ t.1.length ≤ maxLen := by
  obtain ⟨y0, y1, n, _, hl, h0, h1⟩ := trod_struct2 Tryd.underlying91 h
  rw [cells_term] at hl
  rw [cells_string] at h0
  rw [cells_flags] at h1
  obtain ⟨s, hs, _, hm⟩ := DataW.trod_string Tryd.underlying9 h0
  obtain ⟨f, hf⟩ := flag_cells h1
  match cs, hl with
  | [o, p, q, r], _ =>
    simp at hs hf
    refine ⟨(s.data.toList, f), ?_, by rw [size_len]; exact hm⟩
    rw [hs, hf.1, hf.2.1, hf.2.2, bs_of]

set_option maxRecDepth 100000 in
theorem open_term {r : Reach} {b0 : Nat} {v : Value} {d : DataW H} {p : List MemPlace} (hv : Value.okWide Tryd.prog w r b0 91 v) (h : DataW.Trod enc Tryd.prog w base spare held 91 v d p) : ∃ t : Tm, v = TV t ∧ t.1.length ≤ maxLen := by
  obtain ⟨cs, rfl, _⟩ := okWide_struct Tryd.underlying91 hv
  obtain ⟨fuel, hf⟩ := h
  obtain ⟨t, ht, hm⟩ := term_cells hf
  refine ⟨t, ?_, hm⟩
  have : cs.toList = [.string (bs t.1), .bool t.2.1, .bool t.2.2.1, .bool t.2.2.2] := ht
  cases cs
  simp only at this
  rw [this]

def termAt (w : World) (a : Addr) (j : Nat) : Tm :=
  match w.cell? (a.add (j * 4)), w.cell? (a.add (j * 4 + 1)), w.cell? (a.add (j * 4 + 2)), w.cell? (a.add (j * 4 + 3)) with
  | some (.string s), some (.bool x), some (.bool y), some (.bool z) => (s.data.toList, x, y, z)
  | _, _, _, _ => ([], noFl)

set_option maxRecDepth 100000 in
theorem open_terms {r : Reach} {b0 : Nat} {v : Value} {d : DataW H} {p : List MemPlace} (hv : Value.okWide Tryd.prog w r b0 32 v) (h : DataW.Trod enc Tryd.prog w base spare held 32 v d p) :
    ∃ a c l, v = .slice a (List.length l) c ∧ TRow w a c l ∧ l.length ≤ maxLen ∧ ∀ t ∈ l, t.1.length ≤ maxLen := by
  obtain ⟨a0, len, cap, rfl⟩ := okWide_slice Tryd.underlying32 hv
  obtain ⟨fuel, hfu⟩ := h
  rcases DataW.trod_slice Tryd.underlying32 hfu with ⟨hcs, _⟩ | ⟨a, len', cap', elems, rest, n, _, hcs, _, hb, hl, hm, hlen, hel, _, _⟩
  · simp [Value.cells] at hcs
    obtain ⟨rfl, rfl, rfl⟩ := hcs
    exact ⟨none, 0, [], rfl, TRow.nil w, by simp, by simp⟩
  · simp [Value.cells] at hcs
    obtain ⟨rfl, rfl, rfl⟩ := hcs
    have each : ∀ i, i < len → ∃ t : Tm, (∀ x, x < 4 → w.cell? (a.add (i * 4 + x)) = (tcells t)[x]?) ∧ t.1.length ≤ maxLen := by
      intro i hi
      have h1 := hel i hi
      rw [cells_term, List.getElem?_eq_getElem (show i < elems.length by omega), Option.bind_eq_some_iff] at h1
      obtain ⟨cs, hcs, htr⟩ := h1
      obtain ⟨_, hcl, hcc⟩ := World.cells?_some hcs
      obtain ⟨t, ht, hmm⟩ := term_cells htr
      refine ⟨t, fun x hx => ?_, hmm⟩
      have h3 := hcc x hx
      rw [Addr.add_add] at h3
      rw [h3, ht]
      rfl
    have at_ : ∀ i, i < len → (∀ x, x < 4 → w.cell? (a.add (i * 4 + x)) = (tcells (termAt w a i))[x]?) ∧ (termAt w a i).1.length ≤ maxLen := by
      intro i hi
      obtain ⟨t, h1, h2⟩ := each i hi
      have e : termAt w a i = t := by
        have q0 := h1 0 (by omega)
        have q1 := h1 1 (by omega)
        have q2 := h1 2 (by omega)
        have q3 := h1 3 (by omega)
        simp only [tcells, Nat.add_zero, List.getElem?_cons_zero, List.getElem?_cons_succ] at q0 q1 q2 q3
        simp only [termAt, q0, q1, q2, q3, bs_data]
      rw [e]
      exact ⟨h1, h2⟩
    refine ⟨some a, cap, (List.range len).map (termAt w a), by simp, ?_, by simp; omega, fun t ht => ?_⟩
    · by_cases h0 : 0 < len
      · obtain ⟨b, o, s⟩ := a
        have q := (at_ 0 h0).1 0 (by omega)
        have hs : s = none := by
          cases s with
          | none => rfl
          | some y =>
            exfalso
            simp [World.cell?, Addr.add, tcells] at q
            split at q <;> cases q
        subst hs
        have hbl : b < w.heap.size := by
          have hq : w.cell? ((⟨b, o, none⟩ : Addr).add (0 * 4 + 0)) = some (.string (bs (termAt w ⟨b, o, none⟩ 0).1)) := q
          rw [Addr.add_lit] at hq
          exact World.block_lt_of_cell? w _ hq
        refine ⟨by simp; omega, fun e => (by cases e), fun _ => ⟨b, o, rfl, hbl, fun j hj => ?_⟩⟩
        simp at hj
        have q := (at_ j hj).1
        have f : ∀ x, x < 4 → w.cell? ⟨b, o + j * 4 + x, none⟩ = (tcells (termAt w ⟨b, o, none⟩ j))[x]? := fun x hx => by
          have := q x hx
          rw [Addr.add_lit] at this
          rw [← this, Nat.add_assoc]
        simp only [List.getElem_map, List.getElem_range]
        exact ⟨f 0 (by omega), f 1 (by omega), f 2 (by omega), f 3 (by omega)⟩
      · obtain rfl : len = 0 := by omega
        exact ⟨by simp, fun e => (by cases e), fun h => by simp at h⟩
    · obtain ⟨i, hi, rfl⟩ := List.mem_map.1 ht
      simp at hi
      exact (at_ i hi).2
end

end Go.Proofs.YtpcdcmoapenbdaaDoor.A
