/-
  Rows that came in: a slice of things whose cells can be told, whatever they are.
-/
import Derived.Test.YtpcdcmoapenbdaaDoorGRow
import Derived.OpenShut
import Derived.DataElems
import Derived.WalkLawsBesides
import Derived.SliceStrings
namespace Go.Proofs.YtpcdcmoapenbdaaDoor.G
open Go.ChangeShapes Go.WideShapes Go.ChangeAt Go.RowKit

theorem list_of {α : Type} {P : Nat → α → Prop} : ∀ n, (∀ i, i < n → ∃ x, P i x) → ∃ l : List α, l.length = n ∧ ∀ i (h : i < l.length), P i l[i]
  | 0, _ => ⟨[], rfl, fun i h => absurd h (Nat.not_lt_zero _)⟩
  | n + 1, h => by
    obtain ⟨l, hl, hp⟩ := list_of n (fun i hi => h i (by omega))
    obtain ⟨x, hx⟩ := h n (by omega)
    refine ⟨l ++ [x], by simp [hl], fun i hi => ?_⟩
    by_cases e : i < l.length
    · rw [List.getElem_append_left e]
      exact hp i e
    · have : i = n := by simp at hi; omega
      subst this
      rw [List.getElem_append_right (by omega)]
      simp [hl]
      exact hx

section
variable {α : Type} {s : El α} {P : Program} {H : Type} {enc : TypeId × Value → H} {w : World} {base : Nat} {spare : Nat → Bool} {held : Bool}

theorem open_rows (g : s.Good P) (hcl : P.cellsOf s.t = s.sz) {pd : α → Prop} (each : ∀ fuel cs x, DataW.trod enc P w base spare held fuel s.t cs = some x → ∃ d, cs = s.cells d ∧ pd d)
    {r : Reach} {b0 : Nat} {v : Value} {d : DataW H} {p : List MemPlace} (hv : Value.okWide P w r b0 s.st v) (h : DataW.Trod enc P w base spare held s.st v d p) :
    ∃ a c l, v = .slice a (List.length l) c ∧ Row s w a c l ∧ l.length ≤ maxLen ∧ ∀ t ∈ l, pd t := by
  obtain ⟨a0, len, cap, rfl⟩ := okWide_slice g.under hv
  obtain ⟨fuel, hfu⟩ := h
  rcases DataW.trod_slice g.under hfu with ⟨hcs, _⟩ | ⟨a, len', cap', elems, rest, n, _, hcs, _, hb, hl, hm, hlen, hel, _, _⟩
  · simp [Value.cells] at hcs
    obtain ⟨rfl, rfl, rfl⟩ := hcs
    exact ⟨none, 0, [], rfl, Row.nil w, by simp, by simp⟩
  · simp [Value.cells] at hcs
    obtain ⟨rfl, rfl, rfl⟩ := hcs
    have h1 : ∀ i, i < len → ∃ t : α, (∀ x u, (s.cells t)[x]? = some u → w.cell? (a.add (i * s.sz + x)) = some u) ∧ pd t := by
      intro i hi
      have h1 := hel i hi
      rw [hcl, List.getElem?_eq_getElem (show i < elems.length by omega), Option.bind_eq_some_iff] at h1
      obtain ⟨cs, hcs, htr⟩ := h1
      obtain ⟨_, hcn, hcc⟩ := World.cells?_some hcs
      obtain ⟨t, ht, hmm⟩ := each _ _ _ htr
      refine ⟨t, fun x u hu => ?_, hmm⟩
      have hx : x < s.sz := by rw [← g.len t]; exact (List.getElem?_eq_some_iff.1 hu).1
      have h3 := hcc x hx
      rw [Addr.add_add] at h3
      rw [h3, ht]
      exact hu
    obtain ⟨l, rfl, hat⟩ := list_of len h1
    refine ⟨some a, cap, l, rfl, ?_, by omega, fun t ht => ?_⟩
    · refine ⟨hl, fun e => (by cases e), fun h0 => ?_⟩
      obtain ⟨b, o, sp⟩ := a
      have hc0 : ∃ u, (s.cells l[0])[0]? = some u := ⟨_, List.getElem?_eq_getElem (by rw [g.len]; exact g.pos)⟩
      obtain ⟨u, hu⟩ := hc0
      have q := (hat 0 h0).1 0 u hu
      rw [Nat.zero_mul, Nat.zero_add] at q
      have hadd0 : (⟨b, o, sp⟩ : Addr).add 0 = ⟨b, o, sp⟩ := by simp [Addr.add]
      rw [hadd0] at q
      have hs := World.cell?_spot q
      simp only at hs
      subst hs
      refine ⟨b, o, rfl, World.block_lt_of_cell? w _ q, fun j hj x u hu => ?_⟩
      have := (hat j hj).1 x u hu
      rw [Addr.add_lit, ← Nat.add_assoc] at this
      exact this
    · obtain ⟨i, hi, rfl⟩ := List.getElem_of_mem ht
      exact (hat i hi).2
end

end Go.Proofs.YtpcdcmoapenbdaaDoor.G
