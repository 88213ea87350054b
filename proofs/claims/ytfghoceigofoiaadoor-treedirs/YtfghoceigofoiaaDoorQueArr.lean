/-
  A slice of arrays of numbers that came in, told by all its numbers in one row.
-/
import Derived.Test.YtfghoceigofoiaaDoorQue
import Derived.OpenShut
import Derived.DataElems
namespace Go.Proofs.YtfghoceigofoiaaDoor.W
open Go.ChangeShapes Go.WideShapes Go.ChangeAt Go.RowKit

def numAt (w : World) (a : Addr) (t : Nat) : Int :=
  match w.cell? (a.add t) with
  | some (.int _ z) => z
  | _ => 0

theorem open_arrs {H : Type} {enc : TypeId × Value → H} {P : Program} {w : World} {base : Nat} {spare : Nat → Bool} {held : Bool} {r : Reach} {b0 : Nat} {t e f : TypeId} {k : IntKind} {v : Value} {d : DataW H} {p : List MemPlace} {m : Nat}
    (ht : P.underlying t = some (.slice e)) (he : P.underlying e = some (.array m f)) (hf : P.underlying f = some (.int k)) (hc : P.cellsOf f = 1) (hce : P.cellsOf e = m) (hm0 : 0 < m) (hv : Value.okWide P w r b0 t v) (h : DataW.Trod enc P w base spare held t v d p) :
    ∃ a len cap zs, v = .slice a len cap ∧ len ≤ maxLen ∧ zs.length = len * m ∧ NumsIn k w a zs ∧ ∀ n ∈ zs, (Lit.int k n).wf = true := by
  obtain ⟨a0, len, cap, rfl⟩ := okWide_slice ht hv
  obtain ⟨fuel, hfu⟩ := h
  rcases DataW.trod_slice ht hfu with ⟨hcs, _⟩ | ⟨a, len', cap', elems, rest, n, _, hcs, _, hb, hl, hm, hlen, hel, _, _⟩
  · simp [Value.cells] at hcs
    obtain ⟨rfl, rfl, rfl⟩ := hcs
    exact ⟨none, 0, 0, [], rfl, by simp, by simp, fun h => by simp at h, by simp⟩
  · simp [Value.cells] at hcs
    obtain ⟨rfl, rfl, rfl⟩ := hcs
    have each : ∀ x, x < len * m → ∃ z, w.cell? (a.add x) = some (.int k z) ∧ (Lit.int k z).wf = true := by
      intro x hx
      have hi : x / m < len := (Nat.div_lt_iff_lt_mul hm0).2 hx
      have hj : x % m < m := Nat.mod_lt _ hm0
      have h1 := hel (x / m) hi
      rw [hce, List.getElem?_eq_getElem (show x / m < elems.length by omega), Option.bind_eq_some_iff] at h1
      obtain ⟨cs, hcs, htr⟩ := h1
      obtain ⟨_, hcl, hcc⟩ := World.cells?_some hcs
      obtain ⟨xs, m', _, _, _, hxl, hxs⟩ := DataW.trod_array he htr
      have h2 := hxs (x % m) hj
      rw [hc, Nat.mul_one, List.getElem?_eq_getElem (show x % m < xs.length by omega)] at h2
      obtain ⟨z, hz, _, hw⟩ := DataW.trod_int hf h2
      refine ⟨z, ?_, hw⟩
      have h3 := hcc (x % m) hj
      rw [Addr.add_add, show x / m * m + x % m = x by rw [Nat.mul_comm]; exact Nat.div_add_mod x m] at h3
      rw [h3]
      have h4 : (cs.drop (x % m))[0]? = some (.int k z) := by
        rw [← List.getElem?_take_of_lt (show 0 < 1 by omega), hz]
        rfl
      rw [List.getElem?_drop] at h4
      simpa using h4
    refine ⟨some a, len, cap, (List.range (len * m)).map (numAt w a), rfl, by omega, by simp, fun h => ?_, fun n hn => ?_⟩
    · simp at h
      obtain ⟨b, o, s⟩ := a
      obtain ⟨z0, h0, _⟩ := each 0 h
      have hs : s = none := by
        cases s with
        | none => rfl
        | some y =>
          exfalso
          simp [World.cell?, Addr.add] at h0
          split at h0 <;> cases h0
      subst hs
      refine ⟨b, o, rfl, fun i hi => ?_⟩
      simp at hi
      obtain ⟨z, hz, _⟩ := each i hi
      have e1 : numAt w ⟨b, o, none⟩ i = z := by simp only [numAt, hz]
      rw [Addr.add_lit] at hz
      rw [hz]
      simp [List.getD, hi, e1]
    · obtain ⟨i, hi, rfl⟩ := List.mem_map.1 hn
      simp at hi
      obtain ⟨z, hz, hw⟩ := each i hi
      have e1 : numAt w a i = z := by simp only [numAt, hz]
      rw [e1]
      exact hw

end Go.Proofs.YtfghoceigofoiaaDoor.W
