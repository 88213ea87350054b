/-
  An argument that is an array of two, three or four integers, taken apart into its numbers. No program is named here.
-/
import Derived.WalkKit
import Derived.ProofKit
import Derived.OpenShut
import Derived.Lib.SmallJoins
namespace Go.Proofs.YtpcdcmoapenbdaaDoor.W
open Go.ChangeShapes Go.WideShapes Go.ChangeAt Go.RowKit
section
variable {H : Type} {enc : TypeId × Value → H} {P : Program} {w : World} {base : Nat} {spare : Nat → Bool} {held : Bool} {r : Reach} {b0 : Nat} {t e : TypeId} {k : IntKind} {v : Value} {d : DataW H} {p : List MemPlace}
theorem okWide_array {n : Nat} (ht : P.underlying t = some (.array n e)) (h : Value.okWide P w r b0 t v) : ∃ cs, v = .agg cs ∧ cs.size = P.cellsOf t := by
  simp only [Value.okWide, ht] at h
  obtain ⟨cs, h1, h2, _⟩ := h
  exact ⟨cs, h1, h2⟩

/-- the cells of such an array, one number each -/
theorem arr_at {n : Nat} (ht : P.underlying t = some (.array n e)) (he : P.underlying e = some (.int k)) (hce : P.cellsOf e = 1) {cs : Array Value}
    (h : DataW.Trod enc P w base spare held t (.agg cs) d p) (i : Nat) (hi : i < n) : ∃ a : Int, cs[i]? = some (.int k a) ∧ (Lit.int k a).wf = true := by
  obtain ⟨fuel, hf⟩ := h
  obtain ⟨xs, m, _, _, hl, hn, hg⟩ := DataW.trod_array ht hf
  have h1 := hg i hi
  rw [hce, Nat.mul_one, List.getElem?_eq_getElem (show i < xs.length by omega)] at h1
  obtain ⟨a, hc, _, hw⟩ := DataW.trod_int he h1
  refine ⟨a, ?_, hw⟩
  have h2 : ((Value.agg cs).cells.toList.drop i).take 1 = [.int k a] := hc
  have h3 : ((Value.agg cs).cells.toList.drop i)[0]? = some (.int k a) := by
    rw [← List.getElem?_take_of_lt (show 0 < 1 by omega), h2]; rfl
  rw [List.getElem?_drop] at h3
  simpa [Value.cells] using h3

theorem open_arr2 (ht : P.underlying t = some (.array 2 e)) (he : P.underlying e = some (.int k)) (hce : P.cellsOf e = 1) (hC : P.cellsOf t = 2)
    (hv : Value.okWide P w r b0 t v) (h : DataW.Trod enc P w base spare held t v d p) :
    ∃ a b : Int, v = .agg #[.int k a, .int k b] ∧ (Lit.int k a).wf = true ∧ (Lit.int k b).wf = true := by
  obtain ⟨cs, rfl, hsz⟩ := okWide_array ht hv
  obtain ⟨c0, c1, rfl⟩ := Joins.array2 (hsz.trans hC)
  obtain ⟨a, ha, wa⟩ := arr_at ht he hce h 0 (by omega)
  obtain ⟨b, hb, wb⟩ := arr_at ht he hce h 1 (by omega)
  simp at ha hb
  exact ⟨a, b, by rw [ha, hb], wa, wb⟩

theorem open_arr3 (ht : P.underlying t = some (.array 3 e)) (he : P.underlying e = some (.int k)) (hce : P.cellsOf e = 1) (hC : P.cellsOf t = 3)
    (hv : Value.okWide P w r b0 t v) (h : DataW.Trod enc P w base spare held t v d p) :
    ∃ a b c : Int, v = .agg #[.int k a, .int k b, .int k c] ∧ (Lit.int k a).wf = true ∧ (Lit.int k b).wf = true ∧ (Lit.int k c).wf = true := by
  obtain ⟨cs, rfl, hsz⟩ := okWide_array ht hv
  obtain ⟨c0, c1, c2, rfl⟩ := Joins.array3 (hsz.trans hC)
  obtain ⟨a, ha, wa⟩ := arr_at ht he hce h 0 (by omega)
  obtain ⟨b, hb, wb⟩ := arr_at ht he hce h 1 (by omega)
  obtain ⟨c, hc, wc⟩ := arr_at ht he hce h 2 (by omega)
  simp at ha hb hc
  exact ⟨a, b, c, by rw [ha, hb, hc], wa, wb, wc⟩

theorem open_arr4 (ht : P.underlying t = some (.array 4 e)) (he : P.underlying e = some (.int k)) (hce : P.cellsOf e = 1) (hC : P.cellsOf t = 4)
    (hv : Value.okWide P w r b0 t v) (h : DataW.Trod enc P w base spare held t v d p) :
    ∃ a b c f : Int, v = .agg #[.int k a, .int k b, .int k c, .int k f] ∧ (Lit.int k a).wf = true ∧ (Lit.int k b).wf = true ∧ (Lit.int k c).wf = true ∧ (Lit.int k f).wf = true := by
  obtain ⟨cs, rfl, hsz⟩ := okWide_array ht hv
  have hs4 : cs.size = 4 := hsz.trans hC
  obtain ⟨a, ha, wa⟩ := arr_at ht he hce h 0 (by omega)
  obtain ⟨b, hb, wb⟩ := arr_at ht he hce h 1 (by omega)
  obtain ⟨c, hc, wc⟩ := arr_at ht he hce h 2 (by omega)
  obtain ⟨f, hf, wf⟩ := arr_at ht he hce h 3 (by omega)
  refine ⟨a, b, c, f, ?_, wa, wb, wc, wf⟩
  congr 1
  apply Array.ext (by simp [hs4])
  intro i h1 h2
  simp at h2
  have e : ∀ j x, cs[j]? = some x → ∀ (hj : j < cs.size), cs[j] = x := fun j x hx hj => by rw [Array.getElem?_eq_getElem hj] at hx; exact Option.some.inj hx
  obtain rfl | rfl | rfl | rfl : i = 0 ∨ i = 1 ∨ i = 2 ∨ i = 3 := by omega
  · rw [e 0 _ ha h1]; rfl
  · rw [e 1 _ hb h1]; rfl
  · rw [e 2 _ hc h1]; rfl
  · rw [e 3 _ hf h1]; rfl
end
end Go.Proofs.YtpcdcmoapenbdaaDoor.W
