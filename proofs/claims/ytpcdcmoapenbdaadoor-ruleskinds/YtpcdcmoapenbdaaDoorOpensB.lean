/-
  An argument that is an array of three bools, taken apart. No program is named here.
-/
import Derived.Test.YtpcdcmoapenbdaaDoorOpens
namespace Go.Proofs.YtpcdcmoapenbdaaDoor.W
open Go.ChangeShapes Go.WideShapes Go.ChangeAt Go.RowKit
section
variable {H : Type} {enc : TypeId × Value → H} {P : Program} {w : World} {base : Nat} {spare : Nat → Bool} {held : Bool} {r : Reach} {b0 : Nat} {t e : TypeId} {v : Value} {d : DataW H} {p : List MemPlace}
theorem barr_at {n : Nat} (ht : P.underlying t = some (.array n e)) (he : P.underlying e = some .bool) (hce : P.cellsOf e = 1) {cs : Array Value}
    (h : DataW.Trod enc P w base spare held t (.agg cs) d p) (i : Nat) (hi : i < n) : ∃ a : Bool, cs[i]? = some (.bool a) := by
  obtain ⟨fuel, hf⟩ := h
  obtain ⟨xs, m, _, _, hl, hn, hg⟩ := DataW.trod_array ht hf
  have h1 := hg i hi
  rw [hce, Nat.mul_one, List.getElem?_eq_getElem (show i < xs.length by omega)] at h1
  obtain ⟨a, hc, _⟩ := DataW.trod_bool he h1
  refine ⟨a, ?_⟩
  have h2 : ((Value.agg cs).cells.toList.drop i).take 1 = [.bool a] := hc
  have h3 : ((Value.agg cs).cells.toList.drop i)[0]? = some (.bool a) := by
    rw [← List.getElem?_take_of_lt (show 0 < 1 by omega), h2]; rfl
  rw [List.getElem?_drop] at h3
  simpa [Value.cells] using h3
theorem open_barr3 (ht : P.underlying t = some (.array 3 e)) (he : P.underlying e = some .bool) (hce : P.cellsOf e = 1) (hC : P.cellsOf t = 3)
    (hv : Value.okWide P w r b0 t v) (h : DataW.Trod enc P w base spare held t v d p) : ∃ a b c : Bool, v = .agg #[.bool a, .bool b, .bool c] := by
  obtain ⟨cs, rfl, hsz⟩ := okWide_array ht hv
  obtain ⟨c0, c1, c2, rfl⟩ := Joins.array3 (hsz.trans hC)
  obtain ⟨a, ha⟩ := barr_at ht he hce h 0 (by omega)
  obtain ⟨b, hb⟩ := barr_at ht he hce h 1 (by omega)
  obtain ⟨c, hc⟩ := barr_at ht he hce h 2 (by omega)
  simp at ha hb hc
  exact ⟨a, b, c, by rw [ha, hb, hc]⟩
end
end Go.Proofs.YtpcdcmoapenbdaaDoor.W
