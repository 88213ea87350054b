/-
  The document's example holds: awake answers true. And the contracts of Words, Read, Letters and SameWords in the form that the laws use.
-/
import Derived.Test.YtnlohmkgkihldaaLRef
namespace Go.Proofs.Ytnlohmkgkihldaa.W
open Go.ChangeShapes Go.WideShapes Go.ChangeAt Go.RowKit
open Go.Proofs.Ytnlohmkgkihldaa.N (bs bs_data bs_of bs_size)

theorem words_is (s : ByteArray) (w : World) (h : s.size ≤ 255) {l : List UInt8} {n : Nat} (hl : s.data.toList = l) (hn : nw s.size = n) :
    Calls Try.prog 47 #[.string s] w fun e w' => e = .returned (.tuple #[.slice (some ⟨w.heap.size, 0, none⟩) n n, .int .i64 0]) ∧ w'.heap[w.heap.size]? = some (row (wds l)) ∧ Below w.heap.size w w' := by
  subst hl hn
  exact words_any s w h

theorem nums_of {w : World} {b o : Nat} {zs : List Int} (h : Lie w b o zs) : NumsIn .u64 w (some ⟨b, o, none⟩) zs := fun _ => ⟨b, o, rfl, h⟩
theorem wds_u64 {l : List UInt8} (h : l.length ≤ 255) : ∀ z ∈ wds l, U64 z := fun z hz => by
  have := wds_bd h z hz
  exact ⟨this.1, by omega⟩

end Go.Proofs.Ytnlohmkgkihldaa.W
