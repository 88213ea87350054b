/-
  Texts of a law's own beside a table of names: appended to, kept by the table's calls; texts compared.
-/
import Derived.Test.YtglbemdeboaheaaRfAwake
import Derived.Test.YtglbemdeboaheaaTxRow
import Derived.Laws.Cover1
import Derived.Sort.Walk0
namespace Go.Proofs.Ytglbemdeboaheaa.Rf
open Go.ChangeShapes Go.WideShapes Go.ChangeAt Go.RowKit
open Go.Proofs.Ytglbemdeboaheaa.N (bs bs_data bs_size bs_inj may retB)

theorem txt_less (x y : Txt) : Op.bytesLess (bs x).toList (bs y).toList = decide (x < y) := by
  rw [Go.Proofs.bytesLess_eq, Lib.toList_data, Lib.toList_data, bs_data, bs_data]
theorem txt_eq (x y : Txt) : ((bs x).toList == (bs y).toList) = decide (x = y) := by
  rw [Lib.toList_data, Lib.toList_data, bs_data, bs_data]
  by_cases h : x = y
  · simp [h]
  · simp [h]

/-- texts of a law's own -/
def Own (B : Nat) (w : World) (v : Value) (qs : List Txt) : Prop := w.ownsRow B 9 1 v qs.length (vals qs)
theorem Own.nil (B : Nat) (w : World) : Own B w (.slice none 0 0) [] := World.ownsRow_nil _ _ _ _
theorem Own.form {B : Nat} {w : World} {v : Value} {qs : List Txt} (h : Own B w v qs) : ∃ a c, v = .slice a qs.length c := by
  rcases h.2 with ⟨rfl, e⟩ | ⟨g, cap, cur, rfl, _⟩
  · exact ⟨none, 0, by rw [e]⟩
  · exact ⟨_, cap, rfl⟩
theorem Own.lt {B : Nat} {w : World} {v : Value} {qs : List Txt} (h : Own B w v qs) {k : Nat} (hk : v.ownBlock = some k) : B ≤ k ∧ k < w.heap.size := World.ownsRow.lt h k hk
theorem Own.of {B : Nat} {w w' : World} {v : Value} {qs : List Txt} (h : Own B w v qs) (hk : ∀ k, v.ownBlock = some k → w'.heap[k]? = w.heap[k]?) : Own B w' v qs := by
  refine ⟨h.1, ?_⟩
  rcases h.2 with h2 | ⟨g, cap, cur, rfl, hb, hg, r⟩
  · exact Or.inl h2
  · exact Or.inr ⟨g, cap, cur, rfl, hb, (hk g rfl).trans hg, r⟩
theorem Own.below {B : Nat} {w w' : World} {v : Value} {qs : List Txt} (h : Own B w v qs) (hb : Below w.heap.size w w') : Own B w' v qs := h.of (fun k hk => hb.block k (h.lt hk).2)
theorem Own.went {B : Nat} {F F' : Nat → Prop} {w w' : World} {v : Value} {qs : List Txt} (h : Own B w v qs) (g : Went F w F' w') (hF : ∀ k, v.ownBlock = some k → ¬ F k) : Own B w' v qs := h.of (fun k hk => g.block k (h.lt hk).2 (hF k hk))
theorem Own.at_ {B : Nat} {w : World} {a : Option Addr} {n c : Nat} {qs : List Txt} (h : Own B w (.slice a n c) qs) {k : Nat} (hk : k < qs.length) : ∃ bk, a = some ⟨bk, 0, none⟩ ∧ bk < w.heap.size ∧ w.cell? ⟨bk, k, none⟩ = some (.string (bs qs[k])) := by
  rcases h.2 with ⟨_, e⟩ | ⟨g, cap, cur, e, hb, hg, r⟩
  · omega
  · have h' : w.ownsRow B 9 1 (.slice a n c) qs.length (vals qs) := h
    cases e
    refine ⟨g, rfl, (Array.getElem?_eq_some_iff.1 hg).1, ?_⟩
    rw [World.ownsRow.cellAt h' k (by omega), vals, List.getElem?_map, List.getElem?_eq_getElem hk]
    rfl

/-- a table and texts of the law's own, apart -/
structure RO2 (w0 w : World) (b : Nat) (F : Nat → Prop) (c : Nat) (L : List E) (v : Value) (qs : List Txt) : Prop where
  tab : RY w0 w b F c L
  own : Own w0.heap.size w v qs
  apart : ∀ k, v.ownBlock = some k → ¬ F k

section
variable {w0 w w' : World} {b : Nat} {F F' : Nat → Prop} {c c' : Nat} {L L' : List E} {v v' : Value} {qs : List Txt}
theorem RO2.bel (h : RO2 w0 w b F c L v qs) (g : Below w.heap.size w w') : RO2 w0 w' b F c L v qs := ⟨h.tab.bel g, h.own.below g, h.apart⟩
theorem RO2.drewN (h : RO2 w0 w b F c L v qs) (n : Nat) : RO2 w0 (w.drewN n) b F c L v qs := h.bel (below_drewN w n)
theorem RO2.went (h : RO2 w0 w b F c L v qs) (g : Went F w F' w') (y : RY w0 w' b F' c' L') : RO2 w0 w' b F' c' L' v qs :=
  ⟨y, h.own.went g h.apart, fun k hk => g.out (h.own.lt hk).2 (h.apart k hk)⟩
theorem RO2.start (h : RY w0 w b F c L) : RO2 w0 w b F c L (.slice none 0 0) [] := ⟨h, Own.nil _ _, fun k hk => by cases hk⟩

theorem RY.grown (h : RY w0 w b F c L) {row : Option Nat} (g : w.grownBy w' row) (hr : ∀ k, row = some k → w0.heap.size ≤ k ∧ ¬ F k) : RY w0 w' b F c L :=
  ⟨h.at_.keep g.size (fun i hi => g.block i (h.at_.ltF i hi) (fun e => (hr i e.symm).2 hi)), h.young, h.below.grown g h.below.size (fun k e => (hr k e).1)⟩

/-- an append -/
theorem RO2.app (h : RO2 w0 w b F c L v qs) {q : Txt} (o : w'.ownsRow w0.heap.size 9 1 v' (qs.length + 1) (vals qs ++ [.string (bs q)])) (g : w.grownBy w' v.ownBlock) (hv : v'.ownBlock = v.ownBlock ∨ v'.ownBlock = some w.heap.size) : RO2 w0 w' b F c L v' (qs ++ [q]) where
  tab := h.tab.grown g (fun k e => ⟨(h.own.lt e).1, h.apart k e⟩)
  own := by
    unfold Own
    rw [show (qs ++ [q]).length = qs.length + 1 by simp, show vals (qs ++ [q]) = vals qs ++ [.string (bs q)] by simp [vals]]
    exact o
  apart := fun k hk hF => by
    rcases hv with e | e
    · rw [e] at hk
      exact h.apart k hk hF
    · rw [e] at hk
      cases hk
      have := h.tab.at_.ltF _ hF
      omega
end

end Go.Proofs.Ytglbemdeboaheaa.Rf
