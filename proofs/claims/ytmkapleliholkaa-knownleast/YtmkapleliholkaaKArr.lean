/-
  An array that a law has in a block of its own: its elements as a function of their places.
-/
import Derived.Test.YtmkapleliholkaaKAwake
import Derived.Deep.QuietTactic
import Derived.BigQuiet
namespace Go.Proofs.Ytmkapleliholkaa.K
open Go.ChangeShapes Go.WideShapes Go.ChangeAt Go.RowKit

def upA {α : Type} (N : Int → α) (k : Int) (v : α) : Int → α := fun j => if j = k then v else N j
theorem upA_same {α : Type} (N : Int → α) (k : Int) (v : α) : upA N k v k = v := by simp [upA]
theorem upA_other {α : Type} (N : Int → α) {k j : Int} (v : α) (h : j ≠ k) : upA N k v j = N j := by simp [upA, h]

/-- the block c holds n elements N -/
def ArrB {α : Type} (mk : α → Value) (w : World) (c : Nat) (t : TypeId) (n : Nat) (N : Int → α) : Prop :=
  ∃ cs, w.heap[c]? = some (.cells cs t (0, 0)) ∧ cs.size = n ∧ ∀ i : Nat, i < n → cs[i]? = some (mk (N i))

section
variable {α : Type} {mk : α → Value} {w : World} {c : Nat} {t : TypeId} {n : Nat} {N : Int → α}
theorem ArrB.lt (h : ArrB mk w c t n N) : c < w.heap.size := by
  obtain ⟨cs, h, _⟩ := h
  exact (Array.getElem?_eq_some_iff.1 h).1
theorem ArrB.keep (h : ArrB mk w c t n N) {w' : World} (hk : w'.heap[c]? = w.heap[c]?) : ArrB mk w' c t n N := by
  obtain ⟨cs, h, r⟩ := h
  exact ⟨cs, hk.trans h, r⟩
theorem ArrB.drew (h : ArrB mk w c t n N) : ArrB mk w.drew c t n N := h.keep rfl
theorem ArrB.drewN (h : ArrB mk w c t n N) (m : Nat) : ArrB mk (w.drewN m) c t n N := h.keep rfl
theorem ArrB.below (h : ArrB mk w c t n N) {w' : World} (hb : Below w.heap.size w w') : ArrB mk w' c t n N := h.keep (hb.block c h.lt)
theorem ArrB.only (h : ArrB mk w c t n N) {w' : World} {b : Nat} (o : Only b w w') (hb : c ≠ b) : ArrB mk w' c t n N := h.keep (o.block c hb)
theorem ArrB.fz (h : ArrB mk w c t n N) (i : Nat) : w.frozen? ⟨c, i, none⟩ = false := by
  obtain ⟨cs, h, _⟩ := h
  simp [World.frozen?, h]
theorem ArrB.cell (h : ArrB mk w c t n N) {k : Int} (k0 : 0 ≤ k) (k1 : k < n) : w.cell? ⟨c, k.toNat, none⟩ = some (mk (N k)) := by
  obtain ⟨cs, h, _, hc⟩ := h
  rw [cell_of_row w c _ cs _ _ h, hc k.toNat (by omega), show ((k.toNat : Nat) : Int) = k by omega]
theorem ArrB.set (h : ArrB mk w c t n N) {k : Int} (k0 : 0 ≤ k) (v : α) : ArrB mk (w.setCell ⟨c, k.toNat, none⟩ (mk v)) c t n (upA N k v) := by
  obtain ⟨cs, h, hs, hc⟩ := h
  refine ⟨_, head_set h _ _, by simpa using hs, fun i hi => ?_⟩
  by_cases e : i = k.toNat
  · subst e
    rw [show ((k.toNat : Nat) : Int) = k by omega, upA_same]
    simp [show k.toNat < cs.size by omega]
  · rw [Array.getElem?_setIfInBounds_ne (by omega), upA_other _ _ (by omega)]
    exact hc i hi
theorem arr_new (mk : α → Value) (w : World) (t : TypeId) (n : Nat) (x : α) (cs : Array Value) (hs : cs = Array.replicate n (mk x)) : ArrB mk (w.alloc (.cells cs t)) w.heap.size t n (fun _ => x) :=
  ⟨cs, heap_alloc_new w _, by simp [hs], fun i hi => by rw [hs, Array.getElem?_replicate, if_pos hi]⟩
end

theorem count_is {w : World} {b : Nat} {U : Int → Int} {C : Int → Int → Int} (h : KnAt w b U C) {k r n : Int} (k0 : 1 ≤ k) (k1 : k ≤ 63) (hU : U k ≠ 0) (r0 : 0 ≤ r) (r1 : r ≤ 7) (hn : C k r = n) : Calls Try.prog 12 #[KP b, .int .i64 k, .int .i64 r] w fun e w' => e = .returned (.int .i64 n) ∧ w = w' := by
  rw [← hn]
  exact count_yes h k0 k1 hU r0 r1

/-- another block's cell: the table stays -/
theorem KnAt.other {w : World} {b : Nat} {U : Int → Int} {C : Int → Int → Int} (h : KnAt w b U C) {c : Nat} (i : Nat) (v : Value) (hc : c ≠ b) : KnAt (w.setCell ⟨c, i, none⟩ v) b U C := h.keep (other_set i v (Ne.symm hc))
theorem KnAt.drewN {w : World} {b : Nat} {U : Int → Int} {C : Int → Int → Int} (h : KnAt w b U C) (m : Nat) : KnAt (w.drewN m) b U C := h.keep rfl
theorem KY.other {w0 w : World} {b : Nat} {U : Int → Int} {C : Int → Int → Int} (h : KY w0 w b U C) {c : Nat} (i : Nat) (v : Value) (hc : c ≠ b) (h0 : w0.heap.size ≤ c) : KY w0 (w.setCell ⟨c, i, none⟩ v) b U C := ⟨h.at_.other i v hc, h.bel.setCell h0 v, h.ge⟩
theorem KY.drewN {w0 w : World} {b : Nat} {U : Int → Int} {C : Int → Int → Int} (h : KY w0 w b U C) (m : Nat) : KY w0 (w.drewN m) b U C := ⟨h.at_.drewN m, ⟨h.bel.os, h.bel.tape, h.bel.output, h.bel.size, h.bel.block⟩, h.ge⟩

end Go.Proofs.Ytmkapleliholkaa.K
