/-
  What a table of known segments is in memory: one block of 64 times nine numbers, at each number's place its uid and its uses by ring. What a call does to it and that it leaves all else alone (Only).
-/
import Derived.Test.YtmkapleliholkaaProg
import Derived.WalkKit
import Derived.ProofKit
import Derived.Below
import Derived.Lib.Hide
import Derived.Maps.OwnSet
namespace Go.Proofs.Ytmkapleliholkaa.K
open Go.ChangeShapes Go.WideShapes Go.ChangeAt Go.RowKit

/-- a new table's cells -/
def kZ : Array Value := Array.replicate 576 (.int .i64 0)
theorem zero_known (w : World) : (zeroValue 47).run Try.prog w = .ok (.agg kZ) w := by kernel_rfl

/-- one uid, one use, all uses of a number changed -/
def upU (U : Int → Int) (k v : Int) : Int → Int := fun j => if j = k then v else U j
def upC (C : Int → Int → Int) (k r v : Int) : Int → Int → Int := fun j s => if j = k ∧ s = r then v else C j s
def clC (C : Int → Int → Int) (k : Int) : Int → Int → Int := fun j s => if j = k then 0 else C j s
theorem upU_same (U : Int → Int) (k v : Int) : upU U k v k = v := by simp [upU]
theorem upU_other (U : Int → Int) {k j : Int} (v : Int) (h : j ≠ k) : upU U k v j = U j := by simp [upU, h]
theorem upC_same (C : Int → Int → Int) (k r v : Int) : upC C k r v k r = v := by simp [upC]
theorem upC_ring (C : Int → Int → Int) {k r s : Int} (v : Int) (h : s ≠ r) : upC C k r v k s = C k s := by simp [upC, h]
theorem upC_other (C : Int → Int → Int) {k j : Int} (r s v : Int) (h : j ≠ k) : upC C k r v j s = C j s := by simp [upC, h]
theorem clC_same (C : Int → Int → Int) (k s : Int) : clC C k k s = 0 := by simp [clC]
theorem clC_other (C : Int → Int → Int) {k j : Int} (s : Int) (h : j ≠ k) : clC C k j s = C j s := by simp [clC, h]

/-- a table in memory: at each number the uid U, in each ring the uses C -/
def KnAt (w : World) (b : Nat) (U : Int → Int) (C : Int → Int → Int) : Prop :=
  ∃ cs, w.heap[b]? = some (.cells cs 47 (0, 0)) ∧ cs.size = 576 ∧ (∀ s : Nat, s < 64 → cs[s * 9]? = some (.int .i64 (U s))) ∧ ∀ s r : Nat, s < 64 → r < 8 → cs[s * 9 + 1 + r]? = some (.int .i64 (C s r))

theorem head_set {w : World} {b : Nat} {cs : Array Value} {t : TypeId} {fr : Nat × Nat} (h : w.heap[b]? = some (.cells cs t fr)) (i : Nat) (v : Value) : (w.setCell ⟨b, i, none⟩ v).heap[b]? = some (.cells (cs.setIfInBounds i v) t fr) := by
  rw [setCell_eq_setRow w b i cs t fr v h]
  exact setRow_heap _ _ _ _ _ _ h
theorem other_set {w : World} {b k : Nat} (i : Nat) (v : Value) (h : k ≠ b) : (w.setCell ⟨b, i, none⟩ v).heap[k]? = w.heap[k]? := Below.heap_setCell _ _ _ _ h

section
variable {w : World} {b : Nat} {U : Int → Int} {C : Int → Int → Int}

theorem KnAt.lt (h : KnAt w b U C) : b < w.heap.size := by
  obtain ⟨cs, h, _⟩ := h
  exact (Array.getElem?_eq_some_iff.1 h).1
theorem KnAt.keep (h : KnAt w b U C) {w' : World} (hk : w'.heap[b]? = w.heap[b]?) : KnAt w' b U C := by
  obtain ⟨cs, h, r⟩ := h
  exact ⟨cs, hk.trans h, r⟩
theorem KnAt.drew (h : KnAt w b U C) : KnAt w.drew b U C := h.keep rfl
theorem KnAt.below (h : KnAt w b U C) {w' : World} (hb : Below w.heap.size w w') : KnAt w' b U C := h.keep (hb.block b h.lt)
theorem KnAt.fz (h : KnAt w b U C) (i : Nat) : w.frozen? ⟨b, i, none⟩ = false := by
  obtain ⟨cs, h, _⟩ := h
  simp [World.frozen?, h]
theorem KnAt.uid (h : KnAt w b U C) {k : Int} (k0 : 0 ≤ k) (k1 : k ≤ 63) : w.cell? ⟨b, k.toNat * 9, none⟩ = some (.int .i64 (U k)) := by
  obtain ⟨cs, h, _, hu, _⟩ := h
  rw [cell_of_row w b _ cs _ _ h, hu k.toNat (by omega), show ((k.toNat : Nat) : Int) = k by omega]
theorem KnAt.use (h : KnAt w b U C) {k r : Int} (k0 : 0 ≤ k) (k1 : k ≤ 63) (r0 : 0 ≤ r) (r1 : r ≤ 7) : w.cell? ⟨b, k.toNat * 9 + 1 + r.toNat, none⟩ = some (.int .i64 (C k r)) := by
  obtain ⟨cs, h, _, _, hc⟩ := h
  rw [cell_of_row w b _ cs _ _ h, hc k.toNat r.toNat (by omega) (by omega), show ((k.toNat : Nat) : Int) = k by omega, show ((r.toNat : Nat) : Int) = r by omega]
theorem KnAt.use_n (h : KnAt w b U C) {k : Int} (k0 : 0 ≤ k) (k1 : k ≤ 63) (j : Nat) (hj : j < 8) : w.cell? ⟨b, k.toNat * 9 + (1 + j), none⟩ = some (.int .i64 (C k j)) := by
  have := h.use k0 k1 (r := (j : Int)) (by omega) (by omega)
  rw [show ((j : Int)).toNat = j by omega, Nat.add_assoc] at this
  exact this
theorem KnAt.setU (h : KnAt w b U C) {k : Int} (k0 : 0 ≤ k) (k1 : k ≤ 63) (v : Int) : KnAt (w.setCell ⟨b, k.toNat * 9, none⟩ (.int .i64 v)) b (upU U k v) C := by
  obtain ⟨cs, h, hs, hu, hc⟩ := h
  refine ⟨_, head_set h _ _, by simpa using hs, fun s h1 => ?_, fun s r h1 h2 => ?_⟩
  · by_cases e : s = k.toNat
    · subst e
      rw [show ((k.toNat : Nat) : Int) = k by omega, upU_same]
      simp [show k.toNat * 9 < cs.size by omega]
    · rw [Array.getElem?_setIfInBounds_ne (by omega), upU_other _ _ (by omega)]
      exact hu s h1
  · rw [Array.getElem?_setIfInBounds_ne (by omega)]
    exact hc s r h1 h2
theorem KnAt.setC (h : KnAt w b U C) {k r : Int} (k0 : 0 ≤ k) (k1 : k ≤ 63) (r0 : 0 ≤ r) (r1 : r ≤ 7) (v : Int) : KnAt (w.setCell ⟨b, k.toNat * 9 + 1 + r.toNat, none⟩ (.int .i64 v)) b U (upC C k r v) := by
  obtain ⟨cs, h, hs, hu, hc⟩ := h
  refine ⟨_, head_set h _ _, by simpa using hs, fun s h1 => ?_, fun s q h1 h2 => ?_⟩
  · rw [Array.getElem?_setIfInBounds_ne (by omega)]
    exact hu s h1
  · by_cases e : s = k.toNat ∧ q = r.toNat
    · obtain ⟨rfl, rfl⟩ := e
      rw [show ((k.toNat : Nat) : Int) = k by omega, show ((r.toNat : Nat) : Int) = r by omega, upC_same]
      simp [show k.toNat * 9 + 1 + r.toNat < cs.size by omega]
    · rw [Array.getElem?_setIfInBounds_ne (by omega), hc s q h1 h2]
      have : ¬ ((s : Int) = k ∧ (q : Int) = r) := by omega
      simp [upC, this]
theorem KnAt.set_n (h : KnAt w b U C) {k : Int} (k0 : 0 ≤ k) (k1 : k ≤ 63) (j : Nat) (hj : j < 8) (v : Int) : KnAt (w.setCell ⟨b, k.toNat * 9 + (1 + j), none⟩ (.int .i64 v)) b U (upC C k j v) := by
  have := h.setC k0 k1 (r := (j : Int)) (by omega) (by omega) v
  rw [show ((j : Int)).toNat = j by omega, Nat.add_assoc] at this
  exact this
/-- only what the table says of 0 to 63 and of the rings counts -/
theorem KnAt.congr (h : KnAt w b U C) {U' : Int → Int} {C' : Int → Int → Int} (hu : ∀ k, 0 ≤ k → k ≤ 63 → U' k = U k) (hc : ∀ k r, 0 ≤ k → k ≤ 63 → 0 ≤ r → r ≤ 7 → C' k r = C k r) : KnAt w b U' C' := by
  obtain ⟨cs, h, hs, h1, h2⟩ := h
  refine ⟨cs, h, hs, fun s hs => ?_, fun s r hs hr => ?_⟩
  · rw [hu s (by omega) (by omega)]
    exact h1 s hs
  · rw [hc s r (by omega) (by omega) (by omega) (by omega)]
    exact h2 s r hs hr
end

theorem kn_new (w : World) : KnAt (w.alloc (.cells kZ 47 (0, 0))) w.heap.size (fun _ => 0) (fun _ _ => 0) :=
  ⟨kZ, heap_alloc_new w _, by simp [kZ], fun s hs => by rw [kZ, Array.getElem?_replicate, if_pos (by omega)], fun s r hs hr => by rw [kZ, Array.getElem?_replicate, if_pos (by omega)]⟩

/-- a call changed the block b, made none, and drew -/
structure Only (b : Nat) (w w' : World) : Prop where
  os : w'.os = w.os
  tape : w'.tape = w.tape
  output : w'.output = w.output
  size : w'.heap.size = w.heap.size
  block : ∀ i, i ≠ b → w'.heap[i]? = w.heap[i]?
theorem Only.refl (b : Nat) (w : World) : Only b w w := ⟨rfl, rfl, rfl, rfl, fun _ _ => rfl⟩
theorem Only.trans {b : Nat} {w w' w'' : World} (h : Only b w w') (h' : Only b w' w'') : Only b w w'' :=
  ⟨h'.os.trans h.os, h'.tape.trans h.tape, h'.output.trans h.output, h'.size.trans h.size, fun i hi => (h'.block i hi).trans (h.block i hi)⟩
theorem Only.drew {b : Nat} {w w' : World} (h : Only b w w') : Only b w w'.drew := ⟨h.os, h.tape, h.output, h.size, h.block⟩
theorem Only.set {b : Nat} {w w' : World} (h : Only b w w') (i : Nat) (v : Value) : Only b w (w'.setCell ⟨b, i, none⟩ v) :=
  ⟨h.os, h.tape, h.output, by simpa using h.size, fun j hj => (other_set _ _ hj).trans (h.block j hj)⟩
theorem Only.below {b : Nat} {w w' : World} (h : Only b w w') {B : Nat} (hB : B ≤ b) : Below B w w' :=
  ⟨h.os, h.tape, h.output, by rw [h.size]; exact Nat.le_refl _, fun i hi => h.block i (by omega)⟩

end Go.Proofs.Ytmkapleliholkaa.K
