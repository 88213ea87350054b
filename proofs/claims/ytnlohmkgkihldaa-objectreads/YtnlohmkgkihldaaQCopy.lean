/-
  'append(T{}, s[:n]...)': the first n numbers of a slice, copied into memory of their own; and a store into such a slice.
-/
import Derived.Test.YtnlohmkgkihldaaQue
namespace Go.Proofs.Ytnlohmkgkihldaa.W
open Go.ChangeShapes Go.WideShapes Go.ChangeAt Go.RowKit

section
variable {base : Nat} {e : TypeId} {k : IntKind} {w : World} {v : Value} {xs : List Int}

theorem que_of_row {n : Nat} (h : w.ownsRow base e 1 v n (xs.map (Value.int k))) : Que base e k w v xs := by
  obtain ⟨hl, h⟩ := h
  simp at hl
  rcases h with ⟨rfl, rfl⟩ | ⟨g, cap, cur, rfl, hb, hh, hn, _, hc, ht⟩
  · exact Or.inl ⟨rfl, List.length_eq_zero_iff.1 hl⟩
  · subst hl
    refine Or.inr ⟨g, 0, cap, cur, rfl, hb, hh, hn, by omega, fun i hi => ?_⟩
    have h1 : (cur.toList.take (xs.length * 1))[i]? = (xs.map (Value.int k))[i]? := by rw [ht]
    rw [List.getElem?_take_of_lt (by omega)] at h1
    rw [Nat.zero_add]
    simpa [hi] using h1

theorem wpList_que_copy {P : Program} {t : TypeId} {i : TypeInfo} {bytes : Nat} {ops : Array Oper} {rest : List Oper} {o : Oper} {a : Act} {Q : Exit → Act → World → Prop} (hgd : o.guard = none) (s y : Operand)
    (ho : o.op = .call { callee := .builtin .append, args := #[s, y], argTypes := #[t, t] }) (ht : P.underlying t = some (.slice e)) (hi : P.info? e = some i) (hz : i.zero = some (.int k 0)) (hsz : i.size = 1) (hby : i.bytes = bytes) (hb8 : bytes ≤ 8)
    (E : Nat) (hs : a.eval s = .slice (some ⟨E, 0, none⟩) 0 0) (hE : w.heap[E]? = some (.cells #[] e (0, 0))) (hbE : base ≤ E) (g off n cp : Nat) (hy : a.eval y = .slice (some ⟨g, off, none⟩) n cp) (xs : List Int) (hx : ∀ j, j < n → w.cell? ⟨g, off + j, none⟩ = some (.int k (xs.getD j 0))) (hn : n ≤ xs.length) (hlen : n ≤ 100000) (hbase : base ≤ w.heap.size)
    (hK : ∀ v' w', Que base e k w' v' (xs.take n) → v' ≠ .slice none 0 0 → w.grownBy w' (some E) → (v'.ownBlock = some E ∨ v'.ownBlock = some w.heap.size) → wpList P ops Q rest (a.put o.dst v') w') : wpList P ops Q (o :: rest) a w := by
  have hown : w.ownsRow base e 1 (.slice (some ⟨E, 0, none⟩) 0 0) 0 [] := ⟨by simp, Or.inr ⟨E, 0, #[], rfl, hbE, hE, Nat.le_refl _, by unfold maxLen; omega, by simp, by simp⟩⟩
  refine wpList_append_own_at w hgd s y t ho base e i (.int k 0) 1 bytes ht hi hz hsz hby rfl (by omega) _ 0 [] hs hown ⟨g, off, none⟩ n cp ((xs.take n).map (Value.int k)) hy (by simp; omega) (fun j u hj => ?_) (fun u hu => ?_) (by unfold maxLen; omega) (Nat.le_trans (Nat.mul_le_mul_left _ hb8) (by omega)) hbase ?_
  · have hjn : j < n := by
      have := (List.getElem?_eq_some_iff.1 hj).1
      simp at this
      omega
    rw [Addr.add_lit, hx j hjn]
    simpa [List.getElem?_take_of_lt hjn, show j < xs.length by omega] using hj
  · obtain ⟨_, _, rfl⟩ := List.mem_map.1 hu
    rfl
  · intro v' w' h1 h2 h3 h4
    rw [List.nil_append] at h1
    exact hK v' w' (que_of_row h1) (fun e => by have := h3.1 e; simp at this) h2 h4

/-- a store into it -/
theorem Que.set (h : Que base e k w v xs) {p : Option Addr} {cap : Nat} (hv : v = .slice p xs.length cap) {j : Nat} (hj : j < xs.length) (x : Int) : ∃ g off, p = some ⟨g, off, none⟩ ∧ base ≤ g ∧ (∃ u, w.cell? ⟨g, off + j, none⟩ = some u) ∧ w.frozen? ⟨g, off + j, none⟩ = false ∧ Que base e k (w.setCell ⟨g, off + j, none⟩ (.int k x)) v (xs.set j x) := by
  rcases h with ⟨_, rfl⟩ | ⟨g, off, cap', cur, hv', hb, hh, hl, hs, hc⟩
  · simp at hj
  · rw [hv'] at hv
    simp only [Value.slice.injEq] at hv
    obtain ⟨rfl, _, rfl⟩ := hv
    refine ⟨g, off, rfl, hb, ⟨_, by rw [cell_of_row w g _ cur e (0, 0) hh]; exact hc j hj⟩, by simp [World.frozen?, hh], Or.inr ⟨g, off, cap', cur.setIfInBounds (off + j) (.int k x), by simpa using hv', hb, ?_, by simpa using hl, by simpa using hs, fun i hi => ?_⟩⟩
    · rw [setCell_eq_setRow w g _ cur e (0, 0) _ hh]
      exact setRow_heap _ _ _ _ _ _ hh
    · simp at hi
      by_cases ej : i = j
      · subst ej
        simp [show off + i < cur.size by omega, hi]
      · rw [Array.getElem?_setIfInBounds_ne (by omega), hc i hi]
        simp [Ne.symm ej]

end

end Go.Proofs.Ytnlohmkgkihldaa.W
