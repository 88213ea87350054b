/-
  The law PointApart answers true: two pointers that may be have one word just if they are one.
-/
import Derived.Test.YtenlfjbkfgfcmaaPAwake
namespace Go.Proofs.Ytenlfjbkfgfcmaa.W
open Go.ChangeShapes Go.WideShapes Go.ChangeAt Go.RowKit

theorem pack_inj {s r t o s' r' t' o' : Int} (h : mayB s r t o = true) (h' : mayB s' r' t' o' = true) (e : packv s r t o = packv s' r' t' o') : s = s' ∧ r = r' ∧ t = t' ∧ o = o' := by
  obtain ⟨b1, b2, b3, b4⟩ := may_bd h
  obtain ⟨c1, c2, c3, c4⟩ := may_bd h'
  unfold packv at e
  omega

theorem pack_ne {s r t o s' r' t' o' : Int} (h : mayB s r t o = true) (h' : mayB s' r' t' o' = true) (n : ¬ (s = s' ∧ r = r' ∧ t = t' ∧ o = o')) : (packv s r t o == packv s' r' t' o') = false := by
  rw [beq_eq_false_iff_ne]
  exact fun e => n (pack_inj h h' e)

/-- what a pointer packs to, whichever way, behind one name -/
def pkw (s r t o : Int) : Int := if mayB s r t o = true then packv s r t o else 0
def pke (s r t o : Int) : Int := if mayB s r t o = true then 0 else 1

theorem pack_any (s r t o : Int) (w : World) :
    Calls Try.prog 13 #[PT s r t o] w fun e w' => e = .returned (.tuple #[.int .u64 (pkw s r t o), .int .i64 (pke s r t o)]) ∧ Below w.heap.size w w' := by
  unfold pkw pke
  cases h : mayB s r t o with
  | false => exact pack_no s r t o w h
  | true => exact pack_yes s r t o w h

theorem apart_walk (s r t o s' r' t' o' : Int) (w : World) :
    Calls Try.prog 6 #[PT s r t o, PT s' r' t' o'] w fun e w' => e = .returned (.bool true) ∧ Below w.heap.size w w' := by
  have K : (pke s r t o != 0) = true ∨ ((pke s r t o != 0) = false ∧ (pke s' r' t' o' != 0) = true) ∨ ((pke s r t o != 0) = false ∧ (pke s' r' t' o' != 0) = false ∧
      (((pkw s r t o == pkw s' r' t' o') = true ∧ s = s' ∧ r = r' ∧ t = t' ∧ o = o') ∨ ((pkw s r t o == pkw s' r' t' o') = false ∧ ((s == s') = false ∨ (s = s' ∧ (r == r') = false) ∨ (s = s' ∧ r = r' ∧ (t == t') = false) ∨ (s = s' ∧ r = r' ∧ t = t' ∧ (o == o') = false))))) := by
    unfold pke pkw
    cases h : mayB s r t o with
    | false => exact .inl (by simp)
    | true =>
      cases h' : mayB s' r' t' o' with
      | false => exact .inr (.inl (by simp))
      | true =>
        refine .inr (.inr ⟨by simp, by simp, ?_⟩)
        rw [if_pos rfl, if_pos rfl]
        by_cases n : s = s' ∧ r = r' ∧ t = t' ∧ o = o'
        · obtain ⟨rfl, rfl, rfl, rfl⟩ := n
          exact .inl ⟨by simp, rfl, rfl, rfl, rfl⟩
        · refine .inr ⟨pack_ne h h' n, ?_⟩
          simp only [beq_eq_false_iff_ne]
          omega
  rcases K with k | ⟨k, l⟩ | ⟨k, l, ⟨m, rfl, rfl, rfl, rfl⟩ | ⟨m, n | ⟨rfl, n⟩ | ⟨rfl, rfl, n⟩ | ⟨rfl, rfl, rfl, n⟩⟩⟩
  all_goals
    go_enter Try.func6, Try.ntmps6
    go_wp2_with (first
      | (go_at_call 7; ((with_reducible refine (awake_any _).mono ?_); rintro e w1 ⟨rfl, h1⟩; have k1 := old_cell h1; have y1 : w.heap.size < w1.heap.size := (by have := h1.size; simp at this; omega); have z1 : w.heap.size + 1 < w1.heap.size := (by have := h1.size; simp at this; omega)))
      | (go_at_call 13; ((with_reducible refine (pack_any _ _ _ _ w1).mono ?_); rintro e w2 ⟨rfl, h2⟩; have k2 := old_cell h2; have y2 : w.heap.size < w2.heap.size := (by have := h2.size; omega); have z2 : w.heap.size + 1 < w2.heap.size := (by have := h2.size; omega)))
      | (go_at_call 13; ((with_reducible refine (pack_any _ _ _ _ w2).mono ?_); rintro e w3 ⟨rfl, h3⟩; have k3 := old_cell h3; have y3 : w.heap.size < w3.heap.size := (by have := h3.size; omega); have z3 : w.heap.size + 1 < w3.heap.size := (by have := h3.size; omega))))
    go_ret
    exact ⟨rfl, ((((Below.refl _ _).alloc (Nat.le_refl _) _).alloc (by simp) _).trans (h1.mono (by simp; omega))).trans ((h2.mono (by omega)).trans (h3.mono (by omega)))⟩

end Go.Proofs.Ytenlfjbkfgfcmaa.W
