/-
  The law RingFalls answers true: a call into a lower ring is from above R2, at most R3, to a gate, into R2; none goes into a higher one.
-/
import Derived.Test.YtfngdlahbmaebaaRAwake
namespace Go.Proofs.Ytfngdlahbmaebaa.W
open Go.ChangeShapes Go.WideShapes Go.ChangeAt Go.RowKit

/-- how a call can end -/
theorem call_ends (r1 r2 r3 g : Int) (fe : Bool) (r off : Int) :
    ((cer (bmay r1 r2 r3 g) fe r r1 r2 r3 g off != 0) = true ∧ cto (bmay r1 r2 r3 g) fe r r1 r2 r3 g off = 0) ∨
    (cer (bmay r1 r2 r3 g) fe r r1 r2 r3 g off = 0 ∧ bmay r1 r2 r3 g = true ∧ fe = true ∧ 0 ≤ r ∧ r ≤ 7 ∧ r1 ≤ r ∧ r ≤ r2 ∧ cto (bmay r1 r2 r3 g) fe r r1 r2 r3 g off = r) ∨
    (cer (bmay r1 r2 r3 g) fe r r1 r2 r3 g off = 0 ∧ bmay r1 r2 r3 g = true ∧ fe = true ∧ 0 ≤ r ∧ r ≤ 7 ∧ r2 < r ∧ r ≤ r3 ∧ 0 ≤ off ∧ off < g ∧ cto (bmay r1 r2 r3 g) fe r r1 r2 r3 g off = r2) := by
  cases hA : (acc (bmay r1 r2 r3 g) fe r r1 r3 == 0) with
  | false =>
    obtain ⟨e1, e2⟩ := call_no (r2 := r2) (g := g) (off := off) hA
    rw [e1, e2]
    exact .inl ⟨acc_nn hA, rfl⟩
  | true =>
    rcases acc_cases (bmay r1 r2 r3 g) fe r r1 r3 with ⟨_, e⟩ | ⟨_, _, _, e⟩ | ⟨_, _, _, _, e⟩ | ⟨h1, hm, h3, h4, e⟩
    · rw [e] at hA; cases hA
    · rw [e] at hA; cases hA
    · rw [e] at hA; cases hA
    · have i1 := inr_yes h1
      have i4 := inr_yes h4
      by_cases c : r ≤ r2
      · obtain ⟨e1, e2⟩ := call_in (g := g) (off := off) hA c
        exact .inr (.inl ⟨e2, hm, h3, i1.1, i1.2, i4.1, c, e1⟩)
      · cases h5 : inr off 0 (g - 1) with
        | true =>
          have i5 := inr_yes h5
          obtain ⟨e1, e2⟩ := call_gate hA c h5
          exact .inr (.inr ⟨e2, hm, h3, i1.1, i1.2, by omega, i4.2, i5.1, by omega, e1⟩)
        | false =>
          obtain ⟨e1, e2⟩ := call_wall hA c h5
          rw [e1, e2]
          exact .inl ⟨rfl, rfl⟩

theorem exec_in {r1 r2 r3 g r : Int} (hm : bmay r1 r2 r3 g = true) (h0 : 0 ≤ r) (h7 : r ≤ 7) (h1 : r1 ≤ r) (h2 : r ≤ r2) : acc (bmay r1 r2 r3 g) true r r1 r2 = 0 :=
  acc_ok (inr_mk h0 h7) hm rfl (inr_mk h1 h2)

theorem falls_walk (r1 r2 r3 g : Int) (fr fw fe : Bool) (r off : Int) (w : World) :
    Calls Try.prog 4 #[BV r1 r2 r3 g, FV fr fw fe, .agg #[.int .i64 r, .int .i64 off]] w fun e w' => e = .returned (.bool true) ∧ Below w.heap.size w w' := by
  have HC := Lib.hid (fun W => call_any r1 r2 r3 g fr fw fe r off W)
  have HX := Lib.hid (fun W => execute_any r1 r2 r3 g fr fw fe r W)
  rcases call_ends r1 r2 r3 g fe r off with ⟨k1, k2⟩ | ⟨k1, hm, rfl, h0, h7, h1, h2, k2⟩ | ⟨k1, hm, rfl, h0, h7, h2, h3, h4, h5, k2⟩
  · rw [k2] at HC
    clear k2
    go_enter Try.func4, Try.ntmps4
    go_wp2_with (first
      | (go_at_call 10; ((with_reducible refine (awake_any _).mono ?_); rintro e w1 ⟨rfl, h1⟩; have k1 := old_at h1; have y1 : w.heap.size < w1.heap.size := (by have := h1.size; simp at this; omega); have z1 : w.heap.size + 1 < w1.heap.size := (by have := h1.size; simp at this; omega); have x1 : w.heap.size + 1 + 1 < w1.heap.size := (by have := h1.size; simp at this; omega)))
      | (go_at_call 11; ((with_reducible refine (HC.out _).mono ?_); rintro e w2 ⟨rfl, h2⟩)))
    go_ret
    exact ⟨rfl, bel2 (bel2 ((two_new _ _ _).alloc (by simp; omega) _) h1) h2⟩
  · have hx := exec_in hm h0 h7 h1 h2
    rw [k1, k2] at HC
    rw [hx] at HX
    have d1 : decide (r < r) = false := decide_eq_false (by omega)
    clear k1 k2 hx h0 h7 h1 h2 hm
    go_enter Try.func4, Try.ntmps4
    go_wp2_with (first
      | (go_at_call 10; ((with_reducible refine (awake_any _).mono ?_); rintro e w1 ⟨rfl, h1⟩; have k1 := old_at h1; have y1 : w.heap.size < w1.heap.size := (by have := h1.size; simp at this; omega); have z1 : w.heap.size + 1 < w1.heap.size := (by have := h1.size; simp at this; omega); have x1 : w.heap.size + 1 + 1 < w1.heap.size := (by have := h1.size; simp at this; omega)))
      | (go_at_call 11; ((with_reducible refine (HC.out _).mono ?_); rintro e w2 ⟨rfl, h2⟩; have k2 := old_at h2; have y2 : w.heap.size < w2.heap.size := (by have := h2.size; omega); have z2 : w.heap.size + 1 < w2.heap.size := (by have := h2.size; omega); have x2 : w.heap.size + 1 + 1 < w2.heap.size := (by have := h2.size; omega)))
      | (go_at_call 18; ((with_reducible refine (HX.out _).mono ?_); rintro e w3 ⟨rfl, h3⟩)))
    go_ret
    exact ⟨rfl, bel2 (bel2 (bel2 ((two_new _ _ _).alloc (by simp; omega) _) h1) h2) h3⟩
  · rw [k1, k2] at HC
    clear k1 k2 h0 h7 hm
    go_enter Try.func4, Try.ntmps4
    go_wp2_with (first
      | (go_at_call 10; ((with_reducible refine (awake_any _).mono ?_); rintro e w1 ⟨rfl, h1⟩; have k1 := old_at h1; have y1 : w.heap.size < w1.heap.size := (by have := h1.size; simp at this; omega); have z1 : w.heap.size + 1 < w1.heap.size := (by have := h1.size; simp at this; omega); have x1 : w.heap.size + 1 + 1 < w1.heap.size := (by have := h1.size; simp at this; omega)))
      | (go_at_call 11; ((with_reducible refine (HC.out _).mono ?_); rintro e w2 ⟨rfl, h2⟩; have k2 := old_at h2; have y2 : w.heap.size < w2.heap.size := (by have := h2.size; omega); have z2 : w.heap.size + 1 < w2.heap.size := (by have := h2.size; omega); have x2 : w.heap.size + 1 + 1 < w2.heap.size := (by have := h2.size; omega))))
    go_ret
    exact ⟨rfl, bel2 (bel2 ((two_new _ _ _).alloc (by simp; omega) _) h1) h2⟩

end Go.Proofs.Ytfngdlahbmaebaa.W
