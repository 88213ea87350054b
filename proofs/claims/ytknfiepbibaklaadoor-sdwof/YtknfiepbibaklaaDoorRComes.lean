/-
  ring.Call, and the document's own answers for an access and for a call: one contract each.
-/
import Derived.Test.YtknfiepbibaklaaDoorRCalls
import Derived.Deep.QuietTactic
import Derived.BigQuiet
namespace Go.Proofs.YtknfiepbibaklaaDoor.W
open Go.ChangeShapes Go.WideShapes Go.ChangeAt Go.RowKit

theorem acc_nn {m fl : Bool} {r a b : Int} (h : (acc m fl r a b == 0) = false) : (acc m fl r a b != 0) = true := by rw [bne, h]; rfl
theorem acc_nz0 {m fl : Bool} {r a b : Int} (h : (acc m fl r a b == 0) = true) : (acc m fl r a b != 0) = false := by rw [bne, h]; rfl

theorem call_any (r1 r2 r3 g : Int) (fr fw fe : Bool) (r off : Int) (w : World) :
    Calls Tryd.prog 36 #[BV r1 r2 r3 g, FV fr fw fe, .int .i64 r, .int .i64 off] w fun e w' => e = .returned (.tuple #[.int .i64 (cto (bmay r1 r2 r3 g) fe r r1 r2 r3 g off), .int .i64 (cer (bmay r1 r2 r3 g) fe r r1 r2 r3 g off)]) ∧ Below w.heap.size w w' := by
  cases hA : (acc (bmay r1 r2 r3 g) fe r r1 r3 == 0) with
  | false =>
    have d := acc_nn hA
    have hc := Lib.hid (call_no (r2 := r2) (g := g) (off := off) hA)
    clear hA
    go_enter Tryd.func36, Tryd.ntmps36
    go_wp2_with (go_at_call 54; ((with_reducible refine (access_any r1 r2 r3 g fe r r1 r3 _).mono ?_); rintro e w1 ⟨rfl, h1⟩))
    exact bodyPost_ret (v := .tuple #[.int .i64 0, .int .i64 (acc (bmay r1 r2 r3 g) fe r r1 r3)]) (by simp [results, Tryd.results36, go_sem]) rfl ⟨retT hc.out.1.symm hc.out.2.symm, then_new h1⟩
  | true =>
    have d := acc_nz0 hA
    have hg : 0 ≤ g ∧ g ≤ 1024 := by
      rcases acc_cases (bmay r1 r2 r3 g) fe r r1 r3 with ⟨_, e⟩ | ⟨_, _, _, e⟩ | ⟨_, _, _, _, e⟩ | ⟨_, hm, _, _, e⟩
      · rw [e] at hA; cases hA
      · rw [e] at hA; cases hA
      · rw [e] at hA; cases hA
      · have := bmay_yes hm; omega
    have hw : wrap64 (g - 1) = g - 1 := by unfold wrap64; omega
    by_cases h2 : r ≤ r2
    · have hc := Lib.hid (call_in (g := g) (off := off) hA h2)
      clear hA hg hw
      go_enter Tryd.func36, Tryd.ntmps36
      go_wp2_with (go_at_call 54; ((with_reducible refine (access_any r1 r2 r3 g fe r r1 r3 _).mono ?_); rintro e w1 ⟨rfl, h1⟩; have k1 := old_at h1; have y1 : w.heap.size < w1.heap.size := (by have := h1.size; simp at this; omega)))
      exact bodyPost_ret (v := .tuple #[.int .i64 r, .int .i64 0]) (by simp [results, Tryd.results36, go_sem]) rfl ⟨retT hc.out.1.symm hc.out.2.symm, then_new h1⟩
    · have d2 : decide (r ≤ r2) = false := decide_eq_false h2
      cases h3 : inr off 0 (g - 1) with
      | true =>
        have hc := Lib.hid (call_gate hA h2 h3)
        clear hA hg h2
        go_enter Tryd.func36, Tryd.ntmps36
        go_wp2_with (first
          | (go_at_call 54; ((with_reducible refine (access_any r1 r2 r3 g fe r r1 r3 _).mono ?_); rintro e w1 ⟨rfl, h1⟩; have k1 := old_at h1; have y1 : w.heap.size < w1.heap.size := (by have := h1.size; simp at this; omega)))
          | (go_at_call 55; rw [hw]; ((with_reducible refine (within_yes off 0 (g - 1) _ h3).mono ?_); rintro e w' ⟨rfl, rfl⟩)))
        exact bodyPost_ret (v := .tuple #[.int .i64 r2, .int .i64 0]) (by simp [results, Tryd.results36, go_sem]) rfl ⟨retT hc.out.1.symm hc.out.2.symm, then_new h1⟩
      | false =>
        have hc := Lib.hid (call_wall hA h2 h3)
        clear hA hg h2
        go_enter Tryd.func36, Tryd.ntmps36
        go_wp2_with (first
          | (go_at_call 54; ((with_reducible refine (access_any r1 r2 r3 g fe r r1 r3 _).mono ?_); rintro e w1 ⟨rfl, h1⟩; have k1 := old_at h1; have y1 : w.heap.size < w1.heap.size := (by have := h1.size; simp at this; omega)))
          | (go_at_call 55; rw [hw]; ((with_reducible refine (within_no off 0 (g - 1) _ h3).mono ?_); rintro e w' ⟨rfl, rfl⟩)))
        exact bodyPost_ret (v := .tuple #[.int .i64 0, .int .i64 11]) (by simp [results, Tryd.results36, go_sem]) rfl ⟨retT hc.out.1.symm hc.out.2.symm, then_new h1⟩

theorem three_new0 (w : World) (a b c : Obj) : Below w.heap.size w (((w.alloc a).alloc b).alloc c) := (two_new w a b).alloc (by simp; omega) c
theorem belowN {w v : World} {n : Nat} (h : Below w.heap.size w v) : Below w.heap.size w (v.drewN n) := ⟨h.os, h.tape, h.output, h.size, h.block⟩
theorem three_new (w : World) (a b c : Obj) (n : Nat) : Below w.heap.size w ((((w.alloc a).alloc b).alloc c).drewN n) := belowN (three_new0 w a b c)

theorem rread_any (r1 r2 r3 g : Int) (fr fw fe : Bool) (r : Int) (w : World) :
    Calls Tryd.prog 18 #[.int .i64 2, BV r1 r2 r3 g, FV fr fw fe, .int .i64 r] w fun e w' => e = .returned (.int .i64 (acc (bmay r1 r2 r3 g) fr r 0 r2)) ∧ Below w.heap.size w w' := by
  cases hm : bmay r1 r2 r3 g with
  | false =>
    rw [acc_arg2 rfl]
    go_enter Tryd.func18, Tryd.ntmps18
    go_wp2_with (go_at_call 21; ((with_reducible refine (rmay_no r1 r2 r3 g _ hm).mono ?_); rintro e w' ⟨rfl, rfl⟩))
    go_ret
    exact ⟨rfl, three_new0 _ _ _ _⟩
  | true =>
    have K : (decide (r < 0) = true ∧ inr r 0 7 = false) ∨ (decide (r < 0) = false ∧ decide (7 < r) = true ∧ inr r 0 7 = false) ∨ (decide (r < 0) = false ∧ decide (7 < r) = false ∧ inr r 0 7 = true) := by
      cases h : inr r 0 7 with
      | false =>
        have := inr_no h
        by_cases c : r < 0
        · exact .inl ⟨decide_eq_true c, rfl⟩
        · exact .inr (.inl ⟨decide_eq_false c, decide_eq_true (by omega), rfl⟩)
      | true =>
        have := inr_yes h
        exact .inr (.inr ⟨decide_eq_false (by omega), decide_eq_false (by omega), rfl⟩)
    rcases K with ⟨d1, hI⟩ | ⟨d1, d2, hI⟩ | ⟨d1, d2, hI⟩
    · rw [acc_arg1 hI]
      go_enter Tryd.func18, Tryd.ntmps18
      go_wp2_with (go_at_call 21; ((with_reducible refine (rmay_yes r1 r2 r3 g _ hm).mono ?_); rintro e w' ⟨rfl, rfl⟩))
      go_ret
      exact ⟨rfl, three_new0 _ _ _ _⟩
    · rw [acc_arg1 hI]
      go_enter Tryd.func18, Tryd.ntmps18
      go_wp2_with (go_at_call 21; ((with_reducible refine (rmay_yes r1 r2 r3 g _ hm).mono ?_); rintro e w' ⟨rfl, rfl⟩))
      go_ret
      exact ⟨rfl, three_new0 _ _ _ _⟩
    · cases fr with
      | false =>
        rw [acc_mode hI rfl rfl]
        go_enter Tryd.func18, Tryd.ntmps18
        go_wp2_with (go_at_call 21; ((with_reducible refine (rmay_yes r1 r2 r3 g _ hm).mono ?_); rintro e w' ⟨rfl, rfl⟩))
        go_quiet (fail)
        go_wp2
        go_ret
        exact ⟨rfl, three_new _ _ _ _ _⟩
      | true =>
        have K : (decide (r < 0) = true ∧ inr r 0 r2 = false) ∨ (decide (r < 0) = false ∧ decide (r2 < r) = true ∧ inr r 0 r2 = false) ∨ (decide (r < 0) = false ∧ decide (r2 < r) = false ∧ inr r 0 r2 = true) := by
          cases h : inr r 0 r2 with
          | false =>
            have := inr_no h
            by_cases c : r < 0
            · exact .inl ⟨decide_eq_true c, rfl⟩
            · exact .inr (.inl ⟨decide_eq_false c, decide_eq_true (by omega), rfl⟩)
          | true =>
            have := inr_yes h
            exact .inr (.inr ⟨decide_eq_false (by omega), decide_eq_false (by omega), rfl⟩)
        rcases K with ⟨d3, hr⟩ | ⟨d3, d4, hr⟩ | ⟨d3, d4, hr⟩
        · cases d1.symm.trans d3
        · rw [acc_ring hI rfl rfl hr]
          go_enter Tryd.func18, Tryd.ntmps18
          go_wp2_with (go_at_call 21; ((with_reducible refine (rmay_yes r1 r2 r3 g _ hm).mono ?_); rintro e w' ⟨rfl, rfl⟩))
          go_quiet (fail)
          go_wp2
          go_ret
          exact ⟨rfl, three_new _ _ _ _ _⟩
        · rw [acc_ok hI rfl rfl hr]
          go_enter Tryd.func18, Tryd.ntmps18
          go_wp2_with (go_at_call 21; ((with_reducible refine (rmay_yes r1 r2 r3 g _ hm).mono ?_); rintro e w' ⟨rfl, rfl⟩))
          go_quiet (fail)
          go_wp2
          go_ret
          exact ⟨rfl, three_new _ _ _ _ _⟩

theorem rwrite_any (r1 r2 r3 g : Int) (fr fw fe : Bool) (r : Int) (w : World) :
    Calls Tryd.prog 18 #[.int .i64 3, BV r1 r2 r3 g, FV fr fw fe, .int .i64 r] w fun e w' => e = .returned (.int .i64 (acc (bmay r1 r2 r3 g) fw r 0 r1)) ∧ Below w.heap.size w w' := by
  cases hm : bmay r1 r2 r3 g with
  | false =>
    rw [acc_arg2 rfl]
    go_enter Tryd.func18, Tryd.ntmps18
    go_wp2_with (go_at_call 21; ((with_reducible refine (rmay_no r1 r2 r3 g _ hm).mono ?_); rintro e w' ⟨rfl, rfl⟩))
    go_ret
    exact ⟨rfl, three_new0 _ _ _ _⟩
  | true =>
    have K : (decide (r < 0) = true ∧ inr r 0 7 = false) ∨ (decide (r < 0) = false ∧ decide (7 < r) = true ∧ inr r 0 7 = false) ∨ (decide (r < 0) = false ∧ decide (7 < r) = false ∧ inr r 0 7 = true) := by
      cases h : inr r 0 7 with
      | false =>
        have := inr_no h
        by_cases c : r < 0
        · exact .inl ⟨decide_eq_true c, rfl⟩
        · exact .inr (.inl ⟨decide_eq_false c, decide_eq_true (by omega), rfl⟩)
      | true =>
        have := inr_yes h
        exact .inr (.inr ⟨decide_eq_false (by omega), decide_eq_false (by omega), rfl⟩)
    rcases K with ⟨d1, hI⟩ | ⟨d1, d2, hI⟩ | ⟨d1, d2, hI⟩
    · rw [acc_arg1 hI]
      go_enter Tryd.func18, Tryd.ntmps18
      go_wp2_with (go_at_call 21; ((with_reducible refine (rmay_yes r1 r2 r3 g _ hm).mono ?_); rintro e w' ⟨rfl, rfl⟩))
      go_ret
      exact ⟨rfl, three_new0 _ _ _ _⟩
    · rw [acc_arg1 hI]
      go_enter Tryd.func18, Tryd.ntmps18
      go_wp2_with (go_at_call 21; ((with_reducible refine (rmay_yes r1 r2 r3 g _ hm).mono ?_); rintro e w' ⟨rfl, rfl⟩))
      go_ret
      exact ⟨rfl, three_new0 _ _ _ _⟩
    · cases fw with
      | false =>
        rw [acc_mode hI rfl rfl]
        go_enter Tryd.func18, Tryd.ntmps18
        go_wp2_with (go_at_call 21; ((with_reducible refine (rmay_yes r1 r2 r3 g _ hm).mono ?_); rintro e w' ⟨rfl, rfl⟩))
        go_quiet (fail)
        go_wp2
        go_quiet (fail)
        go_wp2
        go_ret
        exact ⟨rfl, three_new _ _ _ _ _⟩
      | true =>
        have K : (decide (r < 0) = true ∧ inr r 0 r1 = false) ∨ (decide (r < 0) = false ∧ decide (r1 < r) = true ∧ inr r 0 r1 = false) ∨ (decide (r < 0) = false ∧ decide (r1 < r) = false ∧ inr r 0 r1 = true) := by
          cases h : inr r 0 r1 with
          | false =>
            have := inr_no h
            by_cases c : r < 0
            · exact .inl ⟨decide_eq_true c, rfl⟩
            · exact .inr (.inl ⟨decide_eq_false c, decide_eq_true (by omega), rfl⟩)
          | true =>
            have := inr_yes h
            exact .inr (.inr ⟨decide_eq_false (by omega), decide_eq_false (by omega), rfl⟩)
        rcases K with ⟨d3, hr⟩ | ⟨d3, d4, hr⟩ | ⟨d3, d4, hr⟩
        · cases d1.symm.trans d3
        · rw [acc_ring hI rfl rfl hr]
          go_enter Tryd.func18, Tryd.ntmps18
          go_wp2_with (go_at_call 21; ((with_reducible refine (rmay_yes r1 r2 r3 g _ hm).mono ?_); rintro e w' ⟨rfl, rfl⟩))
          go_quiet (fail)
          go_wp2
          go_quiet (fail)
          go_wp2
          go_ret
          exact ⟨rfl, three_new _ _ _ _ _⟩
        · rw [acc_ok hI rfl rfl hr]
          go_enter Tryd.func18, Tryd.ntmps18
          go_wp2_with (go_at_call 21; ((with_reducible refine (rmay_yes r1 r2 r3 g _ hm).mono ?_); rintro e w' ⟨rfl, rfl⟩))
          go_quiet (fail)
          go_wp2
          go_quiet (fail)
          go_wp2
          go_ret
          exact ⟨rfl, three_new _ _ _ _ _⟩

theorem rfetch_any (r1 r2 r3 g : Int) (fr fw fe : Bool) (r : Int) (w : World) :
    Calls Tryd.prog 18 #[.int .i64 1, BV r1 r2 r3 g, FV fr fw fe, .int .i64 r] w fun e w' => e = .returned (.int .i64 (acc (bmay r1 r2 r3 g) fe r r1 r2)) ∧ Below w.heap.size w w' := by
  cases hm : bmay r1 r2 r3 g with
  | false =>
    rw [acc_arg2 rfl]
    go_enter Tryd.func18, Tryd.ntmps18
    go_wp2_with (go_at_call 21; ((with_reducible refine (rmay_no r1 r2 r3 g _ hm).mono ?_); rintro e w' ⟨rfl, rfl⟩))
    go_ret
    exact ⟨rfl, three_new0 _ _ _ _⟩
  | true =>
    have K : (decide (r < 0) = true ∧ inr r 0 7 = false) ∨ (decide (r < 0) = false ∧ decide (7 < r) = true ∧ inr r 0 7 = false) ∨ (decide (r < 0) = false ∧ decide (7 < r) = false ∧ inr r 0 7 = true) := by
      cases h : inr r 0 7 with
      | false =>
        have := inr_no h
        by_cases c : r < 0
        · exact .inl ⟨decide_eq_true c, rfl⟩
        · exact .inr (.inl ⟨decide_eq_false c, decide_eq_true (by omega), rfl⟩)
      | true =>
        have := inr_yes h
        exact .inr (.inr ⟨decide_eq_false (by omega), decide_eq_false (by omega), rfl⟩)
    rcases K with ⟨d1, hI⟩ | ⟨d1, d2, hI⟩ | ⟨d1, d2, hI⟩
    · rw [acc_arg1 hI]
      go_enter Tryd.func18, Tryd.ntmps18
      go_wp2_with (go_at_call 21; ((with_reducible refine (rmay_yes r1 r2 r3 g _ hm).mono ?_); rintro e w' ⟨rfl, rfl⟩))
      go_ret
      exact ⟨rfl, three_new0 _ _ _ _⟩
    · rw [acc_arg1 hI]
      go_enter Tryd.func18, Tryd.ntmps18
      go_wp2_with (go_at_call 21; ((with_reducible refine (rmay_yes r1 r2 r3 g _ hm).mono ?_); rintro e w' ⟨rfl, rfl⟩))
      go_ret
      exact ⟨rfl, three_new0 _ _ _ _⟩
    · cases fe with
      | false =>
        rw [acc_mode hI rfl rfl]
        go_enter Tryd.func18, Tryd.ntmps18
        go_wp2_with (go_at_call 21; ((with_reducible refine (rmay_yes r1 r2 r3 g _ hm).mono ?_); rintro e w' ⟨rfl, rfl⟩))
        go_quiet (fail)
        go_wp2
        go_quiet (fail)
        go_wp2
        go_ret
        exact ⟨rfl, three_new _ _ _ _ _⟩
      | true =>
        have K : (decide (r < r1) = true ∧ inr r r1 r2 = false) ∨ (decide (r < r1) = false ∧ decide (r2 < r) = true ∧ inr r r1 r2 = false) ∨ (decide (r < r1) = false ∧ decide (r2 < r) = false ∧ inr r r1 r2 = true) := by
          cases h : inr r r1 r2 with
          | false =>
            have := inr_no h
            by_cases c : r < r1
            · exact .inl ⟨decide_eq_true c, rfl⟩
            · exact .inr (.inl ⟨decide_eq_false c, decide_eq_true (by omega), rfl⟩)
          | true =>
            have := inr_yes h
            exact .inr (.inr ⟨decide_eq_false (by omega), decide_eq_false (by omega), rfl⟩)
        rcases K with ⟨d3, hr⟩ | ⟨d3, d4, hr⟩ | ⟨d3, d4, hr⟩
        · rw [acc_ring hI rfl rfl hr]
          go_enter Tryd.func18, Tryd.ntmps18
          go_wp2_with (go_at_call 21; ((with_reducible refine (rmay_yes r1 r2 r3 g _ hm).mono ?_); rintro e w' ⟨rfl, rfl⟩))
          go_quiet (fail)
          go_wp2
          go_quiet (fail)
          go_wp2
          go_ret
          exact ⟨rfl, three_new _ _ _ _ _⟩
        · rw [acc_ring hI rfl rfl hr]
          go_enter Tryd.func18, Tryd.ntmps18
          go_wp2_with (go_at_call 21; ((with_reducible refine (rmay_yes r1 r2 r3 g _ hm).mono ?_); rintro e w' ⟨rfl, rfl⟩))
          go_quiet (fail)
          go_wp2
          go_quiet (fail)
          go_wp2
          go_ret
          exact ⟨rfl, three_new _ _ _ _ _⟩
        · rw [acc_ok hI rfl rfl hr]
          go_enter Tryd.func18, Tryd.ntmps18
          go_wp2_with (go_at_call 21; ((with_reducible refine (rmay_yes r1 r2 r3 g _ hm).mono ?_); rintro e w' ⟨rfl, rfl⟩))
          go_quiet (fail)
          go_wp2
          go_quiet (fail)
          go_wp2
          go_ret
          exact ⟨rfl, three_new _ _ _ _ _⟩

/-- the ways that the document's own call goes -/
theorem call_ways (r1 r2 r3 g : Int) (fe : Bool) (r off : Int) :
    (decide (r < 0) = true ∧ cto true fe r r1 r2 r3 g off = 0 ∧ cer true fe r r1 r2 r3 g off = 1) ∨ (decide (r < 0) = false ∧ decide (7 < r) = true ∧ cto true fe r r1 r2 r3 g off = 0 ∧ cer true fe r r1 r2 r3 g off = 1) ∨
    (decide (r < 0) = false ∧ decide (7 < r) = false ∧ fe = false ∧ cto true fe r r1 r2 r3 g off = 0 ∧ cer true fe r r1 r2 r3 g off = 9) ∨
    (decide (r < 0) = false ∧ decide (7 < r) = false ∧ fe = true ∧ decide (r < r1) = true ∧ cto true fe r r1 r2 r3 g off = 0 ∧ cer true fe r r1 r2 r3 g off = 10) ∨
    (decide (r < 0) = false ∧ decide (7 < r) = false ∧ fe = true ∧ decide (r < r1) = false ∧ decide (r3 < r) = true ∧ cto true fe r r1 r2 r3 g off = 0 ∧ cer true fe r r1 r2 r3 g off = 10) ∨
    (decide (r < 0) = false ∧ decide (7 < r) = false ∧ fe = true ∧ decide (r < r1) = false ∧ decide (r3 < r) = false ∧ decide (r ≤ r2) = true ∧ cto true fe r r1 r2 r3 g off = r ∧ cer true fe r r1 r2 r3 g off = 0) ∨
    (decide (r < 0) = false ∧ decide (7 < r) = false ∧ fe = true ∧ decide (r < r1) = false ∧ decide (r3 < r) = false ∧ decide (r ≤ r2) = false ∧ decide (off < 0) = true ∧ cto true fe r r1 r2 r3 g off = 0 ∧ cer true fe r r1 r2 r3 g off = 11) ∨
    (decide (r < 0) = false ∧ decide (7 < r) = false ∧ fe = true ∧ decide (r < r1) = false ∧ decide (r3 < r) = false ∧ decide (r ≤ r2) = false ∧ decide (off < 0) = false ∧ decide (g ≤ off) = true ∧ cto true fe r r1 r2 r3 g off = 0 ∧ cer true fe r r1 r2 r3 g off = 11) ∨
    (decide (r < 0) = false ∧ decide (7 < r) = false ∧ fe = true ∧ decide (r < r1) = false ∧ decide (r3 < r) = false ∧ decide (r ≤ r2) = false ∧ decide (off < 0) = false ∧ decide (g ≤ off) = false ∧ cto true fe r r1 r2 r3 g off = r2 ∧ cer true fe r r1 r2 r3 g off = 0) := by
  simp only [decide_eq_true_iff, decide_eq_false_iff_not]
  cases hA : (acc true fe r r1 r3 == 0) with
  | false =>
    obtain ⟨e1, e2⟩ := call_no (r2 := r2) (g := g) (off := off) hA
    rw [e1, e2]
    rcases acc_cases true fe r r1 r3 with ⟨h | h, e⟩ | ⟨h1, _, h3, e⟩ | ⟨h1, _, h3, h4, e⟩ | ⟨_, _, _, _, e⟩
    · have := inr_no h
      rw [e]; omega
    · cases h
    · have := inr_yes h1
      rw [e]
      exact .inr (.inr (.inl ⟨by omega, by omega, h3, rfl, rfl⟩))
    · have i1 := inr_yes h1
      have i4 := inr_no h4
      rw [e]
      by_cases c : r < r1
      · exact .inr (.inr (.inr (.inl ⟨by omega, by omega, h3, c, rfl, rfl⟩)))
      · exact .inr (.inr (.inr (.inr (.inl ⟨by omega, by omega, h3, c, by omega, rfl, rfl⟩))))
    · rw [e] at hA; cases hA
  | true =>
    rcases acc_cases true fe r r1 r3 with ⟨_, e⟩ | ⟨_, _, _, e⟩ | ⟨_, _, _, _, e⟩ | ⟨h1, _, h3, h4, e⟩
    · rw [e] at hA; cases hA
    · rw [e] at hA; cases hA
    · rw [e] at hA; cases hA
    · have i1 := inr_yes h1
      have i4 := inr_yes h4
      by_cases c : r ≤ r2
      · obtain ⟨e1, e2⟩ := call_in (g := g) (off := off) hA c
        exact .inr (.inr (.inr (.inr (.inr (.inl ⟨by omega, by omega, h3, by omega, by omega, c, e1, e2⟩)))))
      · cases h5 : inr off 0 (g - 1) with
        | true =>
          have i5 := inr_yes h5
          obtain ⟨e1, e2⟩ := call_gate hA c h5
          exact .inr (.inr (.inr (.inr (.inr (.inr (.inr (.inr ⟨by omega, by omega, h3, by omega, by omega, c, by omega, by omega, e1, e2⟩)))))))
        | false =>
          have i5 := inr_no h5
          obtain ⟨e1, e2⟩ := call_wall hA c h5
          by_cases c1 : off < 0
          · exact .inr (.inr (.inr (.inr (.inr (.inr (.inl ⟨by omega, by omega, h3, by omega, by omega, c, c1, e1, e2⟩))))))
          · exact .inr (.inr (.inr (.inr (.inr (.inr (.inr (.inl ⟨by omega, by omega, h3, by omega, by omega, c, c1, by omega, e1, e2⟩)))))))

theorem rcall_any (r1 r2 r3 g : Int) (fr fw fe : Bool) (r off : Int) (w : World) :
    Calls Tryd.prog 16 #[BV r1 r2 r3 g, FV fr fw fe, .int .i64 r, .int .i64 off] w fun e w' => e = .returned (.tuple #[.int .i64 (cto (bmay r1 r2 r3 g) fe r r1 r2 r3 g off), .int .i64 (cer (bmay r1 r2 r3 g) fe r r1 r2 r3 g off)]) ∧ Below w.heap.size w w' := by
  cases hm : bmay r1 r2 r3 g with
  | false =>
    have hA : acc false fe r r1 r3 = 1 := acc_arg2 rfl
    obtain ⟨e1, e2⟩ := call_no (m := false) (fl := fe) (r := r) (r1 := r1) (r2 := r2) (r3 := r3) (g := g) (off := off) (by rw [hA]; rfl)
    rw [e1, e2, hA]
    clear e1 e2 hA
    go_enter Tryd.func16, Tryd.ntmps16
    go_wp2_with (go_at_call 21; ((with_reducible refine (rmay_no r1 r2 r3 g _ hm).mono ?_); rintro e w' ⟨rfl, rfl⟩))
    exact bodyPost_ret (v := .tuple #[.int .i64 0, .int .i64 1]) (by simp [results, Tryd.results16, go_sem]) rfl ⟨rfl, three_new0 _ _ _ _⟩
  | true =>
    rcases call_ways r1 r2 r3 g fe r off with ⟨d1, e1, e2⟩ | ⟨d1, d2, e1, e2⟩ | ⟨d1, d2, rfl, e1, e2⟩ | ⟨d1, d2, rfl, d3, e1, e2⟩ | ⟨d1, d2, rfl, d3, d4, e1, e2⟩ | ⟨d1, d2, rfl, d3, d4, d5, e1, e2⟩ | ⟨d1, d2, rfl, d3, d4, d5, d6, e1, e2⟩ | ⟨d1, d2, rfl, d3, d4, d5, d6, d7, e1, e2⟩ | ⟨d1, d2, rfl, d3, d4, d5, d6, d7, e1, e2⟩
    all_goals
      rw [e1, e2]
      clear e1 e2
      go_enter Tryd.func16, Tryd.ntmps16
      go_wp2_with (go_at_call 21; ((with_reducible refine (rmay_yes r1 r2 r3 g _ hm).mono ?_); rintro e w' ⟨rfl, rfl⟩))
      first
        | exact bodyPost_ret (v := .tuple #[.int .i64 0, .int .i64 1]) (by simp [results, Tryd.results16, go_sem]) rfl ⟨rfl, three_new0 _ _ _ _⟩
        | exact bodyPost_ret (v := .tuple #[.int .i64 0, .int .i64 9]) (by simp [results, Tryd.results16, go_sem]) rfl ⟨rfl, three_new0 _ _ _ _⟩
        | exact bodyPost_ret (v := .tuple #[.int .i64 0, .int .i64 10]) (by simp [results, Tryd.results16, go_sem]) rfl ⟨rfl, three_new0 _ _ _ _⟩
        | exact bodyPost_ret (v := .tuple #[.int .i64 0, .int .i64 11]) (by simp [results, Tryd.results16, go_sem]) rfl ⟨rfl, three_new0 _ _ _ _⟩
        | exact bodyPost_ret (v := .tuple #[.int .i64 r, .int .i64 0]) (by simp [results, Tryd.results16, go_sem]) rfl ⟨rfl, three_new0 _ _ _ _⟩
        | exact bodyPost_ret (v := .tuple #[.int .i64 r2, .int .i64 0]) (by simp [results, Tryd.results16, go_sem]) rfl ⟨rfl, three_new0 _ _ _ _⟩

end Go.Proofs.YtknfiepbibaklaaDoor.W
