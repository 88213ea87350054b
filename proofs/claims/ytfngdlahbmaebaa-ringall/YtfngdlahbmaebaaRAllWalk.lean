/-
  The law RingAll answers true: of each ring, who may call with a gate may come in; who may execute may call without one; below R1 and above R3 nobody does either.
-/
import Derived.Test.YtfngdlahbmaebaaRHeld
namespace Go.Proofs.Ytfngdlahbmaebaa.W
open Go.ChangeShapes Go.WideShapes Go.ChangeAt Go.RowKit

/-- the ways of one round -/
theorem all_ways (r1 r2 r3 g k off : Int) (hm : bmay r1 r2 r3 g = true) (k0 : 0 ≤ k) (k7 : k ≤ 7) (o0 : 0 ≤ off) :
    (decide (k < r1) = true ∧ cer (bmay r1 r2 r3 g) true k r1 r2 r3 g off = 10 ∧ cto (bmay r1 r2 r3 g) true k r1 r2 r3 g off = 0) ∨
    (decide (k < r1) = false ∧ decide (r3 < k) = true ∧ cer (bmay r1 r2 r3 g) true k r1 r2 r3 g off = 10 ∧ cto (bmay r1 r2 r3 g) true k r1 r2 r3 g off = 0) ∨
    (decide (k < r1) = false ∧ decide (r3 < k) = false ∧ acc (bmay r1 r2 r3 g) true k r1 r2 = 0 ∧ cer (bmay r1 r2 r3 g) true k r1 r2 r3 g off = 0 ∧ cto (bmay r1 r2 r3 g) true k r1 r2 r3 g off = k) ∨
    (decide (k < r1) = false ∧ decide (r3 < k) = false ∧ acc (bmay r1 r2 r3 g) true k r1 r2 = 10 ∧ decide (off < g) = true ∧ cer (bmay r1 r2 r3 g) true k r1 r2 r3 g off = 0 ∧ cto (bmay r1 r2 r3 g) true k r1 r2 r3 g off = r2 ∧ acc (bmay r1 r2 r3 g) true r2 r1 r2 = 0) ∨
    (decide (k < r1) = false ∧ decide (r3 < k) = false ∧ acc (bmay r1 r2 r3 g) true k r1 r2 = 10 ∧ decide (off < g) = false ∧ cer (bmay r1 r2 r3 g) true k r1 r2 r3 g off = 11 ∧ cto (bmay r1 r2 r3 g) true k r1 r2 r3 g off = 0) := by
  have m := bmay_yes hm
  have hi := inr_mk k0 k7
  cases hj : inr k r1 r3 with
  | false =>
    have j := inr_no hj
    have hA := acc_ring hi hm (fl := true) rfl hj
    obtain ⟨e1, e2⟩ := call_no (r2 := r2) (g := g) (off := off) (by rw [hA]; rfl)
    rw [hA] at e2
    by_cases c : k < r1
    · exact .inl ⟨decide_eq_true c, e2, e1⟩
    · exact .inr (.inl ⟨decide_eq_false c, decide_eq_true (by omega), e2, e1⟩)
  | true =>
    have j := inr_yes hj
    have hA : (acc (bmay r1 r2 r3 g) true k r1 r3 == 0) = true := by rw [acc_ok hi hm (fl := true) rfl hj]; rfl
    have d1 : decide (k < r1) = false := decide_eq_false (by omega)
    have d2 : decide (r3 < k) = false := decide_eq_false (by omega)
    by_cases c : k ≤ r2
    · obtain ⟨e1, e2⟩ := call_in (g := g) (off := off) hA c
      exact .inr (.inr (.inl ⟨d1, d2, acc_ok hi hm rfl (inr_mk j.1 c), e2, e1⟩))
    · have hx : acc (bmay r1 r2 r3 g) true k r1 r2 = 10 := acc_ring hi hm rfl (inr_mkno (by omega))
      by_cases o : off < g
      · obtain ⟨e1, e2⟩ := call_gate hA c (inr_mk (n := off) (a := 0) (b := g - 1) o0 (by omega))
        exact .inr (.inr (.inr (.inl ⟨d1, d2, hx, decide_eq_true o, e2, e1, acc_ok (inr_mk (by omega) (by omega)) hm rfl (inr_mk (by omega) (by omega))⟩)))
      · obtain ⟨e1, e2⟩ := call_wall hA c (inr_mkno (n := off) (a := 0) (b := g - 1) (by omega))
        exact .inr (.inr (.inr (.inr ⟨d1, d2, hx, decide_eq_false o, e2, e1⟩)))

theorem rall_walk (r1 r2 r3 g off : Int) (w : World) (b0 : 0 ≤ off) (b1 : off ≤ 255) :
    Calls Try.prog 9 #[BV r1 r2 r3 g, .int .u8 off] w fun e w' => e = .returned (.bool true) ∧ Below w.heap.size w w' := by
  cases hm : bmay r1 r2 r3 g with
  | false =>
    go_enter Try.func9, Try.ntmps9
    go_wp2_with (first
      | (go_at_call 10; ((with_reducible refine (awake_any _).mono ?_); rintro e w1 ⟨rfl, h1⟩; have k1 := old_at h1; have y1 : w.heap.size < w1.heap.size := (by have := h1.size; simp at this; omega)))
      | (go_at_call 14; ((with_reducible refine (rmay_no r1 r2 r3 g _ hm).mono ?_); rintro e w2 ⟨rfl, rfl⟩))
      | (go_at_call 13; ((with_reducible refine (may_no r1 r2 r3 g _ hm).mono ?_); rintro e w3 ⟨rfl, rfl⟩)))
    go_ret
    exact ⟨rfl, bel2 (bel2 (one_new _ _) h1) (two_new _ _ _)⟩
  | true =>
    go_enter Try.func9, Try.ntmps9
    go_wp2_with (first
      | (go_at_call 10; ((with_reducible refine (awake_any _).mono ?_); rintro e w1 ⟨rfl, h1⟩; have k1 := old_at h1; have y1 : w.heap.size < w1.heap.size := (by have := h1.size; simp at this; omega)))
      | (go_at_call 14; ((with_reducible refine (rmay_yes r1 r2 r3 g _ hm).mono ?_); rintro e w2 ⟨rfl, rfl⟩)))
    have hs : (w1.alloc (BO r1 r2 r3 g)).heap.size = w1.heap.size + 1 := by simp
    have H : Held w w.heap.size (w1.heap.size + 1) r1 r2 r3 g false false true ((w1.alloc (BO r1 r2 r3 g)).alloc (FO false false true)) :=
      ⟨br_below (two_new _ _ _) (br_below h1 (br_new _ _ _ _ _)), hs ▸ fl_new _ _ _ _, bel2 (bel2 (one_new _ _) h1) (two_new _ _ _)⟩
    clear hs k1 y1 h1
    generalize w1.heap.size + 1 = f at *
    go_loopw [6] (fun i W => ∃ k : Int, 0 ≤ k ∧ k ≤ 8 ∧ i = .int .i64 k ∧ Held w w.heap.size f r1 r2 r3 g false false true W) (fun i _ => 8 - (intOf i).toNat)
    case atStart => exact ⟨0, by omega, by omega, rfl, H⟩
    case round =>
      clear H
      obtain ⟨k, k0, k8, rfl, H⟩ := hrel
      by_cases c : k < 8
      · have HC := Lib.hid (fun W => call_any r1 r2 r3 g false false true k off W)
        have HX := Lib.hid (fun W => execute_any r1 r2 r3 g false false true k W)
        have HY := Lib.hid (fun W => execute_any r1 r2 r3 g false false true r2 W)
        have hw : wrap64 (k + 1) = k + 1 := by unfold wrap64; omega
        rcases all_ways r1 r2 r3 g k off hm k0 (by omega) b0 with ⟨d1, e1, e2⟩ | ⟨d1, d2, e1, e2⟩ | ⟨d1, d2, e3, e1, e2⟩ | ⟨d1, d2, e3, d3, e1, e2, e4⟩ | ⟨d1, d2, e3, d3, e1, e2⟩
        all_goals
          rw [e1, e2] at HC
          (try rw [e3] at HX)
          (try rw [e4] at HY)
          obtain ⟨⟨z, x0, x1, x2, x3⟩, ⟨zf, y0, y1, y2⟩, hb⟩ := id H
          go_wp2_with (first
            | (go_at_call 11; ((with_reducible refine (HC.out _).mono ?_); rintro e w2 ⟨rfl, h2⟩; have H := held_below H h2; obtain ⟨⟨z, x0, x1, x2, x3⟩, ⟨zf, y0, y1, y2⟩, hb⟩ := id H))
            | (go_at_call 18; ((with_reducible refine (HX.out _).mono ?_); rintro e w2 ⟨rfl, h2⟩; have H := held_below H h2; obtain ⟨⟨z, x0, x1, x2, x3⟩, ⟨zf, y0, y1, y2⟩, hb⟩ := id H))
            | (go_at_call 18; ((with_reducible refine (HY.out _).mono ?_); rintro e w2 ⟨rfl, h2⟩; have H := held_below H h2; obtain ⟨⟨z, x0, x1, x2, x3⟩, ⟨zf, y0, y1, y2⟩, hb⟩ := id H)))
          go_roundw
          case rel => exact ⟨k + 1, by omega, by omega, rfl, H⟩
          case measure => simp [intOf]; omega
      · have d : decide (k < 8) = false := decide_eq_false c
        go_wp2
        go_ret
        exact ⟨rfl, H.2.2⟩

end Go.Proofs.Ytfngdlahbmaebaa.W
