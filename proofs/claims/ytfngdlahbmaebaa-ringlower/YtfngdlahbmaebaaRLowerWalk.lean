/-
  The law RingLower answers true: what a ring may read or write, each lower ring may.
-/
import Derived.Test.YtfngdlahbmaebaaRHeld
namespace Go.Proofs.Ytfngdlahbmaebaa.W
open Go.ChangeShapes Go.WideShapes Go.ChangeAt Go.RowKit

/-- the ways of one round -/
theorem lower_ways (r1 r2 r3 g : Int) (fr fw : Bool) (n k : Int) (k0 : 0 ≤ k) (kn : k < n) (n7 : n ≤ 7) :
    ((acc (bmay r1 r2 r3 g) fr n 0 r2 == 0) = true ∧ (acc (bmay r1 r2 r3 g) fr n 0 r2 != 0) = false ∧ (acc (bmay r1 r2 r3 g) fr k 0 r2 != 0) = false ∧ (acc (bmay r1 r2 r3 g) fw n 0 r1 == 0) = false) ∨
    ((acc (bmay r1 r2 r3 g) fr n 0 r2 == 0) = true ∧ (acc (bmay r1 r2 r3 g) fr n 0 r2 != 0) = false ∧ (acc (bmay r1 r2 r3 g) fr k 0 r2 != 0) = false ∧ (acc (bmay r1 r2 r3 g) fw n 0 r1 == 0) = true ∧ (acc (bmay r1 r2 r3 g) fw k 0 r1 != 0) = false ∧ fr = true) ∨
    ((acc (bmay r1 r2 r3 g) fr n 0 r2 == 0) = false ∧ (acc (bmay r1 r2 r3 g) fw n 0 r1 == 0) = false) ∨
    ((acc (bmay r1 r2 r3 g) fr n 0 r2 == 0) = false ∧ (acc (bmay r1 r2 r3 g) fw n 0 r1 == 0) = true ∧ (acc (bmay r1 r2 r3 g) fw k 0 r1 != 0) = false ∧ fr = false) := by
  cases hB : (acc (bmay r1 r2 r3 g) fw n 0 r1 == 0) with
  | false =>
    cases hA : (acc (bmay r1 r2 r3 g) fr n 0 r2 == 0) with
    | false => exact .inr (.inr (.inl ⟨rfl, rfl⟩))
    | true =>
      obtain ⟨_, hm, hf, hi⟩ := acc_is hA
      have i := inr_yes hi
      exact .inl ⟨rfl, acc_nz0 hA, acc_nz0 (acc_mk k0 (by omega) hm hf k0 (by omega)), rfl⟩
  | true =>
    obtain ⟨_, hm, hw, hi⟩ := acc_is hB
    have i := inr_yes hi
    have m := bmay_yes hm
    have hB' := acc_nz0 (acc_mk (b := r1) k0 (by omega) hm hw k0 (by omega))
    cases fr with
    | false =>
      have hA : (acc (bmay r1 r2 r3 g) false n 0 r2 == 0) = false := by rw [acc_zero]; simp
      exact .inr (.inr (.inr ⟨hA, rfl, hB', rfl⟩))
    | true =>
      have hA := acc_mk (m := bmay r1 r2 r3 g) (fl := true) (r := n) (a := 0) (b := r2) (by omega) n7 hm rfl (by omega) (by omega)
      exact .inr (.inl ⟨hA, acc_nz0 hA, acc_nz0 (acc_mk k0 (by omega) hm rfl k0 (by omega)), rfl, hB', rfl⟩)

theorem lower_walk (r1 r2 r3 g : Int) (fr fw fe : Bool) (r : Int) (w : World) (b0 : 0 ≤ r) (b1 : r ≤ 255) :
    Calls Try.prog 5 #[BV r1 r2 r3 g, FV fr fw fe, .int .u8 r] w fun e w' => e = .returned (.bool true) ∧ Below w.heap.size w w' := by
  go_enter Try.func5, Try.ntmps5
  go_wp2_with (first
    | (go_at_call 10; ((with_reducible refine (awake_any _).mono ?_); rintro e w1 ⟨rfl, h1⟩)))
  have H : Held w w.heap.size (w.heap.size + 1) r1 r2 r3 g fr fw fe w1 :=
    ⟨br_below h1 ⟨by simp; omega, by simp [go_sem], by simp [go_sem], by simp [go_sem], by simp [go_sem]⟩, fl_below h1 ⟨by simp, by simp [go_sem], by simp [go_sem], by simp [go_sem]⟩, bel2 (two_new _ _ _) h1⟩
  clear h1
  have n0 : 0 ≤ r % 8 := by omega
  have n7 : r % 8 ≤ 7 := by omega
  generalize r % 8 = n at *
  clear b0 b1
  go_loopw [8] (fun i W => ∃ k : Int, 0 ≤ k ∧ k ≤ n ∧ i = .int .i64 k ∧ Held w w.heap.size (w.heap.size + 1) r1 r2 r3 g fr fw fe W) (fun i _ => (n - intOf i).toNat)
  case atStart => exact ⟨0, by omega, n0, rfl, H⟩
  case round =>
    clear H
    obtain ⟨k, k0, kn, rfl, H⟩ := hrel
    by_cases c : k < n
    · have HR := Lib.hid (fun W => read_any r1 r2 r3 g fr fw fe n W)
      have HS := Lib.hid (fun W => read_any r1 r2 r3 g fr fw fe k W)
      have HW := Lib.hid (fun W => write_any r1 r2 r3 g fr fw fe n W)
      have HV := Lib.hid (fun W => write_any r1 r2 r3 g fr fw fe k W)
      rcases lower_ways r1 r2 r3 g fr fw n k k0 c n7 with ⟨e1, e2, e3, e4⟩ | ⟨e1, e2, e3, e4, e5, rfl⟩ | ⟨e1, e4⟩ | ⟨e1, e4, e5, rfl⟩
      all_goals
        obtain ⟨⟨z, x0, x1, x2, x3⟩, ⟨zf, y0, y1, y2⟩, hb⟩ := id H
        go_wp2_with (first
          | (go_at_call 15; ((with_reducible refine (HR.out _).mono ?_); rintro e w2 ⟨rfl, h2⟩; have H := held_below H h2; obtain ⟨⟨z, x0, x1, x2, x3⟩, ⟨zf, y0, y1, y2⟩, hb⟩ := id H))
          | (go_at_call 15; ((with_reducible refine (HS.out _).mono ?_); rintro e w2 ⟨rfl, h2⟩; have H := held_below H h2; obtain ⟨⟨z, x0, x1, x2, x3⟩, ⟨zf, y0, y1, y2⟩, hb⟩ := id H))
          | (go_at_call 17; ((with_reducible refine (HW.out _).mono ?_); rintro e w2 ⟨rfl, h2⟩; have H := held_below H h2; obtain ⟨⟨z, x0, x1, x2, x3⟩, ⟨zf, y0, y1, y2⟩, hb⟩ := id H))
          | (go_at_call 17; ((with_reducible refine (HV.out _).mono ?_); rintro e w2 ⟨rfl, h2⟩; have H := held_below H h2; obtain ⟨⟨z, x0, x1, x2, x3⟩, ⟨zf, y0, y1, y2⟩, hb⟩ := id H)))
        go_roundw
        case rel => exact ⟨k + 1, by omega, by omega, rfl, H⟩
        case measure => simp [intOf]; omega
    · have d : decide (k < n) = false := decide_eq_false c
      go_wp2
      go_ret
      exact ⟨rfl, H.2.2⟩

end Go.Proofs.Ytfngdlahbmaebaa.W
