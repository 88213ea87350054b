/-
  The law RingKnown answers true: the brackets by hand.
-/
import Derived.Test.YtfngdlahbmaebaaRHeld
namespace Go.Proofs.Ytfngdlahbmaebaa.W
open Go.ChangeShapes Go.WideShapes Go.ChangeAt Go.RowKit

theorem call_val (r1 r2 r3 g : Int) (fr fw fe : Bool) (r off t x : Int) (w : World) (ht : cto (bmay r1 r2 r3 g) fe r r1 r2 r3 g off = t) (hx : cer (bmay r1 r2 r3 g) fe r r1 r2 r3 g off = x) :
    Calls Try.prog 11 #[BV r1 r2 r3 g, FV fr fw fe, .int .i64 r, .int .i64 off] w fun e w' => e = .returned (.tuple #[.int .i64 t, .int .i64 x]) ∧ Below w.heap.size w w' := by
  rw [← ht, ← hx]
  exact call_any r1 r2 r3 g fr fw fe r off w

theorem read_val (r1 r2 r3 g : Int) (fr fw fe : Bool) (r x : Int) (w : World) (hx : acc (bmay r1 r2 r3 g) fr r 0 r2 = x) :
    Calls Try.prog 15 #[BV r1 r2 r3 g, FV fr fw fe, .int .i64 r] w fun e w' => e = .returned (.int .i64 x) ∧ Below w.heap.size w w' := by
  rw [← hx]
  exact read_any r1 r2 r3 g fr fw fe r w

theorem write_val (r1 r2 r3 g : Int) (fr fw fe : Bool) (r x : Int) (w : World) (hx : acc (bmay r1 r2 r3 g) fw r 0 r1 = x) :
    Calls Try.prog 17 #[BV r1 r2 r3 g, FV fr fw fe, .int .i64 r] w fun e w' => e = .returned (.int .i64 x) ∧ Below w.heap.size w w' := by
  rw [← hx]
  exact write_any r1 r2 r3 g fr fw fe r w

theorem execute_val (r1 r2 r3 g : Int) (fr fw fe : Bool) (r x : Int) (w : World) (hx : acc (bmay r1 r2 r3 g) fe r r1 r2 = x) :
    Calls Try.prog 18 #[BV r1 r2 r3 g, FV fr fw fe, .int .i64 r] w fun e w' => e = .returned (.int .i64 x) ∧ Below w.heap.size w w' := by
  rw [← hx]
  exact execute_any r1 r2 r3 g fr fw fe r w

theorem return_val (p q x : Int) (w : World) (hx : rtv p q = x) : Calls Try.prog 19 #[.int .i64 p, .int .i64 q] w fun e w' => e = .returned (.int .i64 x) ∧ w = w' := by
  rw [← hx]
  exact return_any p q w

theorem may_not (r1 r2 r3 g : Int) (w : World) (h : bmay r1 r2 r3 g = false) : Calls Try.prog 13 #[BV r1 r2 r3 g] w fun e w' => e = .returned (.bool false) ∧ Below w.heap.size w w' :=
  (may_no r1 r2 r3 g w h).mono fun _ _ h => ⟨h.1, h.2 ▸ one_new _ _⟩

/-- a block holds a row of numbers -/
def NumsAt (W : World) (b : Nat) (l : List Int) : Prop := b < W.heap.size ∧ ∀ (j : Nat) (v : Int), l[j]? = some v → W.cell? ⟨b, j, none⟩ = some (.int .i64 v)
theorem nums_below {W V : World} {b : Nat} {l : List Int} (hb : Below W.heap.size W V) (h : NumsAt W b l) : NumsAt V b l :=
  ⟨Nat.lt_of_lt_of_le h.1 hb.size, fun j v hv => (hb.cell (p := ⟨b, j, none⟩) h.1).trans (h.2 j v hv)⟩
theorem nums8 {W : World} {b : Nat} {c0 c1 c2 c3 c4 c5 c6 c7 : Int} (hb : b < W.heap.size) (h0 : W.cell? ⟨b, 0, none⟩ = some (.int .i64 c0)) (h1 : W.cell? ⟨b, 1, none⟩ = some (.int .i64 c1)) (h2 : W.cell? ⟨b, 2, none⟩ = some (.int .i64 c2)) (h3 : W.cell? ⟨b, 3, none⟩ = some (.int .i64 c3))
    (h4 : W.cell? ⟨b, 4, none⟩ = some (.int .i64 c4)) (h5 : W.cell? ⟨b, 5, none⟩ = some (.int .i64 c5)) (h6 : W.cell? ⟨b, 6, none⟩ = some (.int .i64 c6)) (h7 : W.cell? ⟨b, 7, none⟩ = some (.int .i64 c7)) : NumsAt W b [c0, c1, c2, c3, c4, c5, c6, c7] := by
  refine ⟨hb, fun j v hv => ?_⟩
  match j with
  | 0 => cases hv; exact h0
  | 1 => cases hv; exact h1
  | 2 => cases hv; exact h2
  | 3 => cases hv; exact h3
  | 4 => cases hv; exact h4
  | 5 => cases hv; exact h5
  | 6 => cases hv; exact h6
  | 7 => cases hv; exact h7
  | n + 8 => simp at hv

/-- what the loop keeps: brackets, flags, two rows, and nothing older changed -/
def KnownHeld (w : World) (b f p q : Nat) (W : World) : Prop :=
  Held w b f 2 4 6 2 true true true W ∧ NumsAt W p [10, 10, 0, 0, 0, 0, 0, 10] ∧ NumsAt W q [0, 0, 2, 3, 4, 4, 4, 0]
theorem known_below {w : World} {b f p q : Nat} {W V : World} (h : KnownHeld w b f p q W) (hb : Below W.heap.size W V) : KnownHeld w b f p q V :=
  ⟨held_below h.1 hb, nums_below hb h.2.1, nums_below hb h.2.2⟩

theorem known_start {w w1 : World} (h1 : Below w.heap.size w w1) :
    KnownHeld w (w1.heap.size + 1) w1.heap.size (w1.heap.size + 1 + 1) (w1.heap.size + 1 + 1 + 1)
      ((((w1.alloc (FO true true true)).alloc (BO 2 4 6 2)).alloc (.cells #[.int .i64 10, .int .i64 10, .int .i64 0, .int .i64 0, .int .i64 0, .int .i64 0, .int .i64 0, .int .i64 10] 3)).alloc (.cells #[.int .i64 0, .int .i64 0, .int .i64 2, .int .i64 3, .int .i64 4, .int .i64 4, .int .i64 4, .int .i64 0] 3)) := by
  refine ⟨⟨⟨by simp <;> omega, ?_, ?_, ?_, ?_⟩, ⟨by simp <;> omega, ?_, ?_, ?_⟩, ?_⟩, nums8 (by simp) ?_ ?_ ?_ ?_ ?_ ?_ ?_ ?_, nums8 (by simp) ?_ ?_ ?_ ?_ ?_ ?_ ?_ ?_⟩
  case refine_8 => exact bel2 h1 ((three_new0 _ _ _ _).alloc (by simp; omega) _)
  all_goals simp [go_sem]

set_option maxRecDepth 4000 in
set_option maxHeartbeats 4000000 in
theorem known_walk (w : World) :
    Calls Try.prog 6 #[] w fun e w' => e = .returned (.bool true) ∧ Below w.heap.size w w' := by
  go_enter Try.func6, Try.ntmps6
  go_wp2_with (go_at_call 10; ((with_reducible refine (awake_any _).mono ?_); rintro e w1 ⟨rfl, h1⟩))

  have H := known_start h1
  clear h1
  generalize w1.heap.size + 1 + 1 + 1 = Q at *
  generalize w1.heap.size + 1 + 1 = P at *
  generalize w1.heap.size + 1 = B at *
  generalize w1.heap.size = F at *
  go_loopw [5] (fun i W => ∃ k : Int, 0 ≤ k ∧ k ≤ 8 ∧ i = .int .i64 k ∧ KnownHeld w B F P Q W) (fun i _ => 8 - (intOf i).toNat)
  case atStart => exact ⟨0, by omega, by omega, rfl, H⟩
  case round =>
    clear H
    obtain ⟨k, k0, k8, rfl, H⟩ := hrel
    have hk : k = 0 ∨ k = 1 ∨ k = 2 ∨ k = 3 ∨ k = 4 ∨ k = 5 ∨ k = 6 ∨ k = 7 ∨ k = 8 := by omega
    clear k0 k8
    rcases hk with rfl | rfl | rfl | rfl | rfl | rfl | rfl | rfl | rfl
    · obtain ⟨⟨⟨z, x0, x1, x2, x3⟩, ⟨zf, y0, y1, y2⟩, hb⟩, hp, hq⟩ := id H
      have np := hp.1
      have nq := hq.1
      have cp := hp.2 0 _ rfl
      have cq := hq.2 0 _ rfl
      go_wp2_with (first
        | (go_at_call 11; ((with_reducible refine (call_val 2 4 6 2 true true true 0 1 0 10 _ (by decide) (by decide)).mono ?_); rintro e w2 ⟨rfl, h2⟩; have H := known_below H h2; obtain ⟨⟨⟨z, x0, x1, x2, x3⟩, ⟨zf, y0, y1, y2⟩, hb⟩, hp, hq⟩ := id H; have np := hp.1; have nq := hq.1; have cp := hp.2 0 _ rfl; have cq := hq.2 0 _ rfl))
        | (go_at_call 15; ((with_reducible refine (read_val 2 4 6 2 true true true 0 0 _ (by decide)).mono ?_); rintro e w2 ⟨rfl, h2⟩; have H := known_below H h2; obtain ⟨⟨⟨z, x0, x1, x2, x3⟩, ⟨zf, y0, y1, y2⟩, hb⟩, hp, hq⟩ := id H; have np := hp.1; have nq := hq.1; have cp := hp.2 0 _ rfl; have cq := hq.2 0 _ rfl))
        | (go_at_call 17; ((with_reducible refine (write_val 2 4 6 2 true true true 0 0 _ (by decide)).mono ?_); rintro e w2 ⟨rfl, h2⟩; have H := known_below H h2; obtain ⟨⟨⟨z, x0, x1, x2, x3⟩, ⟨zf, y0, y1, y2⟩, hb⟩, hp, hq⟩ := id H; have np := hp.1; have nq := hq.1; have cp := hp.2 0 _ rfl; have cq := hq.2 0 _ rfl))
        | (go_at_call 18; ((with_reducible refine (execute_val 2 4 6 2 true true true 0 10 _ (by decide)).mono ?_); rintro e w2 ⟨rfl, h2⟩; have H := known_below H h2; obtain ⟨⟨⟨z, x0, x1, x2, x3⟩, ⟨zf, y0, y1, y2⟩, hb⟩, hp, hq⟩ := id H; have np := hp.1; have nq := hq.1; have cp := hp.2 0 _ rfl; have cq := hq.2 0 _ rfl)))
      go_roundw
      case rel => exact ⟨1, by omega, by omega, rfl, H⟩
      case measure => simp [intOf]
    · obtain ⟨⟨⟨z, x0, x1, x2, x3⟩, ⟨zf, y0, y1, y2⟩, hb⟩, hp, hq⟩ := id H
      have np := hp.1
      have nq := hq.1
      have cp := hp.2 1 _ rfl
      have cq := hq.2 1 _ rfl
      go_wp2_with (first
        | (go_at_call 11; ((with_reducible refine (call_val 2 4 6 2 true true true 1 1 0 10 _ (by decide) (by decide)).mono ?_); rintro e w2 ⟨rfl, h2⟩; have H := known_below H h2; obtain ⟨⟨⟨z, x0, x1, x2, x3⟩, ⟨zf, y0, y1, y2⟩, hb⟩, hp, hq⟩ := id H; have np := hp.1; have nq := hq.1; have cp := hp.2 1 _ rfl; have cq := hq.2 1 _ rfl))
        | (go_at_call 15; ((with_reducible refine (read_val 2 4 6 2 true true true 1 0 _ (by decide)).mono ?_); rintro e w2 ⟨rfl, h2⟩; have H := known_below H h2; obtain ⟨⟨⟨z, x0, x1, x2, x3⟩, ⟨zf, y0, y1, y2⟩, hb⟩, hp, hq⟩ := id H; have np := hp.1; have nq := hq.1; have cp := hp.2 1 _ rfl; have cq := hq.2 1 _ rfl))
        | (go_at_call 17; ((with_reducible refine (write_val 2 4 6 2 true true true 1 0 _ (by decide)).mono ?_); rintro e w2 ⟨rfl, h2⟩; have H := known_below H h2; obtain ⟨⟨⟨z, x0, x1, x2, x3⟩, ⟨zf, y0, y1, y2⟩, hb⟩, hp, hq⟩ := id H; have np := hp.1; have nq := hq.1; have cp := hp.2 1 _ rfl; have cq := hq.2 1 _ rfl))
        | (go_at_call 18; ((with_reducible refine (execute_val 2 4 6 2 true true true 1 10 _ (by decide)).mono ?_); rintro e w2 ⟨rfl, h2⟩; have H := known_below H h2; obtain ⟨⟨⟨z, x0, x1, x2, x3⟩, ⟨zf, y0, y1, y2⟩, hb⟩, hp, hq⟩ := id H; have np := hp.1; have nq := hq.1; have cp := hp.2 1 _ rfl; have cq := hq.2 1 _ rfl)))
      go_roundw
      case rel => exact ⟨2, by omega, by omega, rfl, H⟩
      case measure => simp [intOf]
    · obtain ⟨⟨⟨z, x0, x1, x2, x3⟩, ⟨zf, y0, y1, y2⟩, hb⟩, hp, hq⟩ := id H
      have np := hp.1
      have nq := hq.1
      have cp := hp.2 2 _ rfl
      have cq := hq.2 2 _ rfl
      go_wp2_with (first
        | (go_at_call 11; ((with_reducible refine (call_val 2 4 6 2 true true true 2 1 2 0 _ (by decide) (by decide)).mono ?_); rintro e w2 ⟨rfl, h2⟩; have H := known_below H h2; obtain ⟨⟨⟨z, x0, x1, x2, x3⟩, ⟨zf, y0, y1, y2⟩, hb⟩, hp, hq⟩ := id H; have np := hp.1; have nq := hq.1; have cp := hp.2 2 _ rfl; have cq := hq.2 2 _ rfl))
        | (go_at_call 15; ((with_reducible refine (read_val 2 4 6 2 true true true 2 0 _ (by decide)).mono ?_); rintro e w2 ⟨rfl, h2⟩; have H := known_below H h2; obtain ⟨⟨⟨z, x0, x1, x2, x3⟩, ⟨zf, y0, y1, y2⟩, hb⟩, hp, hq⟩ := id H; have np := hp.1; have nq := hq.1; have cp := hp.2 2 _ rfl; have cq := hq.2 2 _ rfl))
        | (go_at_call 17; ((with_reducible refine (write_val 2 4 6 2 true true true 2 0 _ (by decide)).mono ?_); rintro e w2 ⟨rfl, h2⟩; have H := known_below H h2; obtain ⟨⟨⟨z, x0, x1, x2, x3⟩, ⟨zf, y0, y1, y2⟩, hb⟩, hp, hq⟩ := id H; have np := hp.1; have nq := hq.1; have cp := hp.2 2 _ rfl; have cq := hq.2 2 _ rfl))
        | (go_at_call 18; ((with_reducible refine (execute_val 2 4 6 2 true true true 2 0 _ (by decide)).mono ?_); rintro e w2 ⟨rfl, h2⟩; have H := known_below H h2; obtain ⟨⟨⟨z, x0, x1, x2, x3⟩, ⟨zf, y0, y1, y2⟩, hb⟩, hp, hq⟩ := id H; have np := hp.1; have nq := hq.1; have cp := hp.2 2 _ rfl; have cq := hq.2 2 _ rfl)))
      go_roundw
      case rel => exact ⟨3, by omega, by omega, rfl, H⟩
      case measure => simp [intOf]
    · obtain ⟨⟨⟨z, x0, x1, x2, x3⟩, ⟨zf, y0, y1, y2⟩, hb⟩, hp, hq⟩ := id H
      have np := hp.1
      have nq := hq.1
      have cp := hp.2 3 _ rfl
      have cq := hq.2 3 _ rfl
      go_wp2_with (first
        | (go_at_call 11; ((with_reducible refine (call_val 2 4 6 2 true true true 3 1 3 0 _ (by decide) (by decide)).mono ?_); rintro e w2 ⟨rfl, h2⟩; have H := known_below H h2; obtain ⟨⟨⟨z, x0, x1, x2, x3⟩, ⟨zf, y0, y1, y2⟩, hb⟩, hp, hq⟩ := id H; have np := hp.1; have nq := hq.1; have cp := hp.2 3 _ rfl; have cq := hq.2 3 _ rfl))
        | (go_at_call 15; ((with_reducible refine (read_val 2 4 6 2 true true true 3 0 _ (by decide)).mono ?_); rintro e w2 ⟨rfl, h2⟩; have H := known_below H h2; obtain ⟨⟨⟨z, x0, x1, x2, x3⟩, ⟨zf, y0, y1, y2⟩, hb⟩, hp, hq⟩ := id H; have np := hp.1; have nq := hq.1; have cp := hp.2 3 _ rfl; have cq := hq.2 3 _ rfl))
        | (go_at_call 17; ((with_reducible refine (write_val 2 4 6 2 true true true 3 10 _ (by decide)).mono ?_); rintro e w2 ⟨rfl, h2⟩; have H := known_below H h2; obtain ⟨⟨⟨z, x0, x1, x2, x3⟩, ⟨zf, y0, y1, y2⟩, hb⟩, hp, hq⟩ := id H; have np := hp.1; have nq := hq.1; have cp := hp.2 3 _ rfl; have cq := hq.2 3 _ rfl))
        | (go_at_call 18; ((with_reducible refine (execute_val 2 4 6 2 true true true 3 0 _ (by decide)).mono ?_); rintro e w2 ⟨rfl, h2⟩; have H := known_below H h2; obtain ⟨⟨⟨z, x0, x1, x2, x3⟩, ⟨zf, y0, y1, y2⟩, hb⟩, hp, hq⟩ := id H; have np := hp.1; have nq := hq.1; have cp := hp.2 3 _ rfl; have cq := hq.2 3 _ rfl)))
      go_roundw
      case rel => exact ⟨4, by omega, by omega, rfl, H⟩
      case measure => simp [intOf]
    · obtain ⟨⟨⟨z, x0, x1, x2, x3⟩, ⟨zf, y0, y1, y2⟩, hb⟩, hp, hq⟩ := id H
      have np := hp.1
      have nq := hq.1
      have cp := hp.2 4 _ rfl
      have cq := hq.2 4 _ rfl
      go_wp2_with (first
        | (go_at_call 11; ((with_reducible refine (call_val 2 4 6 2 true true true 4 1 4 0 _ (by decide) (by decide)).mono ?_); rintro e w2 ⟨rfl, h2⟩; have H := known_below H h2; obtain ⟨⟨⟨z, x0, x1, x2, x3⟩, ⟨zf, y0, y1, y2⟩, hb⟩, hp, hq⟩ := id H; have np := hp.1; have nq := hq.1; have cp := hp.2 4 _ rfl; have cq := hq.2 4 _ rfl))
        | (go_at_call 15; ((with_reducible refine (read_val 2 4 6 2 true true true 4 0 _ (by decide)).mono ?_); rintro e w2 ⟨rfl, h2⟩; have H := known_below H h2; obtain ⟨⟨⟨z, x0, x1, x2, x3⟩, ⟨zf, y0, y1, y2⟩, hb⟩, hp, hq⟩ := id H; have np := hp.1; have nq := hq.1; have cp := hp.2 4 _ rfl; have cq := hq.2 4 _ rfl))
        | (go_at_call 17; ((with_reducible refine (write_val 2 4 6 2 true true true 4 10 _ (by decide)).mono ?_); rintro e w2 ⟨rfl, h2⟩; have H := known_below H h2; obtain ⟨⟨⟨z, x0, x1, x2, x3⟩, ⟨zf, y0, y1, y2⟩, hb⟩, hp, hq⟩ := id H; have np := hp.1; have nq := hq.1; have cp := hp.2 4 _ rfl; have cq := hq.2 4 _ rfl))
        | (go_at_call 18; ((with_reducible refine (execute_val 2 4 6 2 true true true 4 0 _ (by decide)).mono ?_); rintro e w2 ⟨rfl, h2⟩; have H := known_below H h2; obtain ⟨⟨⟨z, x0, x1, x2, x3⟩, ⟨zf, y0, y1, y2⟩, hb⟩, hp, hq⟩ := id H; have np := hp.1; have nq := hq.1; have cp := hp.2 4 _ rfl; have cq := hq.2 4 _ rfl)))
      go_roundw
      case rel => exact ⟨5, by omega, by omega, rfl, H⟩
      case measure => simp [intOf]
    · obtain ⟨⟨⟨z, x0, x1, x2, x3⟩, ⟨zf, y0, y1, y2⟩, hb⟩, hp, hq⟩ := id H
      have np := hp.1
      have nq := hq.1
      have cp := hp.2 5 _ rfl
      have cq := hq.2 5 _ rfl
      go_wp2_with (first
        | (go_at_call 11; ((with_reducible refine (call_val 2 4 6 2 true true true 5 1 4 0 _ (by decide) (by decide)).mono ?_); rintro e w2 ⟨rfl, h2⟩; have H := known_below H h2; obtain ⟨⟨⟨z, x0, x1, x2, x3⟩, ⟨zf, y0, y1, y2⟩, hb⟩, hp, hq⟩ := id H; have np := hp.1; have nq := hq.1; have cp := hp.2 5 _ rfl; have cq := hq.2 5 _ rfl))
        | (go_at_call 15; ((with_reducible refine (read_val 2 4 6 2 true true true 5 10 _ (by decide)).mono ?_); rintro e w2 ⟨rfl, h2⟩; have H := known_below H h2; obtain ⟨⟨⟨z, x0, x1, x2, x3⟩, ⟨zf, y0, y1, y2⟩, hb⟩, hp, hq⟩ := id H; have np := hp.1; have nq := hq.1; have cp := hp.2 5 _ rfl; have cq := hq.2 5 _ rfl))
        | (go_at_call 17; ((with_reducible refine (write_val 2 4 6 2 true true true 5 10 _ (by decide)).mono ?_); rintro e w2 ⟨rfl, h2⟩; have H := known_below H h2; obtain ⟨⟨⟨z, x0, x1, x2, x3⟩, ⟨zf, y0, y1, y2⟩, hb⟩, hp, hq⟩ := id H; have np := hp.1; have nq := hq.1; have cp := hp.2 5 _ rfl; have cq := hq.2 5 _ rfl))
        | (go_at_call 18; ((with_reducible refine (execute_val 2 4 6 2 true true true 5 10 _ (by decide)).mono ?_); rintro e w2 ⟨rfl, h2⟩; have H := known_below H h2; obtain ⟨⟨⟨z, x0, x1, x2, x3⟩, ⟨zf, y0, y1, y2⟩, hb⟩, hp, hq⟩ := id H; have np := hp.1; have nq := hq.1; have cp := hp.2 5 _ rfl; have cq := hq.2 5 _ rfl)))
      go_roundw
      case rel => exact ⟨6, by omega, by omega, rfl, H⟩
      case measure => simp [intOf]
    · obtain ⟨⟨⟨z, x0, x1, x2, x3⟩, ⟨zf, y0, y1, y2⟩, hb⟩, hp, hq⟩ := id H
      have np := hp.1
      have nq := hq.1
      have cp := hp.2 6 _ rfl
      have cq := hq.2 6 _ rfl
      go_wp2_with (first
        | (go_at_call 11; ((with_reducible refine (call_val 2 4 6 2 true true true 6 1 4 0 _ (by decide) (by decide)).mono ?_); rintro e w2 ⟨rfl, h2⟩; have H := known_below H h2; obtain ⟨⟨⟨z, x0, x1, x2, x3⟩, ⟨zf, y0, y1, y2⟩, hb⟩, hp, hq⟩ := id H; have np := hp.1; have nq := hq.1; have cp := hp.2 6 _ rfl; have cq := hq.2 6 _ rfl))
        | (go_at_call 15; ((with_reducible refine (read_val 2 4 6 2 true true true 6 10 _ (by decide)).mono ?_); rintro e w2 ⟨rfl, h2⟩; have H := known_below H h2; obtain ⟨⟨⟨z, x0, x1, x2, x3⟩, ⟨zf, y0, y1, y2⟩, hb⟩, hp, hq⟩ := id H; have np := hp.1; have nq := hq.1; have cp := hp.2 6 _ rfl; have cq := hq.2 6 _ rfl))
        | (go_at_call 17; ((with_reducible refine (write_val 2 4 6 2 true true true 6 10 _ (by decide)).mono ?_); rintro e w2 ⟨rfl, h2⟩; have H := known_below H h2; obtain ⟨⟨⟨z, x0, x1, x2, x3⟩, ⟨zf, y0, y1, y2⟩, hb⟩, hp, hq⟩ := id H; have np := hp.1; have nq := hq.1; have cp := hp.2 6 _ rfl; have cq := hq.2 6 _ rfl))
        | (go_at_call 18; ((with_reducible refine (execute_val 2 4 6 2 true true true 6 10 _ (by decide)).mono ?_); rintro e w2 ⟨rfl, h2⟩; have H := known_below H h2; obtain ⟨⟨⟨z, x0, x1, x2, x3⟩, ⟨zf, y0, y1, y2⟩, hb⟩, hp, hq⟩ := id H; have np := hp.1; have nq := hq.1; have cp := hp.2 6 _ rfl; have cq := hq.2 6 _ rfl)))
      go_roundw
      case rel => exact ⟨7, by omega, by omega, rfl, H⟩
      case measure => simp [intOf]
    · obtain ⟨⟨⟨z, x0, x1, x2, x3⟩, ⟨zf, y0, y1, y2⟩, hb⟩, hp, hq⟩ := id H
      have np := hp.1
      have nq := hq.1
      have cp := hp.2 7 _ rfl
      have cq := hq.2 7 _ rfl
      go_wp2_with (first
        | (go_at_call 11; ((with_reducible refine (call_val 2 4 6 2 true true true 7 1 0 10 _ (by decide) (by decide)).mono ?_); rintro e w2 ⟨rfl, h2⟩; have H := known_below H h2; obtain ⟨⟨⟨z, x0, x1, x2, x3⟩, ⟨zf, y0, y1, y2⟩, hb⟩, hp, hq⟩ := id H; have np := hp.1; have nq := hq.1; have cp := hp.2 7 _ rfl; have cq := hq.2 7 _ rfl))
        | (go_at_call 15; ((with_reducible refine (read_val 2 4 6 2 true true true 7 10 _ (by decide)).mono ?_); rintro e w2 ⟨rfl, h2⟩; have H := known_below H h2; obtain ⟨⟨⟨z, x0, x1, x2, x3⟩, ⟨zf, y0, y1, y2⟩, hb⟩, hp, hq⟩ := id H; have np := hp.1; have nq := hq.1; have cp := hp.2 7 _ rfl; have cq := hq.2 7 _ rfl))
        | (go_at_call 17; ((with_reducible refine (write_val 2 4 6 2 true true true 7 10 _ (by decide)).mono ?_); rintro e w2 ⟨rfl, h2⟩; have H := known_below H h2; obtain ⟨⟨⟨z, x0, x1, x2, x3⟩, ⟨zf, y0, y1, y2⟩, hb⟩, hp, hq⟩ := id H; have np := hp.1; have nq := hq.1; have cp := hp.2 7 _ rfl; have cq := hq.2 7 _ rfl))
        | (go_at_call 18; ((with_reducible refine (execute_val 2 4 6 2 true true true 7 10 _ (by decide)).mono ?_); rintro e w2 ⟨rfl, h2⟩; have H := known_below H h2; obtain ⟨⟨⟨z, x0, x1, x2, x3⟩, ⟨zf, y0, y1, y2⟩, hb⟩, hp, hq⟩ := id H; have np := hp.1; have nq := hq.1; have cp := hp.2 7 _ rfl; have cq := hq.2 7 _ rfl)))
      go_roundw
      case rel => exact ⟨8, by omega, by omega, rfl, H⟩
      case measure => simp [intOf]
    · obtain ⟨⟨⟨z, x0, x1, x2, x3⟩, ⟨zf, y0, y1, y2⟩, hb⟩, hp, hq⟩ := id H
      go_wp2_with (first
        | (go_at_call 11; ((with_reducible refine (call_val 2 4 6 2 true true true 5 2 0 11 _ (by decide) (by decide)).mono ?_); rintro e w2 ⟨rfl, h2⟩; have H := known_below H h2; obtain ⟨⟨⟨z, x0, x1, x2, x3⟩, ⟨zf, y0, y1, y2⟩, hb⟩, hp, hq⟩ := id H))
        | (go_at_call 11; ((with_reducible refine (call_val 2 4 6 2 true true true 5 (-1) 0 11 _ (by decide) (by decide)).mono ?_); rintro e w2 ⟨rfl, h2⟩; have H := known_below H h2; obtain ⟨⟨⟨z, x0, x1, x2, x3⟩, ⟨zf, y0, y1, y2⟩, hb⟩, hp, hq⟩ := id H))
        | (go_at_call 11; ((with_reducible refine (call_val 2 4 6 2 true true false 1 0 0 9 _ (by decide) (by decide)).mono ?_); rintro e w2 ⟨rfl, h2⟩; have H := known_below H h2; obtain ⟨⟨⟨z, x0, x1, x2, x3⟩, ⟨zf, y0, y1, y2⟩, hb⟩, hp, hq⟩ := id H))
        | (go_at_call 11; ((with_reducible refine (call_val 3 2 4 0 false false false 3 0 0 1 _ (by decide) (by decide)).mono ?_); rintro e w2 ⟨rfl, h2⟩; have H := known_below H h2; obtain ⟨⟨⟨z, x0, x1, x2, x3⟩, ⟨zf, y0, y1, y2⟩, hb⟩, hp, hq⟩ := id H))
        | (go_at_call 13; ((with_reducible refine (may_not 0 0 8 0 _ (by decide)).mono ?_); rintro e w2 ⟨rfl, h2⟩; have H := known_below H h2; obtain ⟨⟨⟨z, x0, x1, x2, x3⟩, ⟨zf, y0, y1, y2⟩, hb⟩, hp, hq⟩ := id H))
        | (go_at_call 13; ((with_reducible refine (may_not 0 0 0 (-1) _ (by decide)).mono ?_); rintro e w2 ⟨rfl, h2⟩; have H := known_below H h2; obtain ⟨⟨⟨z, x0, x1, x2, x3⟩, ⟨zf, y0, y1, y2⟩, hb⟩, hp, hq⟩ := id H))
        | (go_at_call 13; ((with_reducible refine (may_not 0 0 0 1025 _ (by decide)).mono ?_); rintro e w2 ⟨rfl, h2⟩; have H := known_below H h2; obtain ⟨⟨⟨z, x0, x1, x2, x3⟩, ⟨zf, y0, y1, y2⟩, hb⟩, hp, hq⟩ := id H))
        | (go_at_call 15; ((with_reducible refine (read_val 2 4 6 2 true true true 8 1 _ (by decide)).mono ?_); rintro e w2 ⟨rfl, h2⟩; have H := known_below H h2; obtain ⟨⟨⟨z, x0, x1, x2, x3⟩, ⟨zf, y0, y1, y2⟩, hb⟩, hp, hq⟩ := id H))
        | (go_at_call 19; ((with_reducible refine (return_val (-3) 99 7 _ (by decide)).mono ?_); rintro e w2 ⟨rfl, rfl⟩)))
      go_ret
      exact ⟨rfl, H.1.2.2⟩

end Go.Proofs.Ytfngdlahbmaebaa.W
