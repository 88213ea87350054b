/-
  The methods of a store, each over numbers and by its way (it goes, no room, no such size, no such segment, out of bounds); and the law's own example of the document (its function awake).
-/
import Derived.Test.YtaffbjopckajnaaSMake
namespace Go.Proofs.Ytaffbjopckajnaa.W
open Go.ChangeShapes Go.WideShapes Go.ChangeAt Go.RowKit

theorem new_at {q : Int} (hq : 0 ≤ q) (w : World) : Calls Try.prog 8 #[.int .i64 q] w fun e w' => e = .returned (SP w.heap.size) ∧ StoreAt w' w.heap.size (fun i => i = w.heap.size) q 0 0 0 (fun _ => none) ∧ Below w.heap.size w w' ∧ w.heap.size < w'.heap.size := by
  refine (new_any q w).mono fun e w' h => ?_
  obtain ⟨rfl, rfl⟩ := h
  rw [show max q 0 = q by omega]
  exact ⟨rfl, store_new w q, (Below.refl _ _).alloc (Nat.le_refl _) _, by simp⟩

theorem new_low {q : Int} (hq : q ≤ 0) (w : World) : Calls Try.prog 8 #[.int .i64 q] w fun e w' => e = .returned (SP w.heap.size) ∧ StoreAt w' w.heap.size (fun i => i = w.heap.size) 0 0 0 0 (fun _ => none) ∧ Below w.heap.size w w' ∧ w.heap.size < w'.heap.size := by
  refine (new_any q w).mono fun e w' h => ?_
  obtain ⟨rfl, rfl⟩ := h
  rw [show max q 0 = 0 by omega]
  exact ⟨rfl, store_new w 0, (Below.refl _ _).alloc (Nat.le_refl _) _, by simp⟩

section
variable {w : World} {b : Nat} {F : Nat → Prop} {q u l : Int} {c : Nat} {S : Int → Option (List Int)}

theorem used_at (h : StoreAt w b F q u l c S) : Calls Try.prog 14 #[SP b] w fun e w' => e = .returned (.int .i64 u) ∧ w = w' := by
  obtain ⟨m, loc, h⟩ := h
  exact used_any h

theorem make_at (h : StoreAt w b F q u l c S) {n : Int} (n0 : 0 ≤ n) (hn : n ≤ 1024) (hq : n ≤ q - u) (hc : c < 4611686018427387904) (l0 : 0 ≤ l) (l1 : l < 4611686018427387904) (u0 : 0 ≤ u) (uq : u ≤ q) (q1 : q ≤ 9223372036854774000) :
    Calls Try.prog 9 #[SP b, .int .i64 n] w fun e w' => e = .returned (.tuple #[.int .i64 (l + 1), .int .i64 0]) ∧ ∃ F', StoreAt w' b F' q (u + n) (l + 1) (c + 1) (upd S (l + 1) (some (List.replicate n.toNat 0))) ∧ Went F w F' w' := by
  obtain ⟨k, rfl⟩ := Int.eq_ofNat_of_zero_le n0
  exact make_yes h k (by omega) hq hc l0 l1 u0 uq q1

theorem make_quota (h : StoreAt w b F q u l c S) {n : Int} (n0 : 0 ≤ n) (hn : n ≤ 1024) (hq : q - u < n) (u0 : 0 ≤ u) (uq : u ≤ q) (q1 : q ≤ 9223372036854774000) :
    Calls Try.prog 9 #[SP b, .int .i64 n] w fun e w' => e = .returned (.tuple #[.int .i64 0, .int .i64 6]) ∧ StoreAt w' b F q u l c S ∧ Went F w F w' := by
  have f : fitE q u 0 n = 6 := by unfold fitE; rw [if_neg (by omega), if_pos (by omega)]
  have := make_no h n (by rw [f]; decide) u0 uq q1
  rw [f] at this
  exact this

theorem make_arg (h : StoreAt w b F q u l c S) {n : Int} (hn : n < 0 ∨ 1024 < n) (u0 : 0 ≤ u) (uq : u ≤ q) (q1 : q ≤ 9223372036854774000) :
    Calls Try.prog 9 #[SP b, .int .i64 n] w fun e w' => e = .returned (.tuple #[.int .i64 0, .int .i64 1]) ∧ StoreAt w' b F q u l c S ∧ Went F w F w' := by
  have f : fitE q u 0 n = 1 := by unfold fitE; rw [if_pos hn]
  have := make_no h n (by rw [f]; decide) u0 uq q1
  rw [f] at this
  exact this

theorem resize_at (h : StoreAt w b F q u l c S) {k : Int} (h0 : -9223372036854775808 ≤ k) (h1 : k ≤ 9223372036854775807) {ws : List Int} (hS : S k = some ws) {n : Int} (n0 : 0 ≤ n) (hn : n ≤ 1024) (hq : n - ws.length ≤ q - u) (hc : c < 4611686018427387904) (u0 : 0 ≤ u) (uq : u ≤ q) (q1 : q ≤ 9223372036854774000) :
    Calls Try.prog 11 #[SP b, .int .i64 k, .int .i64 n] w fun e w' => e = .returned (.int .i64 0) ∧ ∃ F', StoreAt w' b F' q (u + (n - ws.length)) l (c + 1) (upd S k (some (rez ws n.toNat))) ∧ Went F w F' w' := by
  obtain ⟨j, rfl⟩ := Int.eq_ofNat_of_zero_le n0
  exact resize_yes h h0 h1 hS j (by omega) hq hc u0 uq q1

theorem resize_quota (h : StoreAt w b F q u l c S) {k : Int} (h0 : -9223372036854775808 ≤ k) (h1 : k ≤ 9223372036854775807) {ws : List Int} (hS : S k = some ws) {n : Int} (n0 : 0 ≤ n) (hn : n ≤ 1024) (hq : q - u < n - ws.length) (u0 : 0 ≤ u) (uq : u ≤ q) (q1 : q ≤ 9223372036854774000) :
    Calls Try.prog 11 #[SP b, .int .i64 k, .int .i64 n] w fun e w' => e = .returned (.int .i64 6) ∧ StoreAt w' b F q u l c S ∧ Went F w F w' := by
  have f : fitE q u ws.length n = 6 := by unfold fitE; rw [if_neg (by omega), if_pos (by omega)]
  have := resize_no h h0 h1 hS n (by rw [f]; decide) u0 uq q1
  rw [f] at this
  exact this

theorem size_at (h : StoreAt w b F q u l c S) {k : Int} (h0 : -9223372036854775808 ≤ k) (h1 : k ≤ 9223372036854775807) {ws : List Int} (hS : S k = some ws) :
    Calls Try.prog 15 #[SP b, .int .i64 k] w fun e w' => e = .returned (.tuple #[.int .i64 ws.length, .int .i64 0]) ∧ w = w' := by
  obtain ⟨m, loc, h⟩ := h
  exact size_yes h h0 h1 hS

theorem read_at (h : StoreAt w b F q u l c S) {k o : Int} (h0 : -9223372036854775808 ≤ k) (h1 : k ≤ 9223372036854775807) {ws : List Int} (hS : S k = some ws) (o0 : 0 ≤ o) (o1 : o < (ws.length : Int)) :
    Calls Try.prog 12 #[SP b, .int .i64 k, .int .i64 o] w fun e w' => e = .returned (.tuple #[.int .u64 (ws.getD o.toNat 0), .int .i64 0]) ∧ w = w' := by
  obtain ⟨m, loc, h⟩ := h
  exact read_yes h h0 h1 hS o0 o1

theorem write_at (h : StoreAt w b F q u l c S) {k o x : Int} (h0 : -9223372036854775808 ≤ k) (h1 : k ≤ 9223372036854775807) {ws : List Int} (hS : S k = some ws) (o0 : 0 ≤ o) (o1 : o < (ws.length : Int)) :
    Calls Try.prog 10 #[SP b, .int .i64 k, .int .i64 o, .int .u64 x] w fun e w' => e = .returned (.int .i64 0) ∧ StoreAt w' b F q u l c (upd S k (some (ws.set o.toNat (msk x)))) ∧ Went F w F w' := by
  obtain ⟨m, loc, h⟩ := h
  refine (write_yes h x h0 h1 hS o0 o1).mono fun e w' hw => ?_
  obtain ⟨rfl, rfl⟩ := hw
  exact ⟨rfl, ⟨_, _, h.write hS (msk x)⟩, (Went.refl F w).set (h.rows k ws hS).2.1⟩

theorem write_out (h : StoreAt w b F q u l c S) {k o x : Int} (h0 : -9223372036854775808 ≤ k) (h1 : k ≤ 9223372036854775807) {ws : List Int} (hS : S k = some ws) (ho : o < 0 ∨ (ws.length : Int) ≤ o) :
    Calls Try.prog 10 #[SP b, .int .i64 k, .int .i64 o, .int .u64 x] w fun e w' => e = .returned (.int .i64 8) ∧ w = w' := by
  obtain ⟨m, loc, h⟩ := h
  exact write_off h x h0 h1 hS ho

end

/-- one call behind another, seen from the start -/
theorem bel_went {w0 w w' : World} {F F' : Nat → Prop} {B : Nat} (hb : Below B w0 w) (hs : B ≤ w.heap.size) (hw : Went F w F' w') (hF : ∀ i, F i → B ≤ i) : Below B w0 w' := hb.trans (hw.below hF hs)

theorem awake_any (w : World) : Calls Try.prog 7 #[] w fun e w' => e = .returned (.bool true) ∧ Below w.heap.size w w' := by
  go_enter Try.func7, Try.ntmps7
  go_wp2_with (first
    | (go_at_call 8; ((with_reducible refine (new_at (q := 10) (by omega) w).mono ?_); rintro e w1 ⟨rfl, h1, b1, s1⟩))
    | (go_at_call 9; ((with_reducible refine (make_at h1 (n := 8) (by omega) (by omega) (by omega) (by omega) (by omega) (by omega) (by omega) (by omega) (by omega)).mono ?_); rintro e w2 ⟨rfl, F2, h2, x2⟩))
    | (go_at_call 9; ((with_reducible refine (make_quota h2 (n := 3) (by omega) (by omega) (by omega) (by omega) (by omega) (by omega)).mono ?_); rintro e w3 ⟨rfl, h3, x3⟩))
    | (go_at_call 14; ((with_reducible refine (used_at h3).mono ?_); rintro e w4 ⟨rfl, rfl⟩)))
  go_ret
  refine ⟨rfl, ?_⟩
  have hw := x2.trans x3
  exact bel_went b1 b1.size hw (fun i hi => by omega)

end Go.Proofs.Ytaffbjopckajnaa.W
