/-
  The methods of a store, each over numbers and by its way (it goes, no room, no such size, no such segment, out of bounds); and the law's own example of the document (its function awake).
-/
import Derived.Test.YtknfiepbibaklaaDoorSMake
namespace Go.Proofs.YtknfiepbibaklaaDoor.W
open Go.ChangeShapes Go.WideShapes Go.ChangeAt Go.RowKit

theorem new_at {q : Int} (hq : 0 ≤ q) (w : World) : Calls Tryd.prog 9 #[.int .i64 q] w fun e w' => e = .returned (SP w.heap.size) ∧ StoreAt w' w.heap.size (fun i => i = w.heap.size) q 0 0 0 (fun _ => none) ∧ Below w.heap.size w w' ∧ w.heap.size < w'.heap.size := by
  refine (new_any q w).mono fun e w' h => ?_
  obtain ⟨rfl, rfl⟩ := h
  rw [show max q 0 = q by omega]
  exact ⟨rfl, store_new w q, (Below.refl _ _).alloc (Nat.le_refl _) _, by simp⟩

theorem new_low {q : Int} (hq : q ≤ 0) (w : World) : Calls Tryd.prog 9 #[.int .i64 q] w fun e w' => e = .returned (SP w.heap.size) ∧ StoreAt w' w.heap.size (fun i => i = w.heap.size) 0 0 0 0 (fun _ => none) ∧ Below w.heap.size w w' ∧ w.heap.size < w'.heap.size := by
  refine (new_any q w).mono fun e w' h => ?_
  obtain ⟨rfl, rfl⟩ := h
  rw [show max q 0 = 0 by omega]
  exact ⟨rfl, store_new w 0, (Below.refl _ _).alloc (Nat.le_refl _) _, by simp⟩

section
variable {w : World} {b : Nat} {F : Nat → Prop} {q u l : Int} {c : Nat} {S : Int → Option (List Int)}

theorem make_at (h : StoreAt w b F q u l c S) {n : Int} (n0 : 0 ≤ n) (hn : n ≤ 1024) (hq : n ≤ q - u) (hc : c < 4611686018427387904) (l0 : 0 ≤ l) (l1 : l < 4611686018427387904) (u0 : 0 ≤ u) (uq : u ≤ q) (q1 : q ≤ 9223372036854774000) :
    Calls Tryd.prog 10 #[SP b, .int .i64 n] w fun e w' => e = .returned (.tuple #[.int .i64 (l + 1), .int .i64 0]) ∧ ∃ F', StoreAt w' b F' q (u + n) (l + 1) (c + 1) (upd S (l + 1) (some (List.replicate n.toNat 0))) ∧ Went F w F' w' := by
  obtain ⟨k, rfl⟩ := Int.eq_ofNat_of_zero_le n0
  exact make_yes h k (by omega) hq hc l0 l1 u0 uq q1

theorem make_quota (h : StoreAt w b F q u l c S) {n : Int} (n0 : 0 ≤ n) (hn : n ≤ 1024) (hq : q - u < n) (u0 : 0 ≤ u) (uq : u ≤ q) (q1 : q ≤ 9223372036854774000) :
    Calls Tryd.prog 10 #[SP b, .int .i64 n] w fun e w' => e = .returned (.tuple #[.int .i64 0, .int .i64 6]) ∧ StoreAt w' b F q u l c S ∧ Went F w F w' := by
  have f : fitE q u 0 n = 6 := by unfold fitE; rw [if_neg (by omega), if_pos (by omega)]
  have := make_no h n (by rw [f]; decide) u0 uq q1
  rw [f] at this
  exact this

theorem make_arg (h : StoreAt w b F q u l c S) {n : Int} (hn : n < 0 ∨ 1024 < n) (u0 : 0 ≤ u) (uq : u ≤ q) (q1 : q ≤ 9223372036854774000) :
    Calls Tryd.prog 10 #[SP b, .int .i64 n] w fun e w' => e = .returned (.tuple #[.int .i64 0, .int .i64 1]) ∧ StoreAt w' b F q u l c S ∧ Went F w F w' := by
  have f : fitE q u 0 n = 1 := by unfold fitE; rw [if_pos hn]
  have := make_no h n (by rw [f]; decide) u0 uq q1
  rw [f] at this
  exact this

theorem resize_at (h : StoreAt w b F q u l c S) {k : Int} (h0 : -9223372036854775808 ≤ k) (h1 : k ≤ 9223372036854775807) {ws : List Int} (hS : S k = some ws) {n : Int} (n0 : 0 ≤ n) (hn : n ≤ 1024) (hq : n - ws.length ≤ q - u) (hc : c < 4611686018427387904) (u0 : 0 ≤ u) (uq : u ≤ q) (q1 : q ≤ 9223372036854774000) :
    Calls Tryd.prog 24 #[SP b, .int .i64 k, .int .i64 n] w fun e w' => e = .returned (.int .i64 0) ∧ ∃ F', StoreAt w' b F' q (u + (n - ws.length)) l (c + 1) (upd S k (some (rez ws n.toNat))) ∧ Went F w F' w' := by
  obtain ⟨j, rfl⟩ := Int.eq_ofNat_of_zero_le n0
  exact resize_yes h h0 h1 hS j (by omega) hq hc u0 uq q1

theorem resize_quota (h : StoreAt w b F q u l c S) {k : Int} (h0 : -9223372036854775808 ≤ k) (h1 : k ≤ 9223372036854775807) {ws : List Int} (hS : S k = some ws) {n : Int} (n0 : 0 ≤ n) (hn : n ≤ 1024) (hq : q - u < n - ws.length) (u0 : 0 ≤ u) (uq : u ≤ q) (q1 : q ≤ 9223372036854774000) :
    Calls Tryd.prog 24 #[SP b, .int .i64 k, .int .i64 n] w fun e w' => e = .returned (.int .i64 6) ∧ StoreAt w' b F q u l c S ∧ Went F w F w' := by
  have f : fitE q u ws.length n = 6 := by unfold fitE; rw [if_neg (by omega), if_pos (by omega)]
  have := resize_no h h0 h1 hS n (by rw [f]; decide) u0 uq q1
  rw [f] at this
  exact this

theorem size_at (h : StoreAt w b F q u l c S) {k : Int} (h0 : -9223372036854775808 ≤ k) (h1 : k ≤ 9223372036854775807) {ws : List Int} (hS : S k = some ws) :
    Calls Tryd.prog 33 #[SP b, .int .i64 k] w fun e w' => e = .returned (.tuple #[.int .i64 ws.length, .int .i64 0]) ∧ w = w' := by
  obtain ⟨m, loc, h⟩ := h
  exact size_yes h h0 h1 hS

end

/-- one call behind another, seen from the start -/
theorem bel_went {w0 w w' : World} {F F' : Nat → Prop} {B : Nat} (hb : Below B w0 w) (hs : B ≤ w.heap.size) (hw : Went F w F' w') (hF : ∀ i, F i → B ≤ i) : Below B w0 w' := hb.trans (hw.below hF hs)

end Go.Proofs.YtknfiepbibaklaaDoor.W
