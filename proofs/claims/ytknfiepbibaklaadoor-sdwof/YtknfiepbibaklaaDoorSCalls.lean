/-
  What the functions of package store that change nothing answer, and what a copy into new memory is: one contract a function and a way.
-/
import Derived.Test.YtknfiepbibaklaaDoorSHeap
import Derived.Test.YtknfiepbibaklaaDoorMath
import Derived.Laws.CopyOwn
import Derived.Deep.OwnRows
import Derived.Deep.QuietTactic
import Derived.BigQuiet
namespace Go.Proofs.YtknfiepbibaklaaDoor.W
open Go.ChangeShapes Go.WideShapes Go.ChangeAt Go.RowKit

/-- nothing turned but what was drawn -/
structure Same (w w' : World) : Prop where
  heap : w'.heap = w.heap
  os : w'.os = w.os
  tape : w'.tape = w.tape
  output : w'.output = w.output
theorem Same.refl (w : World) : Same w w := ⟨rfl, rfl, rfl, rfl⟩
theorem Same.drewN (w : World) (n : Nat) : Same w (w.drewN n) := ⟨rfl, rfl, rfl, rfl⟩
theorem Same.went {w w' : World} (h : Same w w') (F : Nat → Prop) : Went F w F w' := ⟨h.os, h.tape, h.output, by rw [h.heap]; exact Nat.le_refl _, fun i _ _ => by rw [h.heap], fun _ hi => Or.inl hi⟩
theorem Same.below {w w' : World} (h : Same w w') : Below w.heap.size w w' := ⟨h.os, h.tape, h.output, by rw [h.heap]; exact Nat.le_refl _, fun i _ => by rw [h.heap]⟩
theorem Same.store {w w' : World} (h : Same w w') {b : Nat} {F : Nat → Prop} {q u l : Int} {c : Nat} {S : Int → Option (List Int)} {m : Option Nat} {loc : Int → Nat} (hs : StoreL w b F q u l c S m loc) : StoreL w' b F q u l c S m loc :=
  hs.keep (by rw [h.heap]; exact Nat.le_refl _) (fun i _ => by rw [h.heap])

/-- a word's lowest 36 bits; the words of a segment that is given another size; whether a size fits -/
def msk (x : Int) : Int := bits .and .u64 x 68719476735
def rez (ws : List Int) (n : Nat) : List Int := ws.take n ++ List.replicate (n - ws.length) 0
theorem rez_len (ws : List Int) (n : Nat) : (rez ws n).length = n := by simp [rez]; omega
theorem rez_nil (n : Nat) : rez [] n = List.replicate n 0 := by simp [rez]
theorem rez_self (ws : List Int) : rez ws ws.length = ws := by simp [rez]
def fitE (q u a n : Int) : Int := if n < 0 ∨ 1024 < n then 1 else if q - u < n - a then 6 else 0

abbrev SP (b : Nat) : Value := .pointer (some ⟨b, 0, none⟩)

theorem new_any (q : Int) (w : World) : Calls Tryd.prog 9 #[.int .i64 q] w fun e w' => e = .returned (SP w.heap.size) ∧ w' = w.alloc (stO (max q 0) 0 0 none) := by
  go_enter Tryd.func9, Tryd.ntmps9
  go_wp2
  all_goals
    go_ret
    refine ⟨rfl, ?_⟩
    congr 3
    simp
    try omega

section
variable {w : World} {b : Nat} {F : Nat → Prop} {q u l : Int} {c : Nat} {S : Int → Option (List Int)} {m : Option Nat} {loc : Int → Nat}

theorem find_yes (h : StoreL w b F q u l c S m loc) {k : Int} (h0 : -9223372036854775808 ≤ k) (h1 : k ≤ 9223372036854775807) {ws : List Int} (hS : S k = some ws) :
    Calls Tryd.prog 45 #[SP b, .int .i64 k] w fun e w' => e = .returned (.tuple #[.slice (some ⟨loc k, 0, none⟩) ws.length ws.length, .int .i64 0]) ∧ w = w' := by
  have c3 := h.c3
  have hl := h.look_ok h0 h1
  simp only [segV, hS, Option.isSome] at hl
  clear h h0 h1 hS
  go_enter Tryd.func45, Tryd.ntmps45
  go_wp2
  exact bodyPost_ret (v := .tuple #[.slice (some ⟨loc k, 0, none⟩) ws.length ws.length, .int .i64 0]) (by simp [results, Tryd.results45, go_sem]) rfl ⟨rfl, rfl⟩

theorem find_no (h : StoreL w b F q u l c S m loc) {k : Int} (h0 : -9223372036854775808 ≤ k) (h1 : k ≤ 9223372036854775807) (hS : S k = none) :
    Calls Tryd.prog 45 #[SP b, .int .i64 k] w fun e w' => e = .returned (.tuple #[.slice none 0 0, .int .i64 4]) ∧ w = w' := by
  have c3 := h.c3
  have hl := h.look_ok h0 h1
  simp only [segV, hS, Option.isSome] at hl
  clear h h0 h1 hS
  go_enter Tryd.func45, Tryd.ntmps45
  go_wp2
  exact bodyPost_ret (v := .tuple #[.slice none 0 0, .int .i64 4]) (by simp [results, Tryd.results45, go_sem]) rfl ⟨rfl, rfl⟩

theorem size_yes (h : StoreL w b F q u l c S m loc) {k : Int} (h0 : -9223372036854775808 ≤ k) (h1 : k ≤ 9223372036854775807) {ws : List Int} (hS : S k = some ws) :
    Calls Tryd.prog 33 #[SP b, .int .i64 k] w fun e w' => e = .returned (.tuple #[.int .i64 ws.length, .int .i64 0]) ∧ w = w' := by
  go_enter Tryd.func33, Tryd.ntmps33
  go_wp2_with (first
    | (go_at_call 45; ((with_reducible refine (find_yes h h0 h1 hS).mono ?_); rintro e w1 ⟨rfl, rfl⟩)))
  exact bodyPost_ret (v := .tuple #[.int .i64 ws.length, .int .i64 0]) (by simp [results, Tryd.results33, go_sem]) rfl ⟨rfl, rfl⟩

theorem size_no (h : StoreL w b F q u l c S m loc) {k : Int} (h0 : -9223372036854775808 ≤ k) (h1 : k ≤ 9223372036854775807) (hS : S k = none) :
    Calls Tryd.prog 33 #[SP b, .int .i64 k] w fun e w' => e = .returned (.tuple #[.int .i64 0, .int .i64 4]) ∧ w = w' := by
  go_enter Tryd.func33, Tryd.ntmps33
  go_wp2_with (first
    | (go_at_call 45; ((with_reducible refine (find_no h h0 h1 hS).mono ?_); rintro e w1 ⟨rfl, rfl⟩)))
  exact bodyPost_ret (v := .tuple #[.int .i64 0, .int .i64 4]) (by simp [results, Tryd.results33, go_sem]) rfl ⟨rfl, rfl⟩

theorem row_cell {g : Nat} {ws : List Int} (h : w.heap[g]? = some (row ws)) {i : Nat} (hi : i < ws.length) : w.cell? ⟨g, i, none⟩ = some (.int .u64 (ws.getD i 0)) := by
  rw [cell_of_row w g i _ _ _ h]
  simp [hi]

theorem fits_any (h : StoreL w b F q u l c S m loc) (a n : Int) (a0 : 0 ≤ a) (a1 : a ≤ 1024) (u0 : 0 ≤ u) (uq : u ≤ q) (q1 : q ≤ 9223372036854775807) :
    Calls Tryd.prog 26 #[SP b, .int .i64 a, .int .i64 n] w fun e w' => e = .returned (.int .i64 (fitE q u a n)) ∧ Same w w' := by
  have c0 := h.c0
  have c1 := h.c1
  by_cases e0 : n < 0
  · have d0 : decide (n < 0) = true := decide_eq_true e0
    go_enter Tryd.func26, Tryd.ntmps26
    go_wp2
    go_ret
    exact ⟨by simp [fitE, e0], Same.refl w⟩
  have d0 : decide (n < 0) = false := decide_eq_false e0
  by_cases e1 : 1024 < n
  · have d1 : decide (1024 < n) = true := decide_eq_true e1
    go_enter Tryd.func26, Tryd.ntmps26
    go_wp2
    go_ret
    exact ⟨by simp [fitE, e1], Same.refl w⟩
  have d1 : decide (1024 < n) = false := decide_eq_false e1
  have i1 : IntKind.i64.wrap (n - a) = n - a := IntWalk.i64_in _ (by omega)
  have i2 : IntKind.i64.wrap (q - u) = q - u := IntWalk.i64_in _ (by omega)
  by_cases e2 : q - u < n - a
  · have d2 : decide (q - u < n - a) = true := decide_eq_true e2
    go_enter Tryd.func26, Tryd.ntmps26
    go_wp2
    go_quiet (fail)
    go_wp2
    go_ret
    exact ⟨by simp [fitE, e0, e1, e2], Same.drewN w _⟩
  have d2 : decide (q - u < n - a) = false := decide_eq_false e2
  go_enter Tryd.func26, Tryd.ntmps26
  go_wp2
  go_quiet (fail)
  go_wp2
  go_ret
  have f : fitE q u a n = 0 := by unfold fitE; rw [if_neg (by omega), if_neg (by omega)]
  exact ⟨by rw [f]; rfl, Same.drewN w _⟩

end

end Go.Proofs.YtknfiepbibaklaaDoor.W
