/-
  What the functions of package store that change nothing answer, and what a copy into new memory is: one contract a function and a way.
-/
import Derived.Test.YtaffbjopckajnaaSHeap
import Derived.Test.YtaffbjopckajnaaMath
import Derived.Laws.CopyOwn
import Derived.Deep.OwnRows
import Derived.Deep.QuietTactic
import Derived.BigQuiet
namespace Go.Proofs.Ytaffbjopckajnaa.W
open Go.ChangeShapes Go.WideShapes Go.ChangeAt Go.RowKit

/-- nothing turned but what was drawn -/
structure Same (w w' : World) : Prop where
  heap : w'.heap = w.heap
  os : w'.os = w.os
  tape : w'.tape = w.tape
  output : w'.output = w.output
theorem Same.refl (w : World) : Same w w := ⟨rfl, rfl, rfl, rfl⟩
theorem Same.drewN (w : World) (n : Nat) : Same w (w.drewN n) := ⟨rfl, rfl, rfl, rfl⟩
theorem Same.went {w w' : World} (h : Same w w') (F : Nat → Prop) : Went F w F w' := ⟨h.os, h.tape, h.output, by rw [h.heap]; exact Nat.le_refl _, fun i _ _ => by rw [h.heap], fun _ hi => Or.inl hi⟩
theorem Same.below {w w' : World} (h : Same w w') : Below w.heap.size w w' := ⟨h.os, h.tape, h.output, by rw [h.heap]; exact Nat.le_refl _, fun i _ => by rw [h.heap]⟩
theorem Same.store {w w' : World} (h : Same w w') {b : Nat} {F : Nat → Prop} {q u l : Int} {c : Nat} {S : Int → Option (List Int)} {m : Option Nat} {loc : Int → Nat} (hs : StoreL w b F q u l c S m loc) : StoreL w' b F q u l c S m loc :=
  hs.keep (by rw [h.heap]; exact Nat.le_refl _) (fun i _ => by rw [h.heap])

/-- a word's lowest 36 bits; the words of a segment that is given another size; whether a size fits -/
def msk (x : Int) : Int := bits .and .u64 x 68719476735
def rez (ws : List Int) (n : Nat) : List Int := ws.take n ++ List.replicate (n - ws.length) 0
theorem rez_len (ws : List Int) (n : Nat) : (rez ws n).length = n := by simp [rez]; omega
theorem rez_nil (n : Nat) : rez [] n = List.replicate n 0 := by simp [rez]
theorem rez_self (ws : List Int) : rez ws ws.length = ws := by simp [rez]
def fitE (q u a n : Int) : Int := if n < 0 ∨ 1024 < n then 1 else if q - u < n - a then 6 else 0

abbrev SP (b : Nat) : Value := .pointer (some ⟨b, 0, none⟩)

theorem new_any (q : Int) (w : World) : Calls Try.prog 8 #[.int .i64 q] w fun e w' => e = .returned (SP w.heap.size) ∧ w' = w.alloc (stO (max q 0) 0 0 none) := by
  go_enter Try.func8, Try.ntmps8
  go_wp2
  all_goals
    go_ret
    refine ⟨rfl, ?_⟩
    congr 3
    simp
    try omega

section
variable {w : World} {b : Nat} {F : Nat → Prop} {q u l : Int} {c : Nat} {S : Int → Option (List Int)} {m : Option Nat} {loc : Int → Nat}

theorem used_any (h : StoreL w b F q u l c S m loc) : Calls Try.prog 14 #[SP b] w fun e w' => e = .returned (.int .i64 u) ∧ w = w' := by
  have c1 := h.c1
  go_enter Try.func14, Try.ntmps14
  go_wp2
  go_ret
  exact ⟨rfl, rfl⟩

theorem find_yes (h : StoreL w b F q u l c S m loc) {k : Int} (h0 : -9223372036854775808 ≤ k) (h1 : k ≤ 9223372036854775807) {ws : List Int} (hS : S k = some ws) :
    Calls Try.prog 21 #[SP b, .int .i64 k] w fun e w' => e = .returned (.tuple #[.slice (some ⟨loc k, 0, none⟩) ws.length ws.length, .int .i64 0]) ∧ w = w' := by
  have c3 := h.c3
  have hl := h.look_ok h0 h1
  simp only [segV, hS, Option.isSome] at hl
  clear h h0 h1 hS
  go_enter Try.func21, Try.ntmps21
  go_wp2
  exact bodyPost_ret (v := .tuple #[.slice (some ⟨loc k, 0, none⟩) ws.length ws.length, .int .i64 0]) (by simp [results, Try.results21, go_sem]) rfl ⟨rfl, rfl⟩

theorem find_no (h : StoreL w b F q u l c S m loc) {k : Int} (h0 : -9223372036854775808 ≤ k) (h1 : k ≤ 9223372036854775807) (hS : S k = none) :
    Calls Try.prog 21 #[SP b, .int .i64 k] w fun e w' => e = .returned (.tuple #[.slice none 0 0, .int .i64 4]) ∧ w = w' := by
  have c3 := h.c3
  have hl := h.look_ok h0 h1
  simp only [segV, hS, Option.isSome] at hl
  clear h h0 h1 hS
  go_enter Try.func21, Try.ntmps21
  go_wp2
  exact bodyPost_ret (v := .tuple #[.slice none 0 0, .int .i64 4]) (by simp [results, Try.results21, go_sem]) rfl ⟨rfl, rfl⟩

theorem size_yes (h : StoreL w b F q u l c S m loc) {k : Int} (h0 : -9223372036854775808 ≤ k) (h1 : k ≤ 9223372036854775807) {ws : List Int} (hS : S k = some ws) :
    Calls Try.prog 15 #[SP b, .int .i64 k] w fun e w' => e = .returned (.tuple #[.int .i64 ws.length, .int .i64 0]) ∧ w = w' := by
  go_enter Try.func15, Try.ntmps15
  go_wp2_with (first
    | (go_at_call 21; ((with_reducible refine (find_yes h h0 h1 hS).mono ?_); rintro e w1 ⟨rfl, rfl⟩)))
  exact bodyPost_ret (v := .tuple #[.int .i64 ws.length, .int .i64 0]) (by simp [results, Try.results15, go_sem]) rfl ⟨rfl, rfl⟩

theorem size_no (h : StoreL w b F q u l c S m loc) {k : Int} (h0 : -9223372036854775808 ≤ k) (h1 : k ≤ 9223372036854775807) (hS : S k = none) :
    Calls Try.prog 15 #[SP b, .int .i64 k] w fun e w' => e = .returned (.tuple #[.int .i64 0, .int .i64 4]) ∧ w = w' := by
  go_enter Try.func15, Try.ntmps15
  go_wp2_with (first
    | (go_at_call 21; ((with_reducible refine (find_no h h0 h1 hS).mono ?_); rintro e w1 ⟨rfl, rfl⟩)))
  exact bodyPost_ret (v := .tuple #[.int .i64 0, .int .i64 4]) (by simp [results, Try.results15, go_sem]) rfl ⟨rfl, rfl⟩

theorem reach_yes (h : StoreL w b F q u l c S m loc) {k o : Int} (h0 : -9223372036854775808 ≤ k) (h1 : k ≤ 9223372036854775807) {ws : List Int} (hS : S k = some ws) (o0 : 0 ≤ o) (o1 : o < (ws.length : Int)) :
    Calls Try.prog 20 #[SP b, .int .i64 k, .int .i64 o] w fun e w' => e = .returned (.tuple #[.slice (some ⟨loc k, 0, none⟩) ws.length ws.length, .int .i64 0]) ∧ w = w' := by
  have d0 : decide (o < 0) = false := decide_eq_false (by omega)
  have d1 : decide ((ws.length : Int) ≤ o) = false := decide_eq_false (by omega)
  go_enter Try.func20, Try.ntmps20
  go_wp2_with (first
    | (go_at_call 21; ((with_reducible refine (find_yes h h0 h1 hS).mono ?_); rintro e w1 ⟨rfl, rfl⟩)))
  exact bodyPost_ret (v := .tuple #[.slice (some ⟨loc k, 0, none⟩) ws.length ws.length, .int .i64 0]) (by simp [results, Try.results20, go_sem]) rfl ⟨rfl, rfl⟩

theorem reach_off (h : StoreL w b F q u l c S m loc) {k o : Int} (h0 : -9223372036854775808 ≤ k) (h1 : k ≤ 9223372036854775807) {ws : List Int} (hS : S k = some ws) (ho : o < 0 ∨ (ws.length : Int) ≤ o) :
    Calls Try.prog 20 #[SP b, .int .i64 k, .int .i64 o] w fun e w' => e = .returned (.tuple #[.slice none 0 0, .int .i64 8]) ∧ w = w' := by
  have dd : (decide (o < 0) = true) ∨ (decide (o < 0) = false ∧ decide ((ws.length : Int) ≤ o) = true) := by
    by_cases e : o < 0
    · exact Or.inl (decide_eq_true e)
    · exact Or.inr ⟨decide_eq_false e, decide_eq_true (by omega)⟩
  clear ho
  rcases dd with d0 | ⟨d0, d1⟩
  all_goals
    go_enter Try.func20, Try.ntmps20
    go_wp2_with (first
      | (go_at_call 21; ((with_reducible refine (find_yes h h0 h1 hS).mono ?_); rintro e w1 ⟨rfl, rfl⟩)))
    exact bodyPost_ret (v := .tuple #[.slice none 0 0, .int .i64 8]) (by simp [results, Try.results20, go_sem]) rfl ⟨rfl, rfl⟩

theorem reach_no (h : StoreL w b F q u l c S m loc) {k o : Int} (h0 : -9223372036854775808 ≤ k) (h1 : k ≤ 9223372036854775807) (hS : S k = none) :
    Calls Try.prog 20 #[SP b, .int .i64 k, .int .i64 o] w fun e w' => e = .returned (.tuple #[.slice none 0 0, .int .i64 4]) ∧ w = w' := by
  go_enter Try.func20, Try.ntmps20
  go_wp2_with (first
    | (go_at_call 21; ((with_reducible refine (find_no h h0 h1 hS).mono ?_); rintro e w1 ⟨rfl, rfl⟩)))
  exact bodyPost_ret (v := .tuple #[.slice none 0 0, .int .i64 4]) (by simp [results, Try.results20, go_sem]) rfl ⟨rfl, rfl⟩

theorem row_cell {g : Nat} {ws : List Int} (h : w.heap[g]? = some (row ws)) {i : Nat} (hi : i < ws.length) : w.cell? ⟨g, i, none⟩ = some (.int .u64 (ws.getD i 0)) := by
  rw [cell_of_row w g i _ _ _ h]
  simp [hi]

theorem read_yes (h : StoreL w b F q u l c S m loc) {k o : Int} (h0 : -9223372036854775808 ≤ k) (h1 : k ≤ 9223372036854775807) {ws : List Int} (hS : S k = some ws) (o0 : 0 ≤ o) (o1 : o < (ws.length : Int)) :
    Calls Try.prog 12 #[SP b, .int .i64 k, .int .i64 o] w fun e w' => e = .returned (.tuple #[.int .u64 (ws.getD o.toNat 0), .int .i64 0]) ∧ w = w' := by
  have hc : w.cell? ⟨loc k, o.toNat, none⟩ = some (.int .u64 (ws.getD o.toNat 0)) := row_cell (h.rows k ws hS).1 (by omega)
  generalize hx : ws.getD o.toNat 0 = x at *
  go_enter Try.func12, Try.ntmps12
  go_wp2_with (first
    | (go_at_call 20; ((with_reducible refine (reach_yes h h0 h1 hS o0 o1).mono ?_); rintro e w1 ⟨rfl, rfl⟩)))
  exact bodyPost_ret (v := .tuple #[.int .u64 x, .int .i64 0]) (by simp [results, Try.results12, go_sem]) rfl ⟨rfl, rfl⟩

theorem write_yes (h : StoreL w b F q u l c S m loc) {k o : Int} (x : Int) (h0 : -9223372036854775808 ≤ k) (h1 : k ≤ 9223372036854775807) {ws : List Int} (hS : S k = some ws) (o0 : 0 ≤ o) (o1 : o < (ws.length : Int)) :
    Calls Try.prog 10 #[SP b, .int .i64 k, .int .i64 o, .int .u64 x] w fun e w' => e = .returned (.int .i64 0) ∧ w' = w.setCell ⟨loc k, o.toNat, none⟩ (.int .u64 (msk x)) := by
  have hc : w.cell? ⟨loc k, o.toNat, none⟩ = some (.int .u64 (ws.getD o.toNat 0)) := row_cell (h.rows k ws hS).1 (by omega)
  have hf : w.frozen? ⟨loc k, o.toNat, none⟩ = false := by simp [World.frozen?, (h.rows k ws hS).1]
  go_enter Try.func10, Try.ntmps10
  go_wp2_with (first
    | (go_at_call 20; ((with_reducible refine (reach_yes h h0 h1 hS o0 o1).mono ?_); rintro e w1 ⟨rfl, rfl⟩)))
  go_ret
  exact ⟨rfl, rfl⟩

theorem write_off (h : StoreL w b F q u l c S m loc) {k o : Int} (x : Int) (h0 : -9223372036854775808 ≤ k) (h1 : k ≤ 9223372036854775807) {ws : List Int} (hS : S k = some ws) (ho : o < 0 ∨ (ws.length : Int) ≤ o) :
    Calls Try.prog 10 #[SP b, .int .i64 k, .int .i64 o, .int .u64 x] w fun e w' => e = .returned (.int .i64 8) ∧ w = w' := by
  go_enter Try.func10, Try.ntmps10
  go_wp2_with (first
    | (go_at_call 20; ((with_reducible refine (reach_off h h0 h1 hS ho).mono ?_); rintro e w1 ⟨rfl, rfl⟩)))
  go_ret
  exact ⟨rfl, rfl⟩

theorem fits_any (h : StoreL w b F q u l c S m loc) (a n : Int) (a0 : 0 ≤ a) (a1 : a ≤ 1024) (u0 : 0 ≤ u) (uq : u ≤ q) (q1 : q ≤ 9223372036854775807) :
    Calls Try.prog 18 #[SP b, .int .i64 a, .int .i64 n] w fun e w' => e = .returned (.int .i64 (fitE q u a n)) ∧ Same w w' := by
  have c0 := h.c0
  have c1 := h.c1
  by_cases e0 : n < 0
  · have d0 : decide (n < 0) = true := decide_eq_true e0
    go_enter Try.func18, Try.ntmps18
    go_wp2
    go_ret
    exact ⟨by simp [fitE, e0], Same.refl w⟩
  have d0 : decide (n < 0) = false := decide_eq_false e0
  by_cases e1 : 1024 < n
  · have d1 : decide (1024 < n) = true := decide_eq_true e1
    go_enter Try.func18, Try.ntmps18
    go_wp2
    go_ret
    exact ⟨by simp [fitE, e1], Same.refl w⟩
  have d1 : decide (1024 < n) = false := decide_eq_false e1
  have i1 : IntKind.i64.wrap (n - a) = n - a := IntWalk.i64_in _ (by omega)
  have i2 : IntKind.i64.wrap (q - u) = q - u := IntWalk.i64_in _ (by omega)
  by_cases e2 : q - u < n - a
  · have d2 : decide (q - u < n - a) = true := decide_eq_true e2
    go_enter Try.func18, Try.ntmps18
    go_wp2
    go_quiet (fail)
    go_wp2
    go_ret
    exact ⟨by simp [fitE, e0, e1, e2], Same.drewN w _⟩
  have d2 : decide (q - u < n - a) = false := decide_eq_false e2
  go_enter Try.func18, Try.ntmps18
  go_wp2
  go_quiet (fail)
  go_wp2
  go_ret
  have f : fitE q u a n = 0 := by unfold fitE; rw [if_neg (by omega), if_neg (by omega)]
  exact ⟨by rw [f]; rfl, Same.drewN w _⟩

end

end Go.Proofs.Ytaffbjopckajnaa.W
