/-
  Make, Drop, Resize, Words: what they answer, and what they leave in memory.
-/
import Derived.Test.YtknfiepbibaklaaDoorSPut
namespace Go.Proofs.YtknfiepbibaklaaDoor.W
open Go.ChangeShapes Go.WideShapes Go.ChangeAt Go.RowKit

theorem map_nil (w : World) : (binOp .eql 65 (.map none) (.map none)).run Tryd.prog w = .ok (.bool true) w := by kernel_rfl
theorem map_made (n : Nat) (w : World) : (binOp .eql 65 (.map (some n)) (.map none)).run Tryd.prog w = .ok (.bool false) w := by kernel_rfl

section
variable {w : World} {b : Nat} {F : Nat → Prop} {q u l : Int} {c : Nat} {S : Int → Option (List Int)} {m : Option Nat} {loc : Int → Nat}

theorem went_tabled (h : StoreL w b F q u l c S none loc) : Went F w (fun i => F i ∨ i = w.heap.size) ((w.alloc (.map #[] 0)).setCell ⟨b, 3, none⟩ (.map (some w.heap.size))) := by
  have hw : Went F w (fun i => F i ∨ i = w.heap.size) (w.alloc (.map #[] 0)) := ⟨rfl, rfl, rfl, by simp, fun i hi _ => heap_alloc_old w _ hi, fun i hi => hi.imp id (fun e => by omega)⟩
  exact hw.set (Or.inl h.inF)

theorem tab_spell {b : Nat} {w : World} (hb : b < w.heap.size) (x y : Value) (o : Obj) : ((w.setCell ⟨b, 3, none⟩ x).setCell ⟨b, 2, none⟩ y).alloc o = ((w.alloc o).setCell ⟨b, 3, none⟩ x).setCell ⟨b, 2, none⟩ y := by
  rw [World.setCell_alloc_past _ _ _ _ hb, World.setCell_alloc_past _ _ _ _ (by simpa using hb)]

theorem make_yes (h : StoreAt w b F q u l c S) (n : Nat) (hn : n ≤ 1024) (hq : (n : Int) ≤ q - u) (hc : c < 4611686018427387904) (l0 : 0 ≤ l) (l1 : l < 4611686018427387904) (u0 : 0 ≤ u) (uq : u ≤ q) (q1 : q ≤ 9223372036854774000) :
    Calls Tryd.prog 10 #[SP b, .int .i64 n] w fun e w' => e = .returned (.tuple #[.int .i64 (l + 1), .int .i64 0]) ∧ ∃ F', StoreAt w' b F' q (u + n) (l + 1) (c + 1) (upd S (l + 1) (some (List.replicate n 0))) ∧ Went F w F' w' := by
  obtain ⟨m, loc, h⟩ := h
  have hfit : fitE q u 0 n = 0 := by unfold fitE; rw [if_neg (by omega), if_neg (by omega)]
  have hmm := @run_makeMap Tryd.prog
  have hm0 := map_nil
  have hm1 := map_made
  have hf := fits_any h 0 n (by omega) (by omega) u0 uq (by omega)
  rw [hfit] at hf
  have HL : Hid (S (l + 1) = none) := Lib.hid (h.fresh (by omega))
  clear hfit
  cases m with
  | none =>
    go_enter Tryd.func10, Tryd.ntmps10
    go_wp2_with (first
      | (go_at_call 26; ((with_reducible refine hf.mono ?_); rintro e w1 ⟨rfl, hw1⟩; have h1 := hw1.store h; have c3 := h1.c3; have c2 := h1.c2; have f3 := h1.fz 3; have f2 := h1.fz 2; have lt1 := h1.lt))
      | (go_at_call 27; ((with_reducible refine (put_new (tab_spell h1.lt _ _ _ ▸ h1.tabled.setL (l + 1) (by omega)) HL.out n hn (by omega) (by omega) hc u0 (by omega)).mono ?_); rintro e w2 ⟨rfl, F2, loc2, h2, hw2⟩; have d2 := h2.c2)))
    rw [tab_spell h1.lt] at hw2
    exact bodyPost_ret (v := .tuple #[.int .i64 (l + 1), .int .i64 0]) (by simp [results, Tryd.results10, go_sem]) rfl ⟨rfl, F2, ⟨_, _, h2⟩, (hw1.went F).trans (((went_tabled h1).set (Or.inl h.inF)).trans hw2)⟩
  | some mb =>
    go_enter Tryd.func10, Tryd.ntmps10
    go_wp2_with (first
      | (go_at_call 26; ((with_reducible refine hf.mono ?_); rintro e w1 ⟨rfl, hw1⟩; have h1 := hw1.store h; have c3 := h1.c3; have c2 := h1.c2; have f3 := h1.fz 3; have f2 := h1.fz 2; have lt1 := h1.lt))
      | (go_at_call 27; ((with_reducible refine (put_new (h1.setL (l + 1) (by omega)) HL.out n hn (by omega) (by omega) hc u0 (by omega)).mono ?_); rintro e w2 ⟨rfl, F2, loc2, h2, hw2⟩; have d2 := h2.c2)))
    exact bodyPost_ret (v := .tuple #[.int .i64 (l + 1), .int .i64 0]) (by simp [results, Tryd.results10, go_sem]) rfl ⟨rfl, F2, ⟨_, _, h2⟩, ((hw1.went F).set h.inF).trans hw2⟩

theorem make_no (h : StoreAt w b F q u l c S) (n : Int) (hq : fitE q u 0 n ≠ 0) (u0 : 0 ≤ u) (uq : u ≤ q) (q1 : q ≤ 9223372036854774000) :
    Calls Tryd.prog 10 #[SP b, .int .i64 n] w fun e w' => e = .returned (.tuple #[.int .i64 0, .int .i64 (fitE q u 0 n)]) ∧ StoreAt w' b F q u l c S ∧ Went F w F w' := by
  obtain ⟨m, loc, h⟩ := h
  have hf := fits_any h 0 n (by omega) (by omega) u0 uq (by omega)
  have hne : (fitE q u 0 n == 0) = false := by simpa using hq
  generalize fitE q u 0 n = x at *
  go_enter Tryd.func10, Tryd.ntmps10
  go_wp2_with (first
    | (go_at_call 26; ((with_reducible refine hf.mono ?_); rintro e w1 ⟨rfl, hw1⟩)))
  exact bodyPost_ret (v := .tuple #[.int .i64 0, .int .i64 x]) (by simp [results, Tryd.results10, go_sem]) rfl ⟨rfl, ⟨_, _, hw1.store h⟩, hw1.went F⟩

theorem drop_yes (h : StoreAt w b F q u l c S) {k : Int} (h0 : -9223372036854775808 ≤ k) (h1 : k ≤ 9223372036854775807) {ws : List Int} (hS : S k = some ws) (u0 : 0 ≤ u) (u1 : u ≤ 9223372036854774000) :
    Calls Tryd.prog 25 #[SP b, .int .i64 k] w fun e w' => e = .returned (.int .i64 0) ∧ StoreAt w' b F q (u - ws.length) l c (upd S k none) ∧ Went F w F w' := by
  obtain ⟨m, loc, h⟩ := h
  have c1 := h.c1
  have c3 := h.c3
  have f1 := h.fz 1
  have hsh := (h.rows k ws hS).2.2.1
  have h2 := h.setU (u - ws.length)
  have hdel := fun ty => h2.drop hS h0 h1 ty
  have hfi := find_yes h h0 h1 hS
  go_enter Tryd.func25, Tryd.ntmps25
  obtain ⟨w2, hrun, hs2, hw2⟩ := hdel 0
  go_wp2_with (first
    | (go_at_call 45; ((with_reducible refine hfi.mono ?_); rintro e w1 ⟨rfl, rfl⟩)))
  go_ret
  exact ⟨rfl, ⟨_, _, hs2⟩, ((Went.refl F w).set h.inF).trans hw2⟩

theorem drop_no (h : StoreAt w b F q u l c S) {k : Int} (h0 : -9223372036854775808 ≤ k) (h1 : k ≤ 9223372036854775807) (hS : S k = none) :
    Calls Tryd.prog 25 #[SP b, .int .i64 k] w fun e w' => e = .returned (.int .i64 4) ∧ w = w' := by
  obtain ⟨m, loc, h⟩ := h
  have hfi := find_no h h0 h1 hS
  go_enter Tryd.func25, Tryd.ntmps25
  go_wp2_with (first
    | (go_at_call 45; ((with_reducible refine hfi.mono ?_); rintro e w1 ⟨rfl, rfl⟩)))
  go_ret
  exact ⟨rfl, rfl⟩

theorem resize_yes (h : StoreAt w b F q u l c S) {k : Int} (h0 : -9223372036854775808 ≤ k) (h1 : k ≤ 9223372036854775807) {ws : List Int} (hS : S k = some ws) (n : Nat) (hn : n ≤ 1024) (hq : (n : Int) - ws.length ≤ q - u) (hc : c < 4611686018427387904) (u0 : 0 ≤ u) (uq : u ≤ q) (q1 : q ≤ 9223372036854774000) :
    Calls Tryd.prog 24 #[SP b, .int .i64 k, .int .i64 n] w fun e w' => e = .returned (.int .i64 0) ∧ ∃ F', StoreAt w' b F' q (u + (n - ws.length)) l (c + 1) (upd S k (some (rez ws n))) ∧ Went F w F' w' := by
  obtain ⟨m, loc, h⟩ := h
  obtain ⟨r1, r2, r3, r4, r5⟩ := h.rows k ws hS
  have hfit : fitE q u ws.length n = 0 := by unfold fitE; rw [if_neg (by omega), if_neg (by omega)]
  have hf := fits_any h ws.length n (by omega) (by omega) u0 uq (by omega)
  rw [hfit] at hf
  have hfi := find_yes h h0 h1 hS
  cases m with
  | none => rw [h.none_ rfl k] at hS; cases hS
  | some mb =>
    have hput := fun w1 (hw1 : Same w w1) => put_any (hw1.store h) (k := k) n hn r4 r5 h1 hc u0 (by omega)
    simp only [hS, Option.getD_some] at hput
    clear hfit r1 r2 r3 r4 r5
    go_enter Tryd.func24, Tryd.ntmps24
    go_wp2_with (first
      | (go_at_call 45; ((with_reducible refine hfi.mono ?_); rintro e w1 ⟨rfl, rfl⟩))
      | (go_at_call 26; ((with_reducible refine hf.mono ?_); rintro e w1 ⟨rfl, hw1⟩))
      | (go_at_call 27; ((with_reducible refine (hput _ hw1).mono ?_); rintro e w2 ⟨rfl, hs2, hw2⟩)))
    go_ret
    exact ⟨rfl, _, ⟨_, _, hs2⟩, (hw1.went F).trans hw2⟩

theorem resize_no (h : StoreAt w b F q u l c S) {k : Int} (h0 : -9223372036854775808 ≤ k) (h1 : k ≤ 9223372036854775807) {ws : List Int} (hS : S k = some ws) (n : Int) (hq : fitE q u ws.length n ≠ 0) (u0 : 0 ≤ u) (uq : u ≤ q) (q1 : q ≤ 9223372036854774000) :
    Calls Tryd.prog 24 #[SP b, .int .i64 k, .int .i64 n] w fun e w' => e = .returned (.int .i64 (fitE q u ws.length n)) ∧ StoreAt w' b F q u l c S ∧ Went F w F w' := by
  obtain ⟨m, loc, h⟩ := h
  have hsh := (h.rows k ws hS).2.2.1
  have hf := fits_any h ws.length n (by omega) (by omega) u0 uq (by omega)
  have hfi := find_yes h h0 h1 hS
  have hne : (fitE q u ws.length n == 0) = false := by simpa using hq
  generalize fitE q u ws.length n = x at *
  go_enter Tryd.func24, Tryd.ntmps24
  go_wp2_with (first
    | (go_at_call 45; ((with_reducible refine hfi.mono ?_); rintro e w1 ⟨rfl, rfl⟩))
    | (go_at_call 26; ((with_reducible refine hf.mono ?_); rintro e w1 ⟨rfl, hw1⟩)))
  go_ret
  exact ⟨rfl, ⟨_, _, hw1.store h⟩, hw1.went F⟩

end

end Go.Proofs.YtknfiepbibaklaaDoor.W
