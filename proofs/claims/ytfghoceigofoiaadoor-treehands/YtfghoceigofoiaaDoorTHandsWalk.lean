/-
  TreeHands: the law's walk.
-/
import Derived.Test.YtfghoceigofoiaaDoorTHandsMath
namespace Go.Proofs.YtfghoceigofoiaaDoor.T
open Go.ChangeShapes Go.WideShapes Go.ChangeAt Go.RowKit
open Go.Proofs.YtfghoceigofoiaaDoor.N (bs bs_data bs_size bs_inj)
open Go.Proofs.YtfghoceigofoiaaDoor.A (Tm TRow Fl)

set_option maxRecDepth 8000 in
set_option maxHeartbeats 4000000 in
theorem hands_walk (f : Fl) (w : World) : Calls Tryd.prog 6 #[.agg #[.bool f.1, .bool f.2.1, .bool f.2.2]] w fun e w' => e = .returned (.bool true) ∧ Below w.heap.size w w' := by
  have gt := A.guard_terms
  go_enter Tryd.func6, Tryd.ntmps6
  go_wp2_with (first
    | (go_at_call 8; ((refine (awake_any _).mono ?_); rintro e w1 ⟨rfl, b1⟩; have L1 := Lib.hid (bel2 (one_new w (.cells #[.bool f.1, .bool f.2.1, .bool f.2.2] 48)) b1); have F1 : Hid (FB w1 w.heap.size f) := Lib.hid (FB.of (V := w.alloc (.cells #[.bool f.1, .bool f.2.1, .bool f.2.2] 48)) (heap_alloc_new w _) b1 (by simp)); clear b1))
    | (go_at_call 9; ((refine (new_at w1).mono ?_); rintro e w2 ⟨rfl, h2, b2, s2⟩; have T2 := Lib.hid (show TY w1 w2 w1.heap.size 0 (fun i => i = w1.heap.size) noSt from ⟨h2, b2, fun i hi => Nat.le_of_eq hi.symm⟩); obtain ⟨f0, f1, f2⟩ := (F1.out.of b2 F1.out.lt).cell; clear h2 b2))
    | (go_at_call 10; ((refine (add_seg (T2.out.tree.alloc _) (d := 0) (s := [97]) rng0 (short_txt (by decide)) (free_ok (by decide) rfl) (br := brT [42] f) (a := some ⟨w2.heap.size, 0, none⟩) (cc := 1) (A.TRow.lit w2 [([42], f)] 1 (by simp)) (fun t ht => by rw [List.mem_singleton.1 ht]; exact short_txt (by simp)) rfl (by simp [brT]) (by simp [brT]) (lmay_star f) bmay_zero3 rfl (by omega)).mono ?_); rintro e w3 ⟨rfl, F3, g, hg3, t3, x3⟩; have HX := (x3.block _ (by simp) (fun e => by have e : w2.heap.size = w1.heap.size := e; omega)).trans (heap_alloc_new w2 _); have c3 : w3.cell? ⟨w2.heap.size, 0, none⟩ = some (.string (bs [42])) := (cell_of_row _ _ 0 _ _ _ HX).trans rfl; have z3 : w3.frozen? ⟨w2.heap.size, 0, none⟩ = false := (by simp [World.frozen?, HX]); have T3 := Lib.hid (((T2.out.alloc _).went t3 x3).set (k := w2.heap.size) (i := 0) (v := .string ⟨#[113]⟩) (x3.out (by simp) (fun e => by have e : w2.heap.size = w1.heap.size := e; omega)) (by omega)); have O3 := Lib.hid (one_seg g [42] f); clear hg3 t3 x3 HX))
    | (go_at_call 16; ((with_reducible refine (lookA T3.out.tree O3.out (B := ⟨1, 3, 0, [], false, [([42], f)], 0, 0, 0, 0⟩) rfl).mono ?_); rintro e w4 ⟨a4, c4, rfl, o4, b4⟩; have ho4 := own_one o4; obtain ⟨k4, rfl, hk4, hl4, p4, _, _, _, z4⟩ := ho4; have N4 := Lib.hid (T3.out.new hk4); have J4 := Lib.hid (Nat.le_trans T3.out.bel.size hk4); have T4 := Lib.hid (((T3.out.below b4).set (k := k4) (i := 0) (v := .string ⟨#[122]⟩) N4.out J4.out).alloc (BrO ⟨1, 3, 0, [], false, [([42], f)], 0, 0, 0, 0⟩ (.slice (some ⟨k4, 0, none⟩) 1 c4))); clear o4 b4 hk4))
    | (go_at_call 21; ((refine (uid3_is T4.out.tree (u := 3) rng3 O3.out.u O3.out.n (B := ⟨1, 3, 0, [], false, [([42], f)], 0, 0, 0, 0⟩) rfl).mono ?_); rintro e w5 ⟨a5, c5, rfl, o5, b5⟩; have ho5 := own_one o5; obtain ⟨k5, rfl, hk5, hl5, p5, _, _, _, z5⟩ := ho5; have T5 := Lib.hid ((T4.out.below b5).alloc (BrO ⟨1, 3, 0, [], false, [([42], f)], 0, 0, 0, 0⟩ (.slice (some ⟨k5, 0, none⟩) 1 c5))); have Y5 := Lib.hid (yb_new (B := ⟨1, 3, 0, [], false, [([42], f)], 0, 0, 0, 0⟩) (cy := c5) p5); have N5 := Lib.hid (T4.out.new hk5); have M5 := Lib.hid (And.intro (T4.out.below b5).bel.size hl5); have NB5 := Lib.hid ((T4.out.below b5).new (Nat.le_refl _)); obtain ⟨u0, u1, u2⟩ := (F1.out.of (T4.out.below b5).bel F1.out.lt).cell; have u3 : w.heap.size < w5.heap.size := Nat.lt_of_lt_of_le F1.out.lt (T4.out.below b5).bel.size; clear o5 b5 hk5 z5 p5))
    | (go_at_call 14; ((refine (access_at (T5.out.tree.alloc _) (d := 0) (s := [97]) rng0 (short_txt (by decide)) O3.out.pa O3.out.n rfl (lit_behind w5 _ ([117], f)) (fun t ht => by rw [List.mem_singleton.1 ht]; exact short_txt (by simp)) (lmay_u f)).mono ?_); rintro e w6 ⟨rfl, F6, t6, x6⟩; have hk6 : w5.heap.size + 1 < ((w5.alloc (BrO ⟨1, 3, 0, [], false, [([42], f)], 0, 0, 0, 0⟩ (.slice (some ⟨k5, 0, none⟩) 1 c5))).alloc (.cells (A.flat [([117], f)]).toArray 50)).heap.size := (by simp); have nf6 := T5.out.new (k := w5.heap.size + 1) (by simp); have h6 := (x6.block _ hk6 nf6).trans (show ((w5.alloc (BrO ⟨1, 3, 0, [], false, [([42], f)], 0, 0, 0, 0⟩ (.slice (some ⟨k5, 0, none⟩) 1 c5))).alloc (.cells (A.flat [([117], f)]).toArray 50)).heap[w5.heap.size + 1]? = some (.cells (A.flat [([117], f)]).toArray 50) from (by have := heap_alloc_new (w5.alloc (BrO ⟨1, 3, 0, [], false, [([42], f)], 0, 0, 0, 0⟩ (.slice (some ⟨k5, 0, none⟩) 1 c5))) (.cells (A.flat [([117], f)]).toArray 50); simpa using this)); have c6 : w6.cell? ⟨w5.heap.size + 1, 0, none⟩ = some (.string (bs [117])) := (cell_of_row _ _ 0 _ _ _ h6).trans rfl; have z6 : w6.frozen? ⟨w5.heap.size + 1, 0, none⟩ = false := (by simp [World.frozen?, h6]); have T6 := Lib.hid (((T5.out.alloc _).went t6 x6).set (k := w5.heap.size + 1) (i := 0) (v := .string ⟨#[107]⟩) (x6.out hk6 nf6) (by have := M5.out.1; omega)); have Y6 := Lib.hid (((Y5.out.below (one_new _ _)).went x6 NB5.out N5.out).set (k := w5.heap.size + 1) (i := 0) (v := .string ⟨#[107]⟩) (by omega) (by have := M5.out.2; omega)); have O6 := Lib.hid (O3.out.node (aclX ⟨brT [42] f, 0, [[97]]⟩ [([117], f)])); clear t6 x6 h6 hk6 nf6 u0 u1 u2 u3))
    | (go_at_call 19; ((with_reducible refine (names_one T6.out.tree O6.out (by omega)).mono ?_); rintro e w7 ⟨k7, cp7, rfl, hk7, hl7, p7, z7, b7⟩; have T7 := Lib.hid ((T6.out.below b7).set (k := k7) (i := 0) (v := .string ⟨#[111, 116, 104, 101, 114]⟩) (T6.out.new hk7) (Nat.le_trans T6.out.bel.size hk7)); have Y7 := Lib.hid ((Y6.out.below b7).set (k := k7) (i := 0) (v := .string ⟨#[111, 116, 104, 101, 114]⟩) (by have := cell_lt Y6.out.box; omega) (by have := cell_lt Y6.out.row; omega)); clear b7 hk7))
    | (go_at_call 16; ((with_reducible refine (lookA T7.out.tree O6.out (B := ⟨1, 3, 0, [], false, [([117], f)], 0, 0, 0, 0⟩) rfl).mono ?_); rintro e w8 ⟨a8, c8, rfl, o8, b8⟩; have ho8 := own_one o8; obtain ⟨k8, rfl, hk8, hl8, p80, p81, p82, p83, z8⟩ := ho8; have T8 := Lib.hid ((T7.out.below b8).alloc (BrO ⟨1, 3, 0, [], false, [([117], f)], 0, 0, 0, 0⟩ (.slice (some ⟨k8, 0, none⟩) 1 c8))); have Y8 := Lib.hid ((Y7.out.below b8).below (one_new w8 (BrO ⟨1, 3, 0, [], false, [([117], f)], 0, 0, 0, 0⟩ (.slice (some ⟨k8, 0, none⟩) 1 c8)))); have y80 := (Y7.out.below b8).box; have y81 := (Y7.out.below b8).row; have y82 := cell_lt y80; have y83 := cell_lt y81; obtain ⟨u0, u1, u2⟩ := (F1.out.of (T7.out.below b8).bel F1.out.lt).cell; have u3 : w.heap.size < w8.heap.size := Nat.lt_of_lt_of_le F1.out.lt (T7.out.below b8).bel.size; clear o8 b8 hk8 z8)))
  have T9 := Lib.hid (T8.out.below (Below.refl _ _).drew)
  have qe := eql_u f
  have e42 : ((bs [42]).toList == [42]) = true := by rw [A.bs_toList]; rfl
  have e97 : ((bs [97]).toList == [97]) = true := by rw [A.bs_toList]; rfl
  have K8 : Hid ((w8.alloc (BrO ⟨1, 3, 0, [], false, [([117], f)], 0, 0, 0, 0⟩ (.slice (some ⟨k8, 0, none⟩) 1 c8))).drew.cell? ⟨w5.heap.size, 5, none⟩ = some (.slice (some ⟨k5, 0, none⟩) 1 c5) ∧ (w8.alloc (BrO ⟨1, 3, 0, [], false, [([117], f)], 0, 0, 0, 0⟩ (.slice (some ⟨k8, 0, none⟩) 1 c8))).drew.cell? ⟨k5, 0, none⟩ = some (.string (bs [42])) ∧ (w8.alloc (BrO ⟨1, 3, 0, [], false, [([117], f)], 0, 0, 0, 0⟩ (.slice (some ⟨k8, 0, none⟩) 1 c8))).drew.cell? ⟨w8.heap.size, 5, none⟩ = some (.slice (some ⟨k8, 0, none⟩) 1 c8) ∧ (w8.alloc (BrO ⟨1, 3, 0, [], false, [([117], f)], 0, 0, 0, 0⟩ (.slice (some ⟨k8, 0, none⟩) 1 c8))).drew.cell? ⟨k8, 0, none⟩ = some (.string (bs [117])) ∧ (w8.alloc (BrO ⟨1, 3, 0, [], false, [([117], f)], 0, 0, 0, 0⟩ (.slice (some ⟨k8, 0, none⟩) 1 c8))).drew.cell? ⟨k8, 1, none⟩ = some (.bool f.1) ∧ (w8.alloc (BrO ⟨1, 3, 0, [], false, [([117], f)], 0, 0, 0, 0⟩ (.slice (some ⟨k8, 0, none⟩) 1 c8))).drew.cell? ⟨k8, 2, none⟩ = some (.bool f.2.1) ∧ (w8.alloc (BrO ⟨1, 3, 0, [], false, [([117], f)], 0, 0, 0, 0⟩ (.slice (some ⟨k8, 0, none⟩) 1 c8))).drew.cell? ⟨k8, 3, none⟩ = some (.bool f.2.2) ∧ (w8.alloc (BrO ⟨1, 3, 0, [], false, [([117], f)], 0, 0, 0, 0⟩ (.slice (some ⟨k8, 0, none⟩) 1 c8))).drew.cell? ⟨w.heap.size, 0, none⟩ = some (.bool f.1) ∧ (w8.alloc (BrO ⟨1, 3, 0, [], false, [([117], f)], 0, 0, 0, 0⟩ (.slice (some ⟨k8, 0, none⟩) 1 c8))).drew.cell? ⟨w.heap.size, 1, none⟩ = some (.bool f.2.1) ∧ (w8.alloc (BrO ⟨1, 3, 0, [], false, [([117], f)], 0, 0, 0, 0⟩ (.slice (some ⟨k8, 0, none⟩) 1 c8))).drew.cell? ⟨w.heap.size, 2, none⟩ = some (.bool f.2.2)) := Lib.hid (show (w8.alloc (BrO ⟨1, 3, 0, [], false, [([117], f)], 0, 0, 0, 0⟩ (.slice (some ⟨k8, 0, none⟩) 1 c8))).drew.cell? ⟨w5.heap.size, 5, none⟩ = some (.slice (some ⟨k5, 0, none⟩) 1 c5) ∧ (w8.alloc (BrO ⟨1, 3, 0, [], false, [([117], f)], 0, 0, 0, 0⟩ (.slice (some ⟨k8, 0, none⟩) 1 c8))).drew.cell? ⟨k5, 0, none⟩ = some (.string (bs [42])) ∧ (w8.alloc (BrO ⟨1, 3, 0, [], false, [([117], f)], 0, 0, 0, 0⟩ (.slice (some ⟨k8, 0, none⟩) 1 c8))).drew.cell? ⟨w8.heap.size, 5, none⟩ = some (.slice (some ⟨k8, 0, none⟩) 1 c8) ∧ (w8.alloc (BrO ⟨1, 3, 0, [], false, [([117], f)], 0, 0, 0, 0⟩ (.slice (some ⟨k8, 0, none⟩) 1 c8))).drew.cell? ⟨k8, 0, none⟩ = some (.string (bs [117])) ∧ (w8.alloc (BrO ⟨1, 3, 0, [], false, [([117], f)], 0, 0, 0, 0⟩ (.slice (some ⟨k8, 0, none⟩) 1 c8))).drew.cell? ⟨k8, 1, none⟩ = some (.bool f.1) ∧ (w8.alloc (BrO ⟨1, 3, 0, [], false, [([117], f)], 0, 0, 0, 0⟩ (.slice (some ⟨k8, 0, none⟩) 1 c8))).drew.cell? ⟨k8, 2, none⟩ = some (.bool f.2.1) ∧ (w8.alloc (BrO ⟨1, 3, 0, [], false, [([117], f)], 0, 0, 0, 0⟩ (.slice (some ⟨k8, 0, none⟩) 1 c8))).drew.cell? ⟨k8, 3, none⟩ = some (.bool f.2.2) ∧ (w8.alloc (BrO ⟨1, 3, 0, [], false, [([117], f)], 0, 0, 0, 0⟩ (.slice (some ⟨k8, 0, none⟩) 1 c8))).drew.cell? ⟨w.heap.size, 0, none⟩ = some (.bool f.1) ∧ (w8.alloc (BrO ⟨1, 3, 0, [], false, [([117], f)], 0, 0, 0, 0⟩ (.slice (some ⟨k8, 0, none⟩) 1 c8))).drew.cell? ⟨w.heap.size, 1, none⟩ = some (.bool f.2.1) ∧ (w8.alloc (BrO ⟨1, 3, 0, [], false, [([117], f)], 0, 0, 0, 0⟩ (.slice (some ⟨k8, 0, none⟩) 1 c8))).drew.cell? ⟨w.heap.size, 2, none⟩ = some (.bool f.2.2) from
    ten_below (kf := w.heap.size) ⟨Y8.out.box, Y8.out.row, (BrAt.new w8 ⟨1, 3, 0, [], false, [([117], f)], 0, 0, 0, 0⟩ _).cell.2.2.2.2.2.1, old1 p80, old1 p81, old1 p82, old1 p83, old1 u0, old1 u1, old1 u2⟩ (Below.refl _ _).drew)
  clear T2 T3 T4 T5 T6 T7 T8 Y5 Y6 Y7 Y8 N4 N5 NB5 M5 J4 f0 f1 f2 c3 z3 p4 z4 c6 z6 p7 z7 hl4 hl5 hl7 O3 p80 p81 p82 p83 u0 u1 u2 y80 y81
  refine wp_region_noPanic ?_
  refine wp_region_held_drew (S := (fun V => V.cell? ⟨w5.heap.size, 5, none⟩ = some (.slice (some ⟨k5, 0, none⟩) 1 c5) ∧ V.cell? ⟨k5, 0, none⟩ = some (.string (bs [42])) ∧ V.cell? ⟨w8.heap.size, 5, none⟩ = some (.slice (some ⟨k8, 0, none⟩) 1 c8) ∧ V.cell? ⟨k8, 0, none⟩ = some (.string (bs [117])) ∧ V.cell? ⟨k8, 1, none⟩ = some (.bool f.1) ∧ V.cell? ⟨k8, 2, none⟩ = some (.bool f.2.1) ∧ V.cell? ⟨k8, 3, none⟩ = some (.bool f.2.2) ∧ V.cell? ⟨w.heap.size, 0, none⟩ = some (.bool f.1) ∧ V.cell? ⟨w.heap.size, 1, none⟩ = some (.bool f.2.1) ∧ V.cell? ⟨w.heap.size, 2, none⟩ = some (.bool f.2.2))) (by kernel_rfl) ?_ (fun hHeld => ?_)
  · (try dsimp only); (first | exact K8.out | exact K9.out)
  refine wpAnyH_take (i := 0) (v := ?_) rfl (by kernel_rfl) (by kernel_rfl) (by kernel_rfl) (fun _ _ _ h => h) (Or.inl ⟨by rfl, ?_⟩) hHeld ?_
  rotate_left 1
  · (intro w hSw; (try dsimp only at hSw); (try simp only [List.getElem_toArray]); (try simp only [List.getElem_cons_succ]); (try simp only [List.getElem_cons_zero]); go_simp; try (with_reducible rfl))
  (try simp only [List.getElem_toArray]); (try simp only [List.getElem_cons_succ]); (try simp only [List.getElem_cons_zero]); (try simp only [Act.put, List.setIfInBounds_toArray, List.set_cons_zero, List.set_cons_succ])
  refine wpAnyH_take (i := 1) (v := ?_) rfl (by kernel_rfl) (by kernel_rfl) (by kernel_rfl) (fun _ _ _ h => h) (Or.inl ⟨by rfl, ?_⟩) hHeld ?_
  rotate_left 1
  · (intro w hSw; (try dsimp only at hSw); (try simp only [List.getElem_toArray]); (try simp only [List.getElem_cons_succ]); (try simp only [List.getElem_cons_zero]); go_simp; try (with_reducible rfl))
  (try simp only [List.getElem_toArray]); (try simp only [List.getElem_cons_succ]); (try simp only [List.getElem_cons_zero]); (try simp only [Act.put, List.setIfInBounds_toArray, List.set_cons_zero, List.set_cons_succ])
  refine wpAnyH_take (i := 2) (v := ?_) rfl (by kernel_rfl) (by kernel_rfl) (by kernel_rfl) (fun _ _ _ h => h) (Or.inl ⟨by rfl, ?_⟩) hHeld ?_
  rotate_left 1
  · (intro w hSw; (try dsimp only at hSw); (try simp only [List.getElem_toArray]); (try simp only [List.getElem_cons_succ]); (try simp only [List.getElem_cons_zero]); go_simp; try (with_reducible rfl))
  (try simp only [List.getElem_toArray]); (try simp only [List.getElem_cons_succ]); (try simp only [List.getElem_cons_zero]); (try simp only [Act.put, List.setIfInBounds_toArray, List.set_cons_zero, List.set_cons_succ])
  refine wpAnyH_take (i := 3) (v := ?_) rfl (by kernel_rfl) (by kernel_rfl) (by kernel_rfl) (fun _ _ _ h => h) (Or.inl ⟨by rfl, ?_⟩) hHeld ?_
  rotate_left 1
  · (intro w hSw; (try dsimp only at hSw); (try simp only [List.getElem_toArray]); (try simp only [List.getElem_cons_succ]); (try simp only [List.getElem_cons_zero]); go_simp; try (with_reducible rfl))
  (try simp only [List.getElem_toArray]); (try simp only [List.getElem_cons_succ]); (try simp only [List.getElem_cons_zero]); (try simp only [Act.put, List.setIfInBounds_toArray, List.set_cons_zero, List.set_cons_succ])
  refine wpAnyH_take (i := 4) (v := ?_) rfl (by kernel_rfl) (by kernel_rfl) (by kernel_rfl) (fun _ _ _ h => h) (Or.inl ⟨by rfl, ?_⟩) hHeld ?_
  rotate_left 1
  · (intro w hSw; (try dsimp only at hSw); (try simp only [List.getElem_toArray]); (try simp only [List.getElem_cons_succ]); (try simp only [List.getElem_cons_zero]); go_simp; try (with_reducible rfl))
  (try simp only [List.getElem_toArray]); (try simp only [List.getElem_cons_succ]); (try simp only [List.getElem_cons_zero]); (try simp only [Act.put, List.setIfInBounds_toArray, List.set_cons_zero, List.set_cons_succ])
  refine wpAnyH_take (i := 5) (v := ?_) rfl (by kernel_rfl) (by kernel_rfl) (by kernel_rfl) (fun _ _ _ h => h) (Or.inl ⟨by rfl, ?_⟩) hHeld ?_
  rotate_left 1
  · (intro w hSw; (try dsimp only at hSw); (try simp only [List.getElem_toArray]); (try simp only [List.getElem_cons_succ]); (try simp only [List.getElem_cons_zero]); go_simp; try (with_reducible rfl))
  (try simp only [List.getElem_toArray]); (try simp only [List.getElem_cons_succ]); (try simp only [List.getElem_cons_zero]); (try simp only [Act.put, List.setIfInBounds_toArray, List.set_cons_zero, List.set_cons_succ])
  refine wpAnyH_take (i := 6) (v := ?_) rfl (by kernel_rfl) (by kernel_rfl) (by kernel_rfl) (fun _ _ _ h => h) (Or.inl ⟨by rfl, ?_⟩) hHeld ?_
  rotate_left 1
  · (intro w hSw; (try dsimp only at hSw); (try simp only [List.getElem_toArray]); (try simp only [List.getElem_cons_succ]); (try simp only [List.getElem_cons_zero]); go_simp; try (with_reducible rfl))
  (try simp only [List.getElem_toArray]); (try simp only [List.getElem_cons_succ]); (try simp only [List.getElem_cons_zero]); (try simp only [Act.put, List.setIfInBounds_toArray, List.set_cons_zero, List.set_cons_succ])
  refine wpAnyH_take (i := 7) (v := ?_) rfl (by kernel_rfl) (by kernel_rfl) (by kernel_rfl) (fun _ _ _ h => h) (Or.inl ⟨by rfl, ?_⟩) hHeld ?_
  rotate_left 1
  · (intro w hSw; (try dsimp only at hSw); (try simp only [List.getElem_toArray]); (try simp only [List.getElem_cons_succ]); (try simp only [List.getElem_cons_zero]); go_simp; try (with_reducible rfl))
  (try simp only [List.getElem_toArray]); (try simp only [List.getElem_cons_succ]); (try simp only [List.getElem_cons_zero]); (try simp only [Act.put, List.setIfInBounds_toArray, List.set_cons_zero, List.set_cons_succ])
  refine wpAnyH_take (i := 8) (v := ?_) rfl (by kernel_rfl) (by kernel_rfl) (by kernel_rfl) (fun _ _ _ h => h) (Or.inl ⟨by rfl, ?_⟩) hHeld ?_
  rotate_left 1
  · (intro w hSw; (try dsimp only at hSw); (try simp only [List.getElem_toArray]); (try simp only [List.getElem_cons_succ]); (try simp only [List.getElem_cons_zero]); go_simp; try (with_reducible rfl))
  (try simp only [List.getElem_toArray]); (try simp only [List.getElem_cons_succ]); (try simp only [List.getElem_cons_zero]); (try simp only [Act.put, List.setIfInBounds_toArray, List.set_cons_zero, List.set_cons_succ])
  refine wpAnyH_take (i := 9) (v := ?_) rfl (by kernel_rfl) (by kernel_rfl) (by kernel_rfl) (fun _ _ _ h => h) (Or.inl ⟨by rfl, ?_⟩) hHeld ?_
  rotate_left 1
  · (intro w hSw; (try dsimp only at hSw); (try simp only [List.getElem_toArray]); (try simp only [List.getElem_cons_succ]); (try simp only [List.getElem_cons_zero]); go_simp; try (with_reducible rfl))
  (try simp only [List.getElem_toArray]); (try simp only [List.getElem_cons_succ]); (try simp only [List.getElem_cons_zero]); (try simp only [Act.put, List.setIfInBounds_toArray, List.set_cons_zero, List.set_cons_succ])
  refine wpAnyH_take (i := 10) (v := ?_) rfl (by kernel_rfl) (by kernel_rfl) (by kernel_rfl) (fun _ _ _ h => h) (Or.inl ⟨by rfl, ?_⟩) hHeld ?_
  rotate_left 1
  · (intro w hSw; (try dsimp only at hSw); (try simp only [List.getElem_toArray]); (try simp only [List.getElem_cons_succ]); (try simp only [List.getElem_cons_zero]); go_simp; try (with_reducible rfl))
  (try simp only [List.getElem_toArray]); (try simp only [List.getElem_cons_succ]); (try simp only [List.getElem_cons_zero]); (try simp only [Act.put, List.setIfInBounds_toArray, List.set_cons_zero, List.set_cons_succ])
  refine wpAnyH_take (i := 11) (v := ?_) rfl (by kernel_rfl) (by kernel_rfl) (by kernel_rfl) (fun _ _ _ h => h) (Or.inl ⟨by rfl, ?_⟩) hHeld ?_
  rotate_left 1
  · (intro w hSw; (try dsimp only at hSw); (try simp only [List.getElem_toArray]); (try simp only [List.getElem_cons_succ]); (try simp only [List.getElem_cons_zero]); go_simp; try (with_reducible rfl))
  (try simp only [List.getElem_toArray]); (try simp only [List.getElem_cons_succ]); (try simp only [List.getElem_cons_zero]); (try simp only [Act.put, List.setIfInBounds_toArray, List.set_cons_zero, List.set_cons_succ])
  refine wpAnyH_take (i := 12) (v := ?_) rfl (by kernel_rfl) (by kernel_rfl) (by kernel_rfl) (fun _ _ _ h => h) (Or.inl ⟨by rfl, ?_⟩) hHeld ?_
  rotate_left 1
  · (intro w hSw; (try dsimp only at hSw); (try simp only [List.getElem_toArray]); (try simp only [List.getElem_cons_succ]); (try simp only [List.getElem_cons_zero]); go_simp; try (with_reducible rfl))
  (try simp only [List.getElem_toArray]); (try simp only [List.getElem_cons_succ]); (try simp only [List.getElem_cons_zero]); (try simp only [Act.put, List.setIfInBounds_toArray, List.set_cons_zero, List.set_cons_succ])
  refine wpAnyH_take (i := 13) (v := ?_) rfl (by kernel_rfl) (by kernel_rfl) (by kernel_rfl) (fun _ _ _ h => h) (Or.inl ⟨by rfl, ?_⟩) hHeld ?_
  rotate_left 1
  · (intro w hSw; (try dsimp only at hSw); (try simp only [List.getElem_toArray]); (try simp only [List.getElem_cons_succ]); (try simp only [List.getElem_cons_zero]); go_simp; try (with_reducible rfl))
  (try simp only [List.getElem_toArray]); (try simp only [List.getElem_cons_succ]); (try simp only [List.getElem_cons_zero]); (try simp only [Act.put, List.setIfInBounds_toArray, List.set_cons_zero, List.set_cons_succ])
  refine wpAnyH_take (i := 14) (v := ?_) rfl (by kernel_rfl) (by kernel_rfl) (by kernel_rfl) (fun _ _ _ h => h) (Or.inl ⟨by rfl, ?_⟩) hHeld ?_
  rotate_left 1
  · (intro w hSw; (try dsimp only at hSw); (try simp only [List.getElem_toArray]); (try simp only [List.getElem_cons_succ]); (try simp only [List.getElem_cons_zero]); go_simp; try (with_reducible rfl))
  (try simp only [List.getElem_toArray]); (try simp only [List.getElem_cons_succ]); (try simp only [List.getElem_cons_zero]); (try simp only [Act.put, List.setIfInBounds_toArray, List.set_cons_zero, List.set_cons_succ])
  refine wpAnyH_take (i := 15) (v := ?_) rfl (by kernel_rfl) (by kernel_rfl) (by kernel_rfl) (fun _ _ _ h => h) (Or.inl ⟨by rfl, ?_⟩) hHeld ?_
  rotate_left 1
  · (intro w hSw; (try dsimp only at hSw); (try simp only [List.getElem_toArray]); (try simp only [List.getElem_cons_succ]); (try simp only [List.getElem_cons_zero]); go_simp; try (with_reducible rfl))
  (try simp only [List.getElem_toArray]); (try simp only [List.getElem_cons_succ]); (try simp only [List.getElem_cons_zero]); (try simp only [Act.put, List.setIfInBounds_toArray, List.set_cons_zero, List.set_cons_succ])
  refine wpAnyH_take (i := 16) (v := ?_) rfl (by kernel_rfl) (by kernel_rfl) (by kernel_rfl) (fun _ _ _ h => h) (Or.inl ⟨by rfl, ?_⟩) hHeld ?_
  rotate_left 1
  · (intro w hSw; (try dsimp only at hSw); (try simp only [List.getElem_toArray]); (try simp only [List.getElem_cons_succ]); (try simp only [List.getElem_cons_zero]); go_simp; try (with_reducible rfl))
  (try simp only [List.getElem_toArray]); (try simp only [List.getElem_cons_succ]); (try simp only [List.getElem_cons_zero]); (try simp only [Act.put, List.setIfInBounds_toArray, List.set_cons_zero, List.set_cons_succ])
  refine wpAnyH_take (i := 17) (v := ?_) rfl (by kernel_rfl) (by kernel_rfl) (by kernel_rfl) (fun _ _ _ h => h) (Or.inl ⟨by rfl, ?_⟩) hHeld ?_
  rotate_left 1
  · (intro w hSw; (try dsimp only at hSw); (try simp only [List.getElem_toArray]); (try simp only [List.getElem_cons_succ]); (try simp only [List.getElem_cons_zero]); go_simp; try (with_reducible rfl))
  (try simp only [List.getElem_toArray]); (try simp only [List.getElem_cons_succ]); (try simp only [List.getElem_cons_zero]); (try simp only [Act.put, List.setIfInBounds_toArray, List.set_cons_zero, List.set_cons_succ])
  refine wpAnyH_take (i := 18) (v := ?_) rfl (by kernel_rfl) (by kernel_rfl) (by kernel_rfl) (fun _ _ _ h => h) (Or.inl ⟨by rfl, ?_⟩) hHeld ?_
  rotate_left 1
  · (intro w hSw; (try dsimp only at hSw); (try simp only [List.getElem_toArray]); (try simp only [List.getElem_cons_succ]); (try simp only [List.getElem_cons_zero]); go_simp; try (with_reducible rfl))
  (try simp only [List.getElem_toArray]); (try simp only [List.getElem_cons_succ]); (try simp only [List.getElem_cons_zero]); (try simp only [Act.put, List.setIfInBounds_toArray, List.set_cons_zero, List.set_cons_succ])
  refine wpAnyH_take (i := 19) (v := ?_) rfl (by kernel_rfl) (by kernel_rfl) (by kernel_rfl) (fun _ _ _ h => h) (Or.inl ⟨by rfl, ?_⟩) hHeld ?_
  rotate_left 1
  · (intro w hSw; (try dsimp only at hSw); (try simp only [List.getElem_toArray]); (try simp only [List.getElem_cons_succ]); (try simp only [List.getElem_cons_zero]); go_simp; try (with_reducible rfl))
  (try simp only [List.getElem_toArray]); (try simp only [List.getElem_cons_succ]); (try simp only [List.getElem_cons_zero]); (try simp only [Act.put, List.setIfInBounds_toArray, List.set_cons_zero, List.set_cons_succ])
  refine wpAnyH_take (i := 20) (v := ?_) rfl (by kernel_rfl) (by kernel_rfl) (by kernel_rfl) (fun _ _ _ h => h) (Or.inl ⟨by rfl, ?_⟩) hHeld ?_
  rotate_left 1
  · (intro w hSw; (try dsimp only at hSw); (try simp only [List.getElem_toArray]); (try simp only [List.getElem_cons_succ]); (try simp only [List.getElem_cons_zero]); go_simp; try (with_reducible rfl))
  (try simp only [List.getElem_toArray]); (try simp only [List.getElem_cons_succ]); (try simp only [List.getElem_cons_zero]); (try simp only [Act.put, List.setIfInBounds_toArray, List.set_cons_zero, List.set_cons_succ])
  refine wpAnyH_take (i := 21) (v := ?_) rfl (by kernel_rfl) (by kernel_rfl) (by kernel_rfl) (fun _ _ _ h => h) (Or.inl ⟨by rfl, ?_⟩) hHeld ?_
  rotate_left 1
  · (intro w hSw; (try dsimp only at hSw); (try simp only [List.getElem_toArray]); (try simp only [List.getElem_cons_succ]); (try simp only [List.getElem_cons_zero]); go_simp; try (with_reducible rfl))
  (try simp only [List.getElem_toArray]); (try simp only [List.getElem_cons_succ]); (try simp only [List.getElem_cons_zero]); (try simp only [Act.put, List.setIfInBounds_toArray, List.set_cons_zero, List.set_cons_succ])
  refine wpAnyH_take (i := 22) (v := ?_) rfl (by kernel_rfl) (by kernel_rfl) (by kernel_rfl) (fun _ _ _ h => h) (Or.inl ⟨by rfl, ?_⟩) hHeld ?_
  rotate_left 1
  · (intro w hSw; (try dsimp only at hSw); (try simp only [List.getElem_toArray]); (try simp only [List.getElem_cons_succ]); (try simp only [List.getElem_cons_zero]); go_simp; try (with_reducible rfl))
  (try simp only [List.getElem_toArray]); (try simp only [List.getElem_cons_succ]); (try simp only [List.getElem_cons_zero]); (try simp only [Act.put, List.setIfInBounds_toArray, List.set_cons_zero, List.set_cons_succ])
  refine wpAnyH_take (i := 23) (v := ?_) rfl (by kernel_rfl) (by kernel_rfl) (by kernel_rfl) (fun _ _ _ h => h) (Or.inl ⟨by rfl, ?_⟩) hHeld ?_
  rotate_left 1
  · (intro w hSw; (try dsimp only at hSw); (try simp only [List.getElem_toArray]); (try simp only [List.getElem_cons_succ]); (try simp only [List.getElem_cons_zero]); go_simp; try (with_reducible rfl))
  (try simp only [List.getElem_toArray]); (try simp only [List.getElem_cons_succ]); (try simp only [List.getElem_cons_zero]); (try simp only [Act.put, List.setIfInBounds_toArray, List.set_cons_zero, List.set_cons_succ])
  refine wpAnyH_take (i := 24) (v := ?_) rfl (by kernel_rfl) (by kernel_rfl) (by kernel_rfl) (fun _ _ _ h => h) (Or.inl ⟨by rfl, ?_⟩) hHeld ?_
  rotate_left 1
  · (intro w hSw; (try dsimp only at hSw); (try simp only [List.getElem_toArray]); (try simp only [List.getElem_cons_succ]); (try simp only [List.getElem_cons_zero]); go_simp; try (with_reducible rfl))
  (try simp only [List.getElem_toArray]); (try simp only [List.getElem_cons_succ]); (try simp only [List.getElem_cons_zero]); (try simp only [Act.put, List.setIfInBounds_toArray, List.set_cons_zero, List.set_cons_succ])
  refine wpAnyH_take (i := 25) (v := ?_) rfl (by kernel_rfl) (by kernel_rfl) (by kernel_rfl) (fun _ _ _ h => h) (Or.inl ⟨by rfl, ?_⟩) hHeld ?_
  rotate_left 1
  · (intro w hSw; (try dsimp only at hSw); (try simp only [List.getElem_toArray]); (try simp only [List.getElem_cons_succ]); (try simp only [List.getElem_cons_zero]); go_simp; try (with_reducible rfl))
  (try simp only [List.getElem_toArray]); (try simp only [List.getElem_cons_succ]); (try simp only [List.getElem_cons_zero]); (try simp only [Act.put, List.setIfInBounds_toArray, List.set_cons_zero, List.set_cons_succ])
  refine wpAnyH_take (i := 26) (v := ?_) rfl (by kernel_rfl) (by kernel_rfl) (by kernel_rfl) (fun _ _ _ h => h) (Or.inl ⟨by rfl, ?_⟩) hHeld ?_
  rotate_left 1
  · (intro w hSw; (try dsimp only at hSw); (try simp only [List.getElem_toArray]); (try simp only [List.getElem_cons_succ]); (try simp only [List.getElem_cons_zero]); go_simp; try (with_reducible rfl))
  (try simp only [List.getElem_toArray]); (try simp only [List.getElem_cons_succ]); (try simp only [List.getElem_cons_zero]); (try simp only [Act.put, List.setIfInBounds_toArray, List.set_cons_zero, List.set_cons_succ])
  refine wpAnyH_take (i := 27) (v := ?_) rfl (by kernel_rfl) (by kernel_rfl) (by kernel_rfl) (fun _ _ _ h => h) (Or.inl ⟨by rfl, ?_⟩) hHeld ?_
  rotate_left 1
  · (intro w hSw; (try dsimp only at hSw); (try simp only [List.getElem_toArray]); (try simp only [List.getElem_cons_succ]); (try simp only [List.getElem_cons_zero]); go_simp; try (with_reducible rfl))
  (try simp only [List.getElem_toArray]); (try simp only [List.getElem_cons_succ]); (try simp only [List.getElem_cons_zero]); (try simp only [Act.put, List.setIfInBounds_toArray, List.set_cons_zero, List.set_cons_succ])
  refine wpAnyH_take (i := 28) (v := ?_) rfl (by kernel_rfl) (by kernel_rfl) (by kernel_rfl) (fun _ _ _ h => h) (Or.inl ⟨by rfl, ?_⟩) hHeld ?_
  rotate_left 1
  · (intro w hSw; (try dsimp only at hSw); (try simp only [List.getElem_toArray]); (try simp only [List.getElem_cons_succ]); (try simp only [List.getElem_cons_zero]); go_simp; try (with_reducible rfl))
  (try simp only [List.getElem_toArray]); (try simp only [List.getElem_cons_succ]); (try simp only [List.getElem_cons_zero]); (try simp only [Act.put, List.setIfInBounds_toArray, List.set_cons_zero, List.set_cons_succ])
  refine wpAnyH_take (i := 29) (v := ?_) rfl (by kernel_rfl) (by kernel_rfl) (by kernel_rfl) (fun _ _ _ h => h) (Or.inl ⟨by rfl, ?_⟩) hHeld ?_
  rotate_left 1
  · (intro w hSw; (try dsimp only at hSw); (try simp only [List.getElem_toArray]); (try simp only [List.getElem_cons_succ]); (try simp only [List.getElem_cons_zero]); go_simp; try (with_reducible rfl))
  (try simp only [List.getElem_toArray]); (try simp only [List.getElem_cons_succ]); (try simp only [List.getElem_cons_zero]); (try simp only [Act.put, List.setIfInBounds_toArray, List.set_cons_zero, List.set_cons_succ])
  refine wpAnyH_take (i := 30) (v := ?_) rfl (by kernel_rfl) (by kernel_rfl) (by kernel_rfl) (fun _ _ _ h => h) (Or.inl ⟨by rfl, ?_⟩) hHeld ?_
  rotate_left 1
  · (intro w hSw; (try dsimp only at hSw); (try simp only [List.getElem_toArray]); (try simp only [List.getElem_cons_succ]); (try simp only [List.getElem_cons_zero]); go_simp; try (with_reducible rfl))
  (try simp only [List.getElem_toArray]); (try simp only [List.getElem_cons_succ]); (try simp only [List.getElem_cons_zero]); (try simp only [Act.put, List.setIfInBounds_toArray, List.set_cons_zero, List.set_cons_succ])
  refine wpAnyH_take (i := 31) (v := ?_) rfl (by kernel_rfl) (by kernel_rfl) (by kernel_rfl) (fun _ _ _ h => h) (Or.inl ⟨by rfl, ?_⟩) hHeld ?_
  rotate_left 1
  · (intro w hSw; (try dsimp only at hSw); (try simp only [List.getElem_toArray]); (try simp only [List.getElem_cons_succ]); (try simp only [List.getElem_cons_zero]); go_simp; try (with_reducible rfl))
  (try simp only [List.getElem_toArray]); (try simp only [List.getElem_cons_succ]); (try simp only [List.getElem_cons_zero]); (try simp only [Act.put, List.setIfInBounds_toArray, List.set_cons_zero, List.set_cons_succ])
  refine wpAnyH_take (i := 32) (v := ?_) rfl (by kernel_rfl) (by kernel_rfl) (by kernel_rfl) (fun _ _ _ h => h) (Or.inl ⟨by rfl, ?_⟩) hHeld ?_
  rotate_left 1
  · (intro w hSw; (try dsimp only at hSw); (try simp only [List.getElem_toArray]); (try simp only [List.getElem_cons_succ]); (try simp only [List.getElem_cons_zero]); go_simp; try (with_reducible rfl))
  (try simp only [List.getElem_toArray]); (try simp only [List.getElem_cons_succ]); (try simp only [List.getElem_cons_zero]); (try simp only [Act.put, List.setIfInBounds_toArray, List.set_cons_zero, List.set_cons_succ])
  refine wpAnyH_take (i := 33) (v := ?_) rfl (by kernel_rfl) (by kernel_rfl) (by kernel_rfl) (fun _ _ _ h => h) (Or.inl ⟨by rfl, ?_⟩) hHeld ?_
  rotate_left 1
  · (intro w hSw; (try dsimp only at hSw); (try simp only [List.getElem_toArray]); (try simp only [List.getElem_cons_succ]); (try simp only [List.getElem_cons_zero]); go_simp; try (with_reducible rfl))
  (try simp only [List.getElem_toArray]); (try simp only [List.getElem_cons_succ]); (try simp only [List.getElem_cons_zero]); (try simp only [Act.put, List.setIfInBounds_toArray, List.set_cons_zero, List.set_cons_succ])
  refine wpAnyH_take (i := 34) (v := ?_) rfl (by kernel_rfl) (by kernel_rfl) (by kernel_rfl) (fun _ _ _ h => h) (Or.inl ⟨by rfl, ?_⟩) hHeld ?_
  rotate_left 1
  · (intro w hSw; (try dsimp only at hSw); (try simp only [List.getElem_toArray]); (try simp only [List.getElem_cons_succ]); (try simp only [List.getElem_cons_zero]); go_simp; try (with_reducible rfl))
  (try simp only [List.getElem_toArray]); (try simp only [List.getElem_cons_succ]); (try simp only [List.getElem_cons_zero]); (try simp only [Act.put, List.setIfInBounds_toArray, List.set_cons_zero, List.set_cons_succ])
  refine wpAnyH_take (i := 35) (v := ?_) rfl (by kernel_rfl) (by kernel_rfl) (by kernel_rfl) (fun _ _ _ h => h) (Or.inl ⟨by rfl, ?_⟩) hHeld ?_
  rotate_left 1
  · (intro w hSw; (try dsimp only at hSw); (try simp only [List.getElem_toArray]); (try simp only [List.getElem_cons_succ]); (try simp only [List.getElem_cons_zero]); go_simp; try (with_reducible rfl))
  (try simp only [List.getElem_toArray]); (try simp only [List.getElem_cons_succ]); (try simp only [List.getElem_cons_zero]); (try simp only [Act.put, List.setIfInBounds_toArray, List.set_cons_zero, List.set_cons_succ])
  refine wpAnyH_ready (rs := [36]) (by kernel_rfl) (by simp) ?_
  refine AllReadyH.cons rfl (fun K hK => ?_) AllReadyH.nil
  (try simp only [List.getElem_toArray]); (try simp only [List.getElem_cons_succ]); (try simp only [List.getElem_cons_zero])
  go_simp
  ((go_at_call 19); (refine (names_one T9.out.tree O6.out (by omega)).mono ?_); rintro e w9 ⟨k9, cp9, rfl, hk9, hl9, p9, z9, b9⟩; have B9 := Lib.hid (T9.out.bel.trans (b9.mono T9.out.bel.size)); have K9 := Lib.hid (ten_below K8.out b9); clear b9 hk9)
  try (go_wp2_with fail)
  refine hK.out _ _ ?_ (fun hHeld => ?_)
  · (try dsimp only); (first | exact K8.out | exact K9.out)
  clear hK K
  (try simp only [List.getElem_toArray]); (try simp only [List.getElem_cons_succ]); (try simp only [List.getElem_cons_zero]); (try simp only [Act.put, List.setIfInBounds_toArray, List.set_cons_zero, List.set_cons_succ])
  refine wpAnyH_ready (rs := [37]) (by kernel_rfl) (by simp) ?_
  refine AllReadyH.cons rfl (fun K hK => ?_) AllReadyH.nil
  (try simp only [List.getElem_toArray]); (try simp only [List.getElem_cons_succ]); (try simp only [List.getElem_cons_zero])
  go_simp
  refine hK.out _ _ ?_ (fun hHeld => ?_)
  · (try dsimp only); (first | exact K8.out | exact K9.out)
  clear hK K
  (try simp only [List.getElem_toArray]); (try simp only [List.getElem_cons_succ]); (try simp only [List.getElem_cons_zero]); (try simp only [Act.put, List.setIfInBounds_toArray, List.set_cons_zero, List.set_cons_succ])
  refine wpAnyH_ready (rs := [38]) (by kernel_rfl) (by simp) ?_
  refine AllReadyH.cons rfl (fun K hK => ?_) AllReadyH.nil
  (try simp only [List.getElem_toArray]); (try simp only [List.getElem_cons_succ]); (try simp only [List.getElem_cons_zero])
  go_simp
  refine hK.out _ _ ?_ (fun hHeld => ?_)
  · (try dsimp only); (first | exact K8.out | exact K9.out)
  clear hK K
  (try simp only [List.getElem_toArray]); (try simp only [List.getElem_cons_succ]); (try simp only [List.getElem_cons_zero]); (try simp only [Act.put, List.setIfInBounds_toArray, List.set_cons_zero, List.set_cons_succ])
  refine wpAnyH_ready (rs := [39]) (by kernel_rfl) (by simp) ?_
  refine AllReadyH.cons rfl (fun K hK => ?_) AllReadyH.nil
  (try simp only [List.getElem_toArray]); (try simp only [List.getElem_cons_succ]); (try simp only [List.getElem_cons_zero])
  go_simp
  refine hK.out _ _ ?_ (fun hHeld => ?_)
  · (try dsimp only); (first | exact K8.out | exact K9.out)
  clear hK K
  (try simp only [List.getElem_toArray]); (try simp only [List.getElem_cons_succ]); (try simp only [List.getElem_cons_zero]); (try simp only [Act.put, List.setIfInBounds_toArray, List.set_cons_zero, List.set_cons_succ])
  refine wpAnyH_ready (rs := [40]) (by kernel_rfl) (by simp) ?_
  refine AllReadyH.cons rfl (fun K hK => ?_) AllReadyH.nil
  (try simp only [List.getElem_toArray]); (try simp only [List.getElem_cons_succ]); (try simp only [List.getElem_cons_zero])
  go_simp
  refine hK.out _ _ ?_ (fun hHeld => ?_)
  · (try dsimp only); (first | exact K8.out | exact K9.out)
  clear hK K
  (try simp only [List.getElem_toArray]); (try simp only [List.getElem_cons_succ]); (try simp only [List.getElem_cons_zero]); (try simp only [Act.put, List.setIfInBounds_toArray, List.set_cons_zero, List.set_cons_succ])
  refine wpAnyH_ready (rs := [41]) (by kernel_rfl) (by simp) ?_
  refine AllReadyH.cons rfl (fun K hK => ?_) AllReadyH.nil
  (try simp only [List.getElem_toArray]); (try simp only [List.getElem_cons_succ]); (try simp only [List.getElem_cons_zero])
  go_simp
  refine hK.out _ _ ?_ (fun hHeld => ?_)
  · (try dsimp only); (first | exact K8.out | exact K9.out)
  clear hK K
  (try simp only [List.getElem_toArray]); (try simp only [List.getElem_cons_succ]); (try simp only [List.getElem_cons_zero]); (try simp only [Act.put, List.setIfInBounds_toArray, List.set_cons_zero, List.set_cons_succ])
  refine wpAnyH_done (by kernel_rfl) ?_ _
  refine NoPanic.normal ?_
  go_wp2
  go_ret
  exact ⟨rfl, L1.out.trans (B9.out.mono L1.out.size)⟩

end Go.Proofs.YtfghoceigofoiaaDoor.T
