/-
  TreeKnown: the law's walk.
-/
import Derived.Test.YtfghoceigofoiaaDoorTKnownSteps
namespace Go.Proofs.YtfghoceigofoiaaDoor.T
open Go.ChangeShapes Go.WideShapes Go.ChangeAt Go.RowKit
open Go.Proofs.YtfghoceigofoiaaDoor.N (bs bs_data bs_size bs_inj Row)
open Go.Proofs.YtfghoceigofoiaaDoor.A (Tm TRow)


set_option maxRecDepth 8000 in
set_option maxHeartbeats 4000000 in
theorem known_walk (w : World) : Calls Tryd.prog 3 #[] w fun e w' => e = .returned (.bool true) ∧ Below w.heap.size w w' := by
  go_enter Tryd.func3, Tryd.ntmps3
  go_wp2_with (first
    | (go_at_call 8; ((refine (awake_any _).mono ?_); rintro e w1 ⟨rfl, b1⟩; have L1 := Lib.hid b1; clear b1))
    | (go_at_call 9; ((refine (new_at w1).mono ?_); rintro e w2 ⟨rfl, h2, b2, sz2⟩; have Y0 := Lib.hid ((KS.start h2 b2).push (LitO 1 1 0 [] (.slice none 0 0))); clear h2 b2))
    | (go_at_call 10; ((with_reducible refine (s1 Y0.out).mono ?_); rintro e w3 ⟨rfl, t⟩; have Y1 := Lib.hid t; clear t; obtain ⟨p0, p1, p2, p3, p4, p5, p6, p7, p8, p9⟩ := Y1.out.seg (k := w2.heap.size) (by simp)))
    | (go_at_call 10; ((with_reducible refine (s2 Y1.out).mono ?_); rintro e w4 ⟨rfl, t⟩; clear p0 p1 p2 p3 p4 p5 p6 p7 p8 p9; have Y2 := Lib.hid t; clear t; obtain ⟨p0, p1, p2, p3, p4, p5, p6, p7, p8, p9⟩ := Y2.out.seg (k := w2.heap.size) (by simp)))
    | (go_at_call 10; ((with_reducible refine (s3 Y2.out (by omega)).mono ?_); rintro e w5 ⟨rfl, F1, g1, t⟩; clear p0 p1 p2 p3 p4 p5 p6 p7 p8 p9; have Y3 := Lib.hid t; clear t; obtain ⟨p0, p1, p2, p3, p4, p5, p6, p7, p8, p9⟩ := Y3.out.seg (k := w2.heap.size) (by simp)))
    | (go_at_call 10; ((with_reducible refine (s4 Y3.out).mono ?_); rintro e w6 ⟨rfl, t⟩; clear p0 p1 p2 p3 p4 p5 p6 p7 p8 p9; have Y4 := Lib.hid t; clear t; obtain ⟨p0, p1, p2, p3, p4, p5, p6, p7, p8, p9⟩ := Y4.out.seg (k := w2.heap.size) (by simp)))
    | (go_at_call 10; ((with_reducible refine (s5 Y4.out).mono ?_); rintro e w7 ⟨rfl, t⟩; clear p0 p1 p2 p3 p4 p5 p6 p7 p8 p9; have Y5 := Lib.hid t; clear t))
    | (go_at_call 10; ((with_reducible refine (s6 Y5.out).mono ?_); rintro e w8 ⟨rfl, t⟩; have Y6 := Lib.hid t; clear t))
    | (go_at_call 10; ((with_reducible refine (s7 Y6.out).mono ?_); rintro e w9 ⟨rfl, t⟩; have Y7 := Lib.hid t; clear t))
    | (go_at_call 10; ((with_reducible refine (s8 Y7.out).mono ?_); rintro e w10 ⟨rfl, t⟩; have Y8 := Lib.hid t; clear t))
    | (go_at_call 10; ((with_reducible refine (s9 Y8.out).mono ?_); rintro e w11 ⟨rfl, t⟩; have Y9 := Lib.hid t; clear t))
    | (go_at_call 10; ((with_reducible refine (s10 Y9.out (by omega)).mono ?_); rintro e w12 ⟨rfl, F2, g2, q12, t⟩; have Q12 := Lib.hid q12; clear q12; have Y10 := Lib.hid t; clear t))
    | (go_at_call 10; ((with_reducible refine (s11 Y10.out (by omega)).mono ?_); rintro e w13 ⟨rfl, F3, g3, q23, t⟩; have Q23 := Lib.hid q23; clear q23; have Y11 := Lib.hid t; clear t))
    | (go_at_call 11; ((with_reducible refine (s12 Y11.out Q23.out).mono ?_); rintro e w14 ⟨rfl, t⟩; have Y12 := Lib.hid (t.alloc (LitO 0 0 0 [] (.slice none 0 0))); clear t))
    | (go_at_call 12; ((with_reducible refine (s13 Y12.out Q12.out Q23.out).mono ?_); rintro e w15 ⟨rfl, rfl⟩; skip))
    | (go_at_call 13; ((with_reducible refine (s14 Y12.out Q12.out Q23.out (by omega)).mono ?_); rintro e w16 ⟨rfl, F4, t⟩; have Y14 := Lib.hid t; clear t))
    | (go_at_call 12; ((with_reducible refine (s15 Y14.out (by omega)).mono ?_); rintro e w17 ⟨rfl, t⟩; have Y15 := Lib.hid t; clear t))
    | (go_at_call 14; ((with_reducible refine (s16 Y15.out Q12.out Q23.out).mono ?_); rintro e w18 ⟨rfl, rfl⟩; skip))
    | (go_at_call 15; ((with_reducible refine (s17 Y15.out).mono ?_); rintro e w19 ⟨rfl, t⟩; have Y17 := Lib.hid t; clear t))
    | (go_at_call 13; ((with_reducible refine (s18 Y17.out).mono ?_); rintro e w20 ⟨rfl, rfl⟩; skip))
    | (go_at_call 11; ((with_reducible refine (s19 Y17.out Q12.out Q23.out (by omega)).mono ?_); rintro e w21 ⟨a21, c21, rfl, t⟩; have Y19 := Lib.hid (t.push (LitO 3 0 0 [62] (.slice a21 0 c21))); clear t))
    | (go_at_call 11; ((with_reducible refine (s20 Y19.out Q12.out Q23.out (by omega)).mono ?_); rintro e w22 ⟨a22, c22, rfl, t⟩; have Y20 := Lib.hid (t.alloc (LitO 2 0 1 [] (.slice a22 0 c22))); obtain ⟨p0, p1, p2, p3, p4, p5, p6, p7, p8, p9⟩ := (t.alloc (LitO 2 0 1 [] (.slice a22 0 c22))).seg (k := w2.heap.size) (by simp); clear t))
    | (go_at_call 10; ((with_reducible refine (s21 Y20.out).mono ?_); rintro e w23 ⟨rfl, t⟩; clear p0 p1 p2 p3 p4 p5 p6 p7 p8 p9; have Y21 := Lib.hid t; clear t))
    | (go_at_call 10; ((with_reducible refine (s22 Y21.out Q12.out Q23.out (by omega)).mono ?_); rintro e w24 ⟨rfl, F5, g4, q24, t⟩; have Q24 := Lib.hid q24; clear q24; have Y22 := Lib.hid t; clear t))
    | (go_at_call 16; ((with_reducible refine (s23 Y22.out).mono ?_); rintro e w25 ⟨a25, c25, rfl, t⟩; have Y23 := Lib.hid (t.push (LitO 2 0 2 [] (.slice a25 0 c25))); clear t)))
  have Y24 := Lib.hid ((Y23.out.alloc (ErrO 30)).alloc (ErrO 30))
  have R24 := Lib.hid (fun k (hk : k < 22) => rows22 (w25.alloc (LitO 2 0 2 [] (.slice a25 0 c25))) 30 (m := w25.heap.size + 1) (by simp) hk)
  clear Y0 Y1 Y2 Y3 Y4 Y5 Y6 Y7 Y8 Y9 Y10 Y11 Y12 Y14 Y15 Y17 Y19 Y20 Y21 Y22 Y23
  refine (show Code.wp _ _ _ _ (((w25.alloc (LitO 2 0 2 [] (.slice a25 0 c25))).alloc (ErrO 30)).alloc (ErrO 30)) from ?_)
  generalize ((w25.alloc (LitO 2 0 2 [] (.slice a25 0 c25))).alloc (ErrO 30)).alloc (ErrO 30) = V at Y24 R24 ⊢
  go_loopw [45] (fun i W => ∃ k n : Nat, k ≤ 22 ∧ i = .int .i64 k ∧ W = V.drewN n) (fun i _ => 22 - (intOf i).toNat)
  case atStart => exact ⟨0, 0, Nat.zero_le _, rfl, rfl⟩
  case round =>
    obtain ⟨k, n, hk, rfl, rfl⟩ := hrel
    by_cases hlt : k < 22
    · obtain ⟨c1, c2⟩ := R24.out k hlt
      go_wp2
      go_quiet (fail)
      go_wp2
      go_roundw
      case rel => exact ⟨k + 1, n + nq, by omega, by go_num, by first | rfl | rw [World.drewN_drewN]⟩
      case measure => simp [intOf]; omega
    · obtain rfl : k = 22 := by omega
      have Y25 := Lib.hid (Y24.out.drewN n)
      clear hk hlt R24
      generalize V.drewN n = U at Y25 ⊢
      have E1 := (Y25.out.box (w25.heap.size, LitO 2 0 2 [] (.slice a25 0 c25)) (by simp)).1
      have E2 := (Y25.out.box (w21.heap.size, LitO 3 0 0 [62] (.slice a21 0 c21)) (by simp)).1
      have d1 : U.cell? ⟨w25.heap.size, 1, none⟩ = some (.int .i64 0) := (BrAt.cell (b := ⟨2, 0, 2, [], false, [], 0, 0, 0, 0⟩) E1).2.1
      have d3 : U.cell? ⟨w25.heap.size, 3, none⟩ = some (.string ⟨#[]⟩) := (BrAt.cell (b := ⟨2, 0, 2, [], false, [], 0, 0, 0, 0⟩) E1).2.2.2.1
      have l3 : U.cell? ⟨w21.heap.size, 3, none⟩ = some (.string ⟨#[62]⟩) := (BrAt.cell (b := ⟨3, 0, 0, [62], false, [], 0, 0, 0, 0⟩) E2).2.2.2.1
      clear E1 E2
      go_wp2_with (first
        | (go_at_call 17; ((with_reducible refine (s24 Y25.out Q12.out Q24.out).mono ?_); rintro e w26 ⟨rfl, rfl⟩))
        | (go_at_call 19; ((with_reducible refine (s25 Y25.out (by omega)).mono ?_); rintro e w27 ⟨k27, c27, rfl, hk27, r0, r1, t⟩; have Y27 := Lib.hid (t.alloc (.cells #[.string ⟨#[100]⟩, .string ⟨#[122]⟩] 9 (0, 0))); have Z27 := Lib.hid (And.intro hk27 (And.intro r0 r1)); clear t hk27 r0 r1))
        | (go_at_call 18; ((refine (same_two Z27.out rfl rfl rfl).mono ?_); rintro e w28 ⟨rfl, n28, rfl⟩)))
      go_ret
      exact ⟨rfl, bel2 (L1.out.trans (Y27.out.ty.bel.mono L1.out.size)) (bel_drewN _ _)⟩

end Go.Proofs.YtfghoceigofoiaaDoor.T
