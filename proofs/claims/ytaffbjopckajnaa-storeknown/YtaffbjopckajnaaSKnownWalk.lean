/-
  The law StoreKnown answers true: segments by hand.
-/
import Derived.Test.YtaffbjopckajnaaSSteps
namespace Go.Proofs.Ytaffbjopckajnaa.W
open Go.ChangeShapes Go.WideShapes Go.ChangeAt Go.RowKit

theorem msk_seven : msk 68719476743 = 7 := by
  unfold msk
  rw [mask_int _ (by omega) (by omega)]
  rfl

theorem last_seven : ([0, 0, 0, 0, 0, 0, 0, 0, 0, 0, 0, msk 68719476743] : List Int).getD (11 : Int).toNat 0 = 7 := msk_seven

set_option maxRecDepth 8000 in
set_option maxHeartbeats 4000000 in
theorem known_walk (w : World) : Calls Try.prog 3 #[] w fun e w' => e = .returned (.bool true) ∧ Below w.heap.size w w' := by
  go_enter Try.func3, Try.ntmps3
  go_wp2_with (first
    | (go_at_call 7; ((with_reducible refine (awake_any w).mono ?_); rintro e wa ⟨rfl, ba⟩))
    | (go_at_call 8; ((with_reducible refine (new_at (q := 12) (by omega) wa).mono ?_); rintro e wb ⟨rfl, hs0, bb, sb⟩))
    | (go_at_call 8; ((with_reducible refine (new_low (q := -5) (by omega) wb).mono ?_); rintro e w0 ⟨rfl, hz, bc, sc⟩; have hs := hs0.below bc; have D : Both w w0 (fun i => i = wa.heap.size) (fun i => i = wb.heap.size) := ⟨⟨(ba.trans (bb.mono ba.size)).trans (bc.mono (Nat.le_trans ba.size bb.size)), fun i hi => hi ▸ ba.size⟩, ⟨(ba.trans (bb.mono ba.size)).trans (bc.mono (Nat.le_trans ba.size bb.size)), fun i hi => hi ▸ Nat.le_trans ba.size bb.size⟩, fun i hi hj => by omega⟩; clear hs0 bb bc sb sc ba))
    | (go_at_call 9; ((with_reducible refine (make_is hs (n := 4) (u' := 4) (l' := 1) (ws' := [0, 0, 0, 0]) (by omega) (by omega) (by omega) (by omega) (by omega) (by omega) (by omega) (by omega) (by omega) rfl rfl rfl).mono ?_); rintro e w1 ⟨rfl, F1, S1, hs1, g1, x1⟩; have hz1 := D.kept x1 hz; have D1 := D.went x1 hz; clear hs hz D x1))
    | (go_at_call 10; ((with_reducible refine (write_is hs1 (k := 1) (o := 3) (x := 68719476743) (ws' := [0, 0, 0, msk 68719476743]) (by omega) (by omega) g1.at_ (by omega) (by decide) rfl).mono ?_); rintro e w2 ⟨rfl, S2, hs2, g2, x2⟩; have hz2 := D1.kept x2 hz1; have D2 := D1.went x2 hz1; clear hs1 hz1 D1 x2 g1))
    | (go_at_call 11; ((with_reducible refine (resize_is hs2 (k := 1) (n := 2) (u' := 2) (ws' := [0, 0]) (by omega) (by omega) g2.at_ (by omega) (by omega) (by decide) (by omega) (by omega) (by omega) (by omega) rfl rfl).mono ?_); rintro e w3 ⟨rfl, F3, S3, hs3, g3, x3⟩; have hz3 := D2.kept x3 hz2; have D3 := D2.went x3 hz2; clear hs2 hz2 D2 x3 g2))
    | (go_at_call 11; ((with_reducible refine (resize_is hs3 (k := 1) (n := 4) (u' := 4) (ws' := [0, 0, 0, 0]) (by omega) (by omega) g3.at_ (by omega) (by omega) (by decide) (by omega) (by omega) (by omega) (by omega) rfl rfl).mono ?_); rintro e w4 ⟨rfl, F4, S4, hs4, g4, x4⟩; have hz4 := D3.kept x4 hz3; have D4 := D3.went x4 hz3; clear hs3 hz3 D3 x4 g3))
    | (go_at_call 12; ((with_reducible refine (read_is hs4 (k := 1) (o := 3) (x := 0) (by omega) (by omega) g4.at_ (by omega) (by decide) rfl).mono ?_); rintro e w5 ⟨rfl, rfl⟩))
    | (go_at_call 13; ((with_reducible refine (drop_is hs4 (k := 1) (u' := 0) (by omega) (by omega) g4.at_ (by omega) (by omega) rfl).mono ?_); rintro e w5 ⟨rfl, S5, hs5, g5, x5⟩; have hz5 := D4.kept x5 hz4; have D5 := D4.went x5 hz4; clear hs4 hz4 D4 x5 g4))
    | (go_at_call 9; ((with_reducible refine (make_is hs5 (n := 12) (u' := 12) (l' := 2) (ws' := [0, 0, 0, 0, 0, 0, 0, 0, 0, 0, 0, 0]) (by omega) (by omega) (by omega) (by omega) (by omega) (by omega) (by omega) (by omega) (by omega) rfl rfl rfl).mono ?_); rintro e w6 ⟨rfl, F6, S6, hs6, g6, x6⟩; have hz6 := D5.kept x6 hz5; have D6 := D5.went x6 hz5; have n6 := (g6.off 1 (by omega)).trans g5.at_; clear hs5 hz5 D5 x6 g5))
    | (go_at_call 9; ((with_reducible refine (make_arg hs6 (n := -1) (by omega) (by omega) (by omega) (by omega)).mono ?_); rintro e w7 ⟨rfl, hs7, x7⟩; have hz7 := D6.kept x7 hz6; have D7 := D6.went x7 hz6; clear hs6 hz6 D6 x7))
    | (go_at_call 9; ((with_reducible refine (make_arg hs7 (n := 1025) (by omega) (by omega) (by omega) (by omega)).mono ?_); rintro e w8 ⟨rfl, hs8, x8⟩; have hz8 := D7.kept x8 hz7; have D8 := D7.went x8 hz7; clear hs7 hz7 D7 x8))
    | (go_at_call 11; ((with_reducible refine (resize_quota hs8 (k := 2) (n := 13) (by omega) (by omega) g6.at_ (by omega) (by omega) (by decide) (by omega) (by omega) (by omega)).mono ?_); rintro e w9 ⟨rfl, hs9, x9⟩; have hz9 := D8.kept x9 hz8; have D9 := (D8.went x9 hz8).swap; clear hs8 hz8 D8 x9))
    | (go_at_call 9; ((with_reducible refine (make_is hz9 (n := 0) (u' := 0) (l' := 1) (ws' := []) (by omega) (by omega) (by omega) (by omega) (by omega) (by omega) (by omega) (by omega) (by omega) rfl rfl rfl).mono ?_); rintro e wx ⟨rfl, Fx, Sx, hzx, gx, xx⟩; have hsx := D9.kept xx hs9; have Dx := D9.went xx hs9; clear hs9 hz9 D9 xx gx))
    | (go_at_call 9; ((with_reducible refine (make_quota hzx (n := 1) (by omega) (by omega) (by omega) (by omega) (by omega) (by omega)).mono ?_); rintro e wy ⟨rfl, hzy, xy⟩; have hsy := Dx.kept xy hsx; have Dy := (Dx.went xy hsx).swap; clear hsx hzx Dx xy))
    | (go_at_call 10; ((with_reducible refine (write_out hsy (k := 2) (o := 12) (x := 0) (by omega) (by omega) g6.at_ (by decide)).mono ?_); rintro e wz ⟨rfl, rfl⟩))
    | (go_at_call 10; ((with_reducible refine (write_is hsy (k := 2) (o := 11) (x := 68719476743) (ws' := [0, 0, 0, 0, 0, 0, 0, 0, 0, 0, 0, msk 68719476743]) (by omega) (by omega) g6.at_ (by omega) (by decide) rfl).mono ?_); rintro e wz ⟨rfl, Sz, hsz, gz, xz⟩; have Dz := Dy.went xz hzy; have nz := (gz.off 1 (by omega)).trans n6; clear hsy hzy Dy xz g6 n6))
    | (go_at_call 12; ((with_reducible refine (read_is hsz (k := 2) (o := 11) (x := 7) (by omega) (by omega) gz.at_ (by omega) (by decide) last_seven).mono ?_); rintro e wq ⟨rfl, rfl⟩))
    | (go_at_call 13; ((with_reducible refine (drop_no hsz (k := 1) (by omega) (by omega) nz).mono ?_); rintro e wq ⟨rfl, rfl⟩))
    | (go_at_call 14; ((with_reducible refine (used_at hsz).mono ?_); rintro e wq ⟨rfl, rfl⟩)))
  go_ret
  exact ⟨rfl, Dz.one.below⟩

end Go.Proofs.Ytaffbjopckajnaa.W
