/-
  The law WalkKnown answers true.
-/
import Derived.Test.YtdlgliajfmfngaaDoorWSees
namespace Go.Proofs.YtdlgliajfmfngaaDoor.T
open Go.ChangeShapes Go.WideShapes Go.ChangeAt Go.RowKit
open Go.Proofs.YtdlgliajfmfngaaDoor.N (bs bs_data bs_size bs_inj bs_of Glob)
open Go.Proofs.YtdlgliajfmfngaaDoor.A (Tm TRow)

def knL : Int → Txt → Option Br := updL (updL (updL (updL noL 0 [100] (dirN 1)) 1 [115] (litB 1 3 ⟨#[]⟩)) 1 [117, 112] (linkB [62])) 0 [108] (linkB [62, 100])
theorem kn1 : wFind knL (⟨#[62, 108, 62, 117, 112, 62, 108, 62, 115]⟩ : ByteArray).data.toList = (0, litB 1 3 ⟨#[]⟩) := by kernel_rfl
theorem kn2 : wDir knL (⟨#[62, 108, 62, 117, 112]⟩ : ByteArray).data.toList = (0, 0) := by kernel_rfl
theorem kn3 : wFind knL (⟨#[62, 100, 62, 115, 62, 120]⟩ : ByteArray).data.toList = (15, noBr) := by kernel_rfl
theorem kn4 : wFind knL (⟨#[62, 113, 62, 120]⟩ : ByteArray).data.toList = (4, noBr) := by kernel_rfl
theorem kn5 : wDir knL (⟨#[62, 100, 62, 115]⟩ : ByteArray).data.toList = (0, 15) := by kernel_rfl
theorem kn6 : wFind knL (⟨#[62]⟩ : ByteArray).data.toList = (0, dirN 0) := by kernel_rfl
theorem kn7 : wTo knL (⟨#[62]⟩ : ByteArray).data.toList = (0, (⟨#[]⟩ : ByteArray).data.toList, 3) := by kernel_rfl
theorem kn8 : wTo knL (⟨#[62, 108, 62, 113]⟩ : ByteArray).data.toList = (1, (⟨#[113]⟩ : ByteArray).data.toList, 0) := by kernel_rfl
theorem kn9 : wFind knL (⟨#[120]⟩ : ByteArray).data.toList = (3, noBr) := by kernel_rfl
theorem kn10 : wIn knL 0 (⟨#[108]⟩ : ByteArray).data.toList = (0, dirN 1) := by kernel_rfl
theorem rng1 : rng 1 := ⟨by omega, by omega⟩

set_option maxHeartbeats 8000000 in
set_option maxRecDepth 20000 in
theorem walkKnown_walk {w : World} (hg : Glob w) : Calls Tryd.prog 5 #[] w fun e w' => e = .returned (.bool true) ∧ Below w.heap.size w w' := by
  have HG := Lib.hid hg
  clear hg
  go_enter Tryd.func5, Tryd.ntmps5
  go_wp2_with (first
    | (go_at_call 8; ((refine (awake8_any HG.out).mono ?_); rintro e w0 ⟨rfl, b0⟩; have G0 := Lib.hid (HG.out.below b0)))
    | (go_at_call 10; ((refine (has_new w0).mono ?_); rintro e w1 ⟨rfl, h1, s1⟩))
    | (go_at_call 23; ((with_reducible refine (has_dir h1 0 ⟨#[100]⟩ rng0 rfl (by decide) rfl (lb := 1) rfl (by omega)).mono ?_); rintro e w2 ⟨rfl, h2, s2⟩))
    | (go_at_call 23; ((with_reducible refine (has_seg h2 1 ⟨#[115]⟩ 3 rng1 rfl (by decide) rfl (by omega) (by omega) rfl (by omega)).mono ?_); rintro e w3 ⟨rfl, h3, s3⟩))
    | (go_at_call 23; ((with_reducible refine (has_link h3 G0.out 1 ⟨#[117, 112]⟩ ⟨#[62]⟩ rng1 rfl (by decide) rfl (by decide) (by omega)).mono ?_); rintro e w4 ⟨rfl, h4, s4⟩))
    | (go_at_call 23; ((with_reducible refine (has_link h4 G0.out 0 ⟨#[108]⟩ ⟨#[62, 100]⟩ rng0 rfl (by decide) rfl (by decide) (by omega)).mono ?_); rintro e w5 ⟨rfl, h5', s5⟩; have h5 : Has w0 w5 w0.heap.size 15 (Sees knL (fun d' => decide (d' = 1) || rootD d') 1 fun u' => decide (u' = 3) || false) := h5'; clear h5' h1 h2 h3 h4))
    | (go_at_call 17; ((with_reducible refine (has_find h5 G0.out ⟨#[62, 108, 62, 117, 112, 62, 108, 62, 115]⟩ (by decide) kn1).mono ?_); rintro e w6 ⟨a6, c6, rfl, o6, b6⟩; have h6 := Lib.hid (h5.below b6); clear o6 b6))
    | (go_at_call 13; ((with_reducible refine (has_wdir (h6.out.alloc _) G0.out ⟨#[62, 108, 62, 117, 112]⟩ (by decide) kn2).mono ?_); rintro e w7 ⟨rfl, b7⟩; have h7 := Lib.hid ((h6.out.alloc _).below b7); have X7 := Lib.hid ((BrAt.new w6 (litB 1 3 ⟨#[]⟩) (.slice a6 0 c6)).below b7); clear b7))
    | (go_at_call 17; ((with_reducible refine (has_find h7.out G0.out ⟨#[62, 100, 62, 115, 62, 120]⟩ (by decide) kn3).mono ?_); rintro e w8 ⟨a8, c8, rfl, o8, b8⟩; have h8 := Lib.hid (h7.out.below b8); have X8 := Lib.hid (X7.out.below b8); clear o8 b8))
    | (go_at_call 17; ((with_reducible refine (has_find (h8.out.alloc _) G0.out ⟨#[62, 113, 62, 120]⟩ (by decide) kn4).mono ?_); rintro e w9 ⟨a9, c9, rfl, o9, b9⟩; have h9 := Lib.hid ((h8.out.alloc _).below b9); have X9 := Lib.hid ((X8.out.alloc _).below b9); clear o9 b9))
    | (go_at_call 13; ((with_reducible refine (has_wdir (h9.out.alloc _) G0.out ⟨#[62, 100, 62, 115]⟩ (by decide) kn5).mono ?_); rintro e w10 ⟨rfl, b10⟩; have h10 := Lib.hid ((h9.out.alloc _).below b10); have X10 := Lib.hid ((X9.out.alloc _).below b10); clear b10))
    | (go_at_call 17; ((with_reducible refine (has_find h10.out G0.out ⟨#[62]⟩ (by decide) kn6).mono ?_); rintro e w11 ⟨a11, c11, rfl, o11, b11⟩; have h11 := Lib.hid (h10.out.below b11); have X11 := Lib.hid (X10.out.below b11); clear o11 b11))
    | (go_at_call 15; ((with_reducible refine (has_to (h11.out.alloc _) G0.out ⟨#[62]⟩ (by decide) kn7).mono ?_); rintro e w12 ⟨rfl, b12⟩; have h12 := Lib.hid ((h11.out.alloc _).below b12); have X12 := Lib.hid ((X11.out.alloc _).below b12); have Y12 := Lib.hid ((BrAt.new w11 (dirN 0) (.slice a11 0 c11)).below b12); clear b12))
    | (go_at_call 15; ((with_reducible refine (has_to h12.out G0.out ⟨#[62, 108, 62, 113]⟩ (by decide) kn8).mono ?_); rintro e w13 ⟨rfl, b13⟩; have h13 := Lib.hid (h12.out.below b13); have X13 := Lib.hid (X12.out.below b13); have Y13 := Lib.hid (Y12.out.below b13); clear b13))
    | (go_at_call 17; ((with_reducible refine (has_find h13.out G0.out ⟨#[120]⟩ (by decide) kn9).mono ?_); rintro e w14 ⟨a14, c14, rfl, o14, b14⟩; have h14 := Lib.hid (h13.out.below b14); have X14 := Lib.hid (X13.out.below b14); have Y14 := Lib.hid (Y13.out.below b14); clear o14 b14))
    | (go_at_call 21; ((with_reducible refine (has_in (h14.out.alloc _) G0.out 0 ⟨#[108]⟩ rng0 (by decide) kn10).mono ?_); rintro e w15 ⟨a15, c15, rfl, o15, b15⟩; have h15 := Lib.hid ((h14.out.alloc _).below b15); have X15 := (X14.out.alloc _).below b15; have Y15 := (Y14.out.alloc _).below b15; have x1 : w15.cell? ⟨w6.heap.size, 1, none⟩ = some (.int .i64 3) := X15.cell.2.1; have y0 : w15.cell? ⟨w11.heap.size, 0, none⟩ = some (.int .i64 2) := Y15.cell.1; have y2 : w15.cell? ⟨w11.heap.size, 2, none⟩ = some (.int .i64 0) := Y15.cell.2.2.1; have xl := X15.lt; have yl := Y15.lt; clear o15 b15)))
  go_ret
  exact ⟨rfl, bel2 b0 (h15.out.alloc _).bel⟩

end Go.Proofs.YtdlgliajfmfngaaDoor.T
