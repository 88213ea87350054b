/-
  The law NamesKnown answers true: the names by hand.
-/
import Derived.Test.YtipohdaofnhnpaaDoorNSplitWalk
namespace Go.Proofs.YtipohdaofnhnpaaDoor.N
open Go.ChangeShapes Go.WideShapes Go.ChangeAt Go.RowKit

def oks : List (List UInt8) := [[97], [33], [126], [60], [97, 46, 98], [42], [49, 50, 51, 52, 53, 54, 55, 56, 57, 48, 49, 50, 51, 52, 53, 54, 55, 56, 57, 48, 49, 50, 51, 52, 53, 54, 55, 56, 57, 48, 49, 50]]
def bads : List (List UInt8) := [[], [32], [97, 32, 98], [62], [97, 62, 98], [127], [128], [49, 50, 51, 52, 53, 54, 55, 56, 57, 48, 49, 50, 51, 52, 53, 54, 55, 56, 57, 48, 49, 50, 51, 52, 53, 54, 55, 56, 57, 48, 49, 50, 51]]
theorem oks_may : ∀ p ∈ oks, may 32 p = true := by decide
theorem bads_not : ∀ p ∈ bads, may 32 p = false := by decide
theorem oks_len : ∀ p ∈ oks, p.length ≤ 33 := by decide
theorem bads_len : ∀ p ∈ bads, p.length ≤ 33 := by decide

theorem sp_root (w : World) (hg : Glob w) : Calls Tryd.prog 9 #[.string ⟨#[62]⟩] w (SplitAt [] 0 0 w) := split_at ⟨#[62]⟩ w (by decide) hg (by decide) rfl (by decide)
theorem sp_none (w : World) (hg : Glob w) : Calls Tryd.prog 9 #[.string ⟨#[]⟩] w (SplitAt [] 0 3 w) := split_at ⟨#[]⟩ w (by decide) hg (by decide) rfl (by decide)
theorem sp_two (w : World) (hg : Glob w) : Calls Tryd.prog 9 #[.string ⟨#[62, 62]⟩] w (SplitAt [] 0 3 w) := split_at ⟨#[62, 62]⟩ w (by decide) hg (by decide) rfl (by decide)
theorem sp_a (w : World) (hg : Glob w) : Calls Tryd.prog 9 #[.string ⟨#[97]⟩] w (SplitAt [] 0 3 w) := split_at ⟨#[97]⟩ w (by decide) hg (by decide) rfl (by decide)
theorem pa_root (w : World) (hg : Glob w) : Calls Tryd.prog 16 #[.string ⟨#[62]⟩] w fun e w' => e = .returned (.tuple #[.string ⟨#[]⟩, .string ⟨#[]⟩, .int .i64 3]) ∧ Below w.heap.size w w' := by
  refine (parent_any ⟨#[62]⟩ w (by decide) hg).mono fun e w' ⟨he, hb⟩ => ⟨?_, hb⟩
  rw [he]
  show Ending.returned (.tuple #[.string (bs (up [62])), .string (bs (lastOf [62])), .int .i64 (pe [62])]) = _
  rw [show up [62] = [] by decide, show lastOf [62] = [] by decide, show pe [62] = 3 by decide]; rfl
theorem pa_x (w : World) (hg : Glob w) : Calls Tryd.prog 16 #[.string ⟨#[62, 120]⟩] w fun e w' => e = .returned (.tuple #[.string ⟨#[62]⟩, .string ⟨#[120]⟩, .int .i64 0]) ∧ Below w.heap.size w w' := by
  refine (parent_any ⟨#[62, 120]⟩ w (by decide) hg).mono fun e w' ⟨he, hb⟩ => ⟨?_, hb⟩
  rw [he]
  show Ending.returned (.tuple #[.string (bs (up [62, 120])), .string (bs (lastOf [62, 120])), .int .i64 (pe [62, 120])]) = _
  rw [show up [62, 120] = [62] by decide, show lastOf [62, 120] = [120] by decide, show pe [62, 120] = 0 by decide]; rfl
theorem us_16 (w : World) : Calls Tryd.prog 14 #[.string ⟨#[49, 50, 51, 52, 53, 54, 55, 56, 57, 48, 49, 50, 51, 52, 53, 54]⟩] w fun e w' => e = .returned (.bool true) ∧ ∃ n, w' = w.drewN n := user_any ⟨#[49, 50, 51, 52, 53, 54, 55, 56, 57, 48, 49, 50, 51, 52, 53, 54]⟩ w (by decide)
theorem us_17 (w : World) : Calls Tryd.prog 14 #[.string ⟨#[49, 50, 51, 52, 53, 54, 55, 56, 57, 48, 49, 50, 51, 52, 53, 54, 55]⟩] w fun e w' => e = .returned (.bool false) ∧ ∃ n, w' = w.drewN n := user_any ⟨#[49, 50, 51, 52, 53, 54, 55, 56, 57, 48, 49, 50, 51, 52, 53, 54, 55]⟩ w (by decide)

set_option maxHeartbeats 2000000 in
set_option maxRecDepth 10000 in
theorem namesKnown_walk (w : World) (hg : Glob w) : Calls Tryd.prog 5 #[] w fun e w' => e = .returned (.bool true) ∧ Below w.heap.size w w' := by
  have HG := Lib.hid hg
  clear hg
  go_enter Tryd.func5, Tryd.ntmps5
  go_wp2_with (go_at_call 8; refine (awake_any _ HG.out).mono ?_; rintro e w0 ⟨rfl, hb0⟩)
  have hR1 : Row ((w0.alloc (.cells (oks.map fun p => Value.string (bs p)).toArray 9)).alloc (.cells (bads.map fun p => Value.string (bs p)).toArray 9)) (some ⟨w0.heap.size, 0, none⟩) 7 oks := (Row.lit w0 oks 9 7 (by decide)).alloc _
  have hR2 : Row ((w0.alloc (.cells (oks.map fun p => Value.string (bs p)).toArray 9)).alloc (.cells (bads.map fun p => Value.string (bs p)).toArray 9)) (some ⟨w0.heap.size + 1, 0, none⟩) 8 bads := by
    have := Row.lit (w0.alloc (.cells (oks.map fun p => Value.string (bs p)).toArray 9)) bads 9 8 (by decide)
    rwa [show (w0.alloc (.cells (oks.map fun p => Value.string (bs p)).toArray 9)).heap.size = w0.heap.size + 1 by simp] at this
  have hB : Below w.heap.size w ((w0.alloc (.cells (oks.map fun p => Value.string (bs p)).toArray 9)).alloc (.cells (bads.map fun p => Value.string (bs p)).toArray 9)) := (hb0.alloc hb0.size _).alloc (by have := hb0.size; simp; omega) _
  have H1 := Lib.hid hR1
  have H2 := Lib.hid hR2
  have HB := Lib.hid hB
  clear hR1 hR2 hB
  go_loopw [3] (fun i W => ∃ k : Nat, k ≤ 7 ∧ i = .int .i64 k ∧ Hid (Row W (some ⟨w0.heap.size, 0, none⟩) 7 oks) ∧ Hid (Row W (some ⟨w0.heap.size + 1, 0, none⟩) 8 bads) ∧ Below w.heap.size w W) (fun i _ => 7 - (intOf i).toNat)
  case atStart => exact ⟨0, by omega, rfl, H1, H2, HB.out⟩
  case round =>
    obtain ⟨k, hk, rfl, HR, HS, hb⟩ := hrel
    clear H1 H2 HB
    by_cases hlt : k < 7
    · have hlo : k < oks.length := hlt
      obtain ⟨bk, o, he, hbk, hc⟩ := HR.out.at_ hlo
      obtain ⟨rfl, rfl⟩ : bk = w0.heap.size ∧ o = 0 := by injection he with he; injection he with h1 h2; exact ⟨h1.symm, h2.symm⟩
      rw [Nat.zero_add] at hc
      have hsz : (bs oks[k]).size ≤ maxLen := by rw [bs_size]; have := oks_len _ (List.getElem_mem hlo); unfold maxLen; omega
      have e1 : may 32 (bs oks[k]).data.toList = true := by rw [bs_data]; exact oks_may _ (List.getElem_mem hlo)
      go_wp2_with (go_at_call 12; refine (may_any _ _ hsz).mono ?_; rintro e w' ⟨rfl, n', rfl⟩)
      go_roundw
      case rel => exact ⟨k + 1, by omega, by go_num, HR, HS, belowN hb _⟩
      case measure => simp [intOf]; omega
    · obtain rfl : k = 7 := by omega
      rw [show ((7 : Nat) : Int) = 7 from rfl]
      go_wp2
      go_loopw [4] (fun i W => ∃ k : Nat, k ≤ 8 ∧ i = .int .i64 k ∧ Hid (Row W (some ⟨w0.heap.size + 1, 0, none⟩) 8 bads) ∧ Below w.heap.size w W) (fun i _ => 8 - (intOf i).toNat)
      case atStart => exact ⟨0, by omega, rfl, HS, hb⟩
      case round =>
        clear HR HS hb
        obtain ⟨k, hk, rfl, HS, hb⟩ := hrel
        by_cases hlt : k < 8
        · have hlo : k < bads.length := hlt
          obtain ⟨bk, o, he, hbk, hc⟩ := HS.out.at_ hlo
          obtain ⟨rfl, rfl⟩ : bk = w0.heap.size + 1 ∧ o = 0 := by injection he with he; injection he with h1 h2; exact ⟨h1.symm, h2.symm⟩
          rw [Nat.zero_add] at hc
          have hsz : (bs bads[k]).size ≤ maxLen := by rw [bs_size]; have := bads_len _ (List.getElem_mem hlo); unfold maxLen; omega
          have e1 : may 32 (bs bads[k]).data.toList = false := by rw [bs_data]; exact bads_not _ (List.getElem_mem hlo)
          go_wp2_with (go_at_call 12; refine (may_any _ _ hsz).mono ?_; rintro e w' ⟨rfl, n', rfl⟩)
          go_roundw
          case rel => exact ⟨k + 1, by omega, by go_num, HS, belowN hb _⟩
          case measure => simp [intOf]; omega
        · obtain rfl : k = 8 := by omega
          rw [show ((8 : Nat) : Int) = 8 from rfl]
          go_wp2_with (first
            | (go_at_call 9; first
                | ((with_reducible refine (sp_root _ (HG.out.below hb)).mono ?_); rintro e w1 ⟨a1, c1, rfl, -, hb1⟩)
                | ((with_reducible refine (sp_none _ (HG.out.below (below2 hb hb1))).mono ?_); rintro e w2 ⟨a2, c2, rfl, -, hb2⟩)
                | ((with_reducible refine (sp_two _ (HG.out.below (below2 (below2 hb hb1) hb2))).mono ?_); rintro e w3 ⟨a3, c3, rfl, -, hb3⟩)
                | ((with_reducible refine (sp_a _ (HG.out.below (below2 (below2 (below2 hb hb1) hb2) hb3))).mono ?_); rintro e w4 ⟨a4, c4, rfl, -, hb4⟩; have hb5 := below2 (below2 (below2 (below2 hb hb1) hb2) hb3) hb4))
            | (go_at_call 16; first
                | ((with_reducible refine (pa_root _ (HG.out.below hb5)).mono ?_); rintro e w5 ⟨rfl, hb6⟩)
                | ((with_reducible refine (pa_x _ (HG.out.below (below2 hb5 hb6))).mono ?_); rintro e w6 ⟨rfl, hb7⟩))
            | (go_at_call 14; first
                | ((with_reducible refine (us_16 _).mono ?_); rintro e w7 ⟨rfl, n7, rfl⟩)
                | ((with_reducible refine (us_17 _).mono ?_); rintro e w7 ⟨rfl, n8, rfl⟩)))
          go_ret
          exact ⟨rfl, belowN (below2 (below2 hb5 hb6) hb7) _⟩

end Go.Proofs.YtipohdaofnhnpaaDoor.N
