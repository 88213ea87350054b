/-
  The law LettersRead answers true.
-/
import Derived.Test.YtjpfhnainjhhgaaLTurnWalk
namespace Go.Proofs.Ytjpfhnainjhhgaa.W
open Go.ChangeShapes Go.WideShapes Go.ChangeAt Go.RowKit
open Go.Proofs.Ytjpfhnainjhhgaa.N (bs bs_data bs_of bs_size)

theorem txt_cut {zs : List Int} (hz : ∀ z ∈ zs, U64 z) (h : Good zs) {i : Nat} (hi : i < nw (rl zs)) : (wds (txt zs)).getD i 0 = cutv (zs.getD i 0) := by
  have hil : i < zs.length := Nat.lt_of_lt_of_le hi h.2.2.1
  have hu : U64 (zs.getD i 0) := by
    have : zs.getD i 0 = zs[i] := by simp [List.getD, hil]
    rw [this]; exact hz _ (List.getElem_mem _)
  rw [wds_at (by rw [txt_len]; exact hi), read_words h hi]
  unfold cutv
  have := hu.1
  omega

theorem cut_same (a : Int) (w : World) (h : U64 a) : Calls Try.prog 12 #[.int .u64 a] w fun e w' => e = .returned (.int .u64 (cutv a)) ∧ w' = w :=
  (cut_any a w h).mono fun _ _ ⟨q1, q2⟩ => ⟨q1, q2.symm⟩

set_option maxRecDepth 8000 in
set_option maxHeartbeats 2000000 in
theorem read_walk (p : Option Addr) (cap : Nat) (zs : List Int) (w : World) (hN : NumsIn .u64 w p zs) (hm : zs.length ≤ maxLen) (hz : ∀ n ∈ zs, (Lit.int .u64 n).wf = true) :
    Calls Try.prog 4 #[.slice p zs.length cap] w fun e w' => e = .returned (.bool true) ∧ Below w.heap.size w w' := by
  have hz' : ∀ z ∈ zs, U64 z := fun z h => u64_wf (hz z h)
  have HN := Lib.hid hN
  have HZ := Lib.hid hz'
  clear hN hz hz'
  unfold maxLen at hm
  by_cases h1 : 300 < zs.length
  · go_enter Try.func4, Try.ntmps4
    go_wp2_with (go_at_call 7; ((with_reducible refine (awake_any w).mono ?_); rintro e wa ⟨rfl, ba⟩))
    go_ret
    exact ⟨rfl, ba⟩
  by_cases hg : Good zs
  case neg =>
    have HG := Lib.hid hg
    clear hg
    go_enter Try.func4, Try.ntmps4
    go_wp2_with (first
      | (go_at_call 7; ((with_reducible refine (awake_any w).mono ?_); rintro e wa ⟨rfl, ba⟩))
      | (go_at_call 9; ((with_reducible refine (read_no (HN.out.below ba) HZ.out HG.out).mono ?_); rintro e wb ⟨rfl, bb⟩)))
    go_ret
    exact ⟨rfl, ba.trans (bb.mono ba.size)⟩
  obtain ⟨b, o, rfl, hL⟩ := HN.out hg.1
  have HL : Hid (Lie w b o zs) := Lib.hid hL
  have HG := Lib.hid hg
  have hr255 := hg.2.1
  have hnz := hg.2.2.1
  have HC : Hid (∀ i, i < nw (rl zs) → (wds (txt zs)).getD i 0 = cutv (zs.getD i 0)) := Lib.hid (fun i hi => txt_cut HZ.out hg hi)
  have hsz : (bs (txt zs)).size = rl zs := by rw [bs_size, txt_len]
  have hle : ∀ W, Calls Try.prog 11 #[.string (bs (txt zs))] W (LettersAt (txt zs) (nw (rl zs)) W) := fun W => by
    have := letters_any (bs (txt zs)) W (by omega)
    rw [bs_data, hsz] at this
    exact this
  have HLe := Lib.hid hle
  have hwl : (wds (txt zs)).length = nw (rl zs) := by rw [wds_len, txt_len]
  have HW := Lib.hid hwl
  have h65 := nw_le hr255
  clear hg hle hsz hL hwl
  have t1 : decide ((nw (rl zs) : Int) > (zs.length : Int)) = false := decide_eq_false (by omega)
  have t2 : decide (zs.length < nw (rl zs)) = false := decide_eq_false (by omega)
  go_enter Try.func4, Try.ntmps4
  go_wp2_with (first
    | (go_at_call 7; ((with_reducible refine (awake_any w).mono ?_); rintro e wa ⟨rfl, ba⟩))
    | (go_at_call 9; ((with_reducible refine (read_yes (HN.out.below ba) HZ.out HG.out rfl rfl).mono ?_); rintro e wb ⟨rfl, bb⟩; have B1 := Lib.hid (ba.trans (bb.mono ba.size)); clear ba bb))
    | (go_at_call 11; ((with_reducible refine (HLe.out wb).mono ?_); rintro e wc ⟨g, o2, c2, rfl, l2, bc⟩; have HL2 := Lib.hid l2; have B2 := Lib.hid (B1.out.trans (bc.mono B1.out.size)); clear l2)))
  go_loopw [7] (fun i W => ∃ k n : Nat, k ≤ nw (rl zs) ∧ i = .int .i64 k ∧ W = wc.drewN n) (fun i _ => nw (rl zs) - (intOf i).toNat)
  case atStart => exact ⟨0, 0, by omega, rfl, rfl⟩
  case round =>
    obtain ⟨k, n, hk, rfl, rfl⟩ := hrel
    by_cases hlt : k < nw (rl zs)
    · have a1 := HL2.out k (by rw [HW.out]; exact hlt)
      have a2 := (HL.out.below B2.out) k (by omega)
      rw [HC.out k hlt] at a1
      have hu : U64 (zs.getD k 0) := by
        have : zs.getD k 0 = zs[k]'(by omega) := by simp [List.getD, show k < zs.length by omega]
        rw [this]; exact HZ.out _ (List.getElem_mem _)
      generalize zs.getD k 0 = v at *
      have a1' : (wc.drewN n).cell? ⟨g, o2 + k, none⟩ = some (.int .u64 (cutv v)) := a1
      have a2' : (wc.drewN n).cell? ⟨b, o + k, none⟩ = some (.int .u64 v) := a2
      clear a1 a2
      have HV : Hid (∀ m, (wc.drewN n).drewN m = wc.drewN (n + m)) := Lib.hid (fun m => World.drewN_drewN _ _ _)
      generalize wc.drewN n = V at *
      have i0 : (0 : Int) ≤ (k : Int) := by omega
      have i1 : (k : Int) < (zs.length : Int) := by omega
      have i2 : (k : Int) < (nw (rl zs) : Int) := by omega
      go_wp2
      go_quiet (first
        | (go_at_call 12; exact Calls.quiet_of_same (cut_same v _ hu)))
      go_wp2
      go_roundw
      case rel => exact ⟨k + 1, n + nq, by omega, by go_num, HV.out _⟩
      case measure => simp [intOf]; omega
    · have d : decide ((k : Int) < (nw (rl zs) : Int)) = false := decide_eq_false (by omega)
      go_wp2
      go_ret
      have c4 := B2.out
      exact ⟨rfl, ⟨c4.os, c4.tape, c4.output, c4.size, c4.block⟩⟩

end Go.Proofs.Ytjpfhnainjhhgaa.W
