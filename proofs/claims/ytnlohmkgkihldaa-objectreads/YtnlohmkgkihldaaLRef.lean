/-
  What the document's own Letters and SameWords answer.
-/
import Derived.Test.YtnlohmkgkihldaaLRead
import Derived.Test.YtnlohmkgkihldaaQCopy
namespace Go.Proofs.Ytnlohmkgkihldaa.W
open Go.ChangeShapes Go.WideShapes Go.ChangeAt Go.RowKit
open Go.Proofs.Ytnlohmkgkihldaa.N (bs bs_data bs_of bs_size)

theorem take_eq {qs rs : List Int} {k : Nat} (hk : k < qs.length) (hk' : k < rs.length) (h : qs.take k = rs.take k) (h1 : qs.getD k 0 = rs.getD k 0) : qs.take (k + 1) = rs.take (k + 1) := by
  rw [List.take_succ_eq_append_getElem hk, List.take_succ_eq_append_getElem hk', h]
  simp [List.getD, List.getElem?_eq_getElem hk, List.getElem?_eq_getElem hk'] at h1
  rw [h1]

theorem same_diff (xs ys : List Int) (a b : Option Addr) (c d : Nat) (w : World) (h : xs.length ≠ ys.length) :
    Calls Try.prog 15 #[.slice a xs.length c, .slice b ys.length d] w fun e w' => e = .returned (.bool (decide (xs = ys))) ∧ ∃ n, w' = w.drewN n := by
  have hne : decide (xs = ys) = false := decide_eq_false (fun e => h (by rw [e]))
  have HN := Lib.hid hne
  have t1 : ((xs.length : Int) == (ys.length : Int)) = false := beq_eq_false_iff_ne.2 (by omega)
  clear hne
  go_enter Try.func15, Try.ntmps15
  go_wp2
  all_goals
    go_ret
    rw [HN.out]
    exact ⟨rfl, 0, rfl⟩

theorem same_any (xs ys : List Int) {g1 o1 g2 o2 c d : Nat} (w : World) (h1 : Lie w g1 o1 xs) (h2 : Lie w g2 o2 ys) (hx : xs.length ≤ 1024) :
    Calls Try.prog 15 #[.slice (some ⟨g1, o1, none⟩) xs.length c, .slice (some ⟨g2, o2, none⟩) ys.length d] w fun e w' => e = .returned (.bool (decide (xs = ys))) ∧ ∃ n, w' = w.drewN n := by
  by_cases hlen : xs.length = ys.length
  case neg => exact same_diff xs ys _ _ c d w hlen
  have H1 := Lib.hid h1
  have H2 := Lib.hid h2
  have HE := Lib.hid hlen
  clear h1 h2
  go_enter Try.func15, Try.ntmps15
  go_wp2
  go_loopw [5] (fun i W => ∃ k n : Nat, k ≤ xs.length ∧ i = .int .i64 k ∧ W = w.drewN n ∧ Hid (xs.take k = ys.take k)) (fun i _ => xs.length - (intOf i).toNat)
  case atStart => exact ⟨0, 0, by omega, rfl, rfl, Lib.hid rfl⟩
  case round =>
    obtain ⟨k, n, hk, rfl, rfl, ha⟩ := hrel
    by_cases hlt : k < xs.length
    · have hlt' : k < ys.length := by have := HE.out; omega
      have a1 := H1.out k hlt
      have a2 := H2.out k hlt'
      have i0 : (0 : Int) ≤ (k : Int) := by omega
      have i1 : (k : Int) < (xs.length : Int) := by omega
      have i2 : (k : Int) < (ys.length : Int) := by omega
      by_cases hv : xs.getD k 0 = ys.getD k 0
      · have HT := Lib.hid (take_eq hlt hlt' ha.out hv)
        rw [← hv] at a2
        generalize xs.getD k 0 = v at *
        clear hv
        go_wp2
        go_quiet (fail)
        go_wp2
        go_roundw
        case rel => exact ⟨k + 1, n + nq, by omega, by go_num, by first | rfl | rw [World.drewN_drewN], HT⟩
        case measure => simp [intOf]; omega
      · have hne : decide (xs = ys) = false := decide_eq_false (fun e => hv (by rw [e]))
        have HN := Lib.hid hne
        clear hne
        have t1 : (xs.getD k 0 == ys.getD k 0) = false := beq_eq_false_iff_ne.2 hv
        generalize xs.getD k 0 = v at *
        generalize ys.getD k 0 = u at *
        go_wp2
        go_quiet (fail)
        go_wp2
        go_ret
        rw [HN.out]
        exact ⟨rfl, n + nq, by first | rfl | rw [World.drewN_drewN]⟩
    · have hye : decide (xs = ys) = true := decide_eq_true (by
        have e1 := ha.out
        rw [List.take_of_length_le (by omega), List.take_of_length_le (by have := HE.out; omega)] at e1
        exact e1)
      have HY := Lib.hid hye
      clear hye
      have d : decide ((k : Int) < (xs.length : Int)) = false := decide_eq_false (by omega)
      go_wp2
      go_ret
      rw [HY.out]
      exact ⟨rfl, n, rfl⟩

/-- a slice that holds the words of a text -/
def LettersAt (l : List UInt8) (n : Nat) (w : World) (e : Ending) (w' : World) : Prop :=
  ∃ g o c, e = .returned (.slice (some ⟨g, o, none⟩) n c) ∧ Lie w' g o (wds l) ∧ Below w.heap.size w w'

theorem hor_step (l : List UInt8) (i k : Nat) (hk : k < 4) : IntKind.u64.wrap (IntKind.u64.wrap ((hor l i k : Nat) : Int) * 512) = ((hor l i k * 512 : Nat) : Int) := by
  have := hor_lt l i k (by omega)
  rw [IntKind.wrap_u64, IntKind.wrap_u64]
  omega

set_option maxRecDepth 8000 in
set_option maxHeartbeats 1000000 in
theorem letters_any (s : ByteArray) (w : World) (h : s.size ≤ 255) :
    Calls Try.prog 35 #[.string s] w (LettersAt s.data.toList (nw s.size) w) := by
  have hsz : s.data.toList.length = s.size := Array.length_toList
  obtain ⟨i0, hi, hz0, hz1, hz2⟩ := info_parts info_word
  go_enter Try.func35, Try.ntmps35
  go_wp2
  have h0 : Que w.heap.size 37 .u64 (w.alloc (.cells #[.int .u64 s.size] 37)) (.slice (some ⟨w.heap.size, 0, none⟩) 1 1) (fst s.data.toList 0) :=
    Or.inr ⟨w.heap.size, 0, 1, _, by simp [fst], Nat.le_refl _, heap_alloc_new w _, by simp [fst], by simp, fun i hi => by
      simp [fst] at hi
      subst hi
      simp [fst, hsz]⟩
  go_loopw [3, 4] (fun v i W => ∃ n j : Nat, n = 4 * j ∧ j ≤ (s.size + 3) / 4 ∧ i = .int .i64 n ∧ Que w.heap.size 37 .u64 W v (fst s.data.toList j) ∧ Below w.heap.size w W) (fun _ i _ => s.size + 4 - (intOf i).toNat)
  case atStart => exact ⟨0, 0, rfl, by omega, rfl, h0, (Below.refl _ _).alloc (Nat.le_refl _) _⟩
  case round =>
    clear h0
    obtain ⟨n, j, hn, hj, rfl, hq, hB⟩ := hrel
    have HQ := Lib.hid hq
    have HN := Lib.hid hn
    clear hq hn
    by_cases hlt : n < s.size
    · go_wp2
      go_loop [5, 6] (fun x i => ∃ k : Nat, k ≤ 4 ∧ i = .int .i64 k ∧ x = .int .u64 (hor s.data.toList n k)) (fun _ i => 4 - (intOf i).toNat)
      case atStart => exact ⟨0, by omega, rfl, rfl⟩
      case round =>
        obtain ⟨k, hk, rfl, rfl⟩ := hrel
        have hh := hor_lt s.data.toList n k hk
        by_cases h4 : k < 4
        · have e1 : hor s.data.toList n (k + 1) = hor s.data.toList n k * 512 + bt s.data.toList (n + k) := rfl
          have hh1 := hor_lt s.data.toList n (k + 1) (by omega)
          have hb := bt_lt s.data.toList (n + k)
          by_cases hin : n + k < s.size
          · have e2 := bt_of s hin
            go_wp2
            go_round
            case rel => exact ⟨k + 1, by omega, by go_num, by go_num⟩
            case measure => simp [intOf]; omega
          · have e2 : bt s.data.toList (n + k) = 0 := bt_out (by omega)
            go_wp2
            go_round
            case rel => exact ⟨k + 1, by omega, by go_num, by go_num⟩
            case measure => simp [intOf]; omega
        · obtain rfl : k = 4 := by omega
          have eq4 : hor s.data.toList n 4 = quad s.data.toList j := by rw [HN.out]; exact hor_quad _ _
          rw [eq4]
          have hbs := hB.size
          have HA := Lib.hid (HQ.out.below ((Below.refl wr.heap.size wr).alloc (Nat.le_refl _) (.cells #[.int .u64 (quad s.data.toList j)] 37)))
          clear hh eq4
          generalize hx : quad s.data.toList j = x at *
          rw [show ((4 : Nat) : Int) = 4 from rfl]
          go_wp2_with (at_builtin; refine wpList_que rfl _ _ rfl Try.underlying22 hi hz0 hz1 hz2 (by omega) rfl HA.out (by rw [fst_len]; omega) (by simp; omega) ⟨wr.heap.size, 0, none⟩ 1 rfl x (by simp [Addr.add_lit, World.cell?_alloc_new]) ?_; intro v3 w3 hv3 hgr3 ho3)
          go_roundw
          case rel =>
            rw [← hx, fst_step] at hv3
            refine ⟨n + 4, j + 1, by have := HN.out; omega, by have := HN.out; omega, by go_num, hv3, hB.trans ⟨hgr3.os, hgr3.tape, hgr3.output, Nat.le_trans (by simp) hgr3.size, fun i hi => ?_⟩⟩
            refine (hgr3.block i (by simp; omega) (fun e => ?_)).trans (heap_alloc_old wr _ (by omega))
            have := (HQ.out.lt i e.symm).1
            omega
          case measure => simp [intOf]; omega
    · have d : decide ((n : Int) < (s.size : Int)) = false := decide_eq_false (by omega)
      obtain rfl : j = (s.size + 3) / 4 := by have := HN.out; omega
      have hq := HQ.out
      rw [← hsz, fst_all] at hq
      rcases hq with ⟨_, h2⟩ | ⟨g, off, cap, cur, rfl, hb, hhp, hlc, hs, hcell⟩
      · have := congrArg List.length h2
        rw [wds_len] at this
        have := nw_pos s.data.toList.length
        simp at *
        omega
      · have hlie : Hid (Lie wr g off (wds s.data.toList)) := Lib.hid (fun i hi => by rw [cell_of_row wr g _ cur _ (0, 0) hhp]; exact hcell i hi)
        have HLn : (wds s.data.toList).length = nw s.size := by rw [wds_len, hsz]
        clear hcell hhp HQ hlc
        go_wp2
        go_ret
        exact ⟨g, off, cap, by rw [HLn]; rfl, hlie.out, hB⟩

end Go.Proofs.Ytnlohmkgkihldaa.W
