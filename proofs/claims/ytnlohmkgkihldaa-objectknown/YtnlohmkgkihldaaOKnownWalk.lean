/-
  The law ObjectKnown answers true.
-/
import Derived.Test.YtnlohmkgkihldaaOKnownMem
namespace Go.Proofs.Ytnlohmkgkihldaa.W
open Go.ChangeShapes Go.WideShapes Go.ChangeAt Go.RowKit
open Go.Proofs.Ytnlohmkgkihldaa.N (bs bs_data bs_of bs_size may may_pos retB)

def obK : Ob := ⟨[5, 6], [7], [([103, 111], 1)], [([97], [98], 3)]⟩
def wdK : List Int := [5, 6, 7, 2, 13853523968, 1, 1, 13019119616, 1, 13153337344, 3, 2, 1, 1, 1, 45812815077]
theorem obK_may : mayOb obK = true := by kernel_rfl
theorem obK_words : wOb obK = wdK := by kernel_rfl
theorem obK_fit : Fit obK := fit_of (by kernel_rfl)
def obZ : Ob := ⟨List.replicate 512 0, List.replicate 64 0, [], []⟩
theorem obZ_may : mayOb obZ = true := by kernel_rfl
theorem obZ_fit : Fit obZ := fit_of (by kernel_rfl)
theorem cut_no : ∀ o, May o → wOb o ≠ wdK.tail := obOk_no (by kernel_rfl)
/-- the object of the law, in its box -/
def CutK (w1 : World) (v : Value) (W : World) : Prop := ∃ g q, v = .pointer (some ⟨g, 0, none⟩) ∧ ObAt4 W g 0 q obK ∧ ObIn W q obK ∧ Below w1.heap.size w1 W
theorem cutK_is (w1 : World) : CutK w1 (.pointer (some ⟨w1.heap.size + 1 + 1 + 1 + 1, 0, none⟩)) (((((w1.alloc (.cells #[.int .u64 5, .int .u64 6] 37)).alloc (.cells #[.int .u64 7] 37)).alloc (.cells #[.string (bs [103, 111]), .int .i64 1] 41)).alloc (.cells #[.string (bs [97]), .string (bs [98]), .int .i64 3] 43)).alloc (.cells #[.slice (some ⟨w1.heap.size, 0, none⟩) 2 2, .slice (some ⟨w1.heap.size + 1, 0, none⟩) 1 1, .slice (some ⟨w1.heap.size + 1 + 1, 0, none⟩) 1 1, .slice (some ⟨w1.heap.size + 1 + 1 + 1, 0, none⟩) 1 1] 27)) := by
  have n1 := nums_new w1 [5, 6]
  have n2 := nums_new (w1.alloc (.cells #[.int .u64 5, .int .u64 6] 37)) [7]
  have n3 : DRow (((w1.alloc (.cells #[.int .u64 5, .int .u64 6] 37)).alloc (.cells #[.int .u64 7] 37)).alloc (.cells #[.string (bs [103, 111]), .int .i64 1] 41)) (some ⟨((w1.alloc (.cells #[.int .u64 5, .int .u64 6] 37)).alloc (.cells #[.int .u64 7] 37)).heap.size, 0, none⟩) [([103, 111], 1)] := dcells (fun j hj => by
    obtain rfl : j = 0 := by simp at hj; exact hj
    exact ⟨rfl, rfl⟩)
  have n4 : KRow ((((w1.alloc (.cells #[.int .u64 5, .int .u64 6] 37)).alloc (.cells #[.int .u64 7] 37)).alloc (.cells #[.string (bs [103, 111]), .int .i64 1] 41)).alloc (.cells #[.string (bs [97]), .string (bs [98]), .int .i64 3] 43)) (some ⟨(((w1.alloc (.cells #[.int .u64 5, .int .u64 6] 37)).alloc (.cells #[.int .u64 7] 37)).alloc (.cells #[.string (bs [103, 111]), .int .i64 1] 41)).heap.size, 0, none⟩) [([97], [98], 3)] := kcells (fun j hj => by
    obtain rfl : j = 0 := by simp at hj; exact hj
    exact ⟨rfl, rfl, rfl⟩)
  have n5 := heap_alloc_new ((((w1.alloc (.cells #[.int .u64 5, .int .u64 6] 37)).alloc (.cells #[.int .u64 7] 37)).alloc (.cells #[.string (bs [103, 111]), .int .i64 1] 41)).alloc (.cells #[.string (bs [97]), .string (bs [98]), .int .i64 3] 43)) (.cells #[.slice (some ⟨w1.heap.size, 0, none⟩) 2 2, .slice (some ⟨w1.heap.size + 1, 0, none⟩) 1 1, .slice (some ⟨w1.heap.size + 1 + 1, 0, none⟩) 1 1, .slice (some ⟨w1.heap.size + 1 + 1 + 1, 0, none⟩) 1 1] 27)
  have b1 := one_new w1 (.cells #[.int .u64 5, .int .u64 6] 37)
  have b2 := one_new (w1.alloc (.cells #[.int .u64 5, .int .u64 6] 37)) (.cells #[.int .u64 7] 37)
  have b3 := one_new ((w1.alloc (.cells #[.int .u64 5, .int .u64 6] 37)).alloc (.cells #[.int .u64 7] 37)) (.cells #[.string (bs [103, 111]), .int .i64 1] 41)
  have b4 := one_new (((w1.alloc (.cells #[.int .u64 5, .int .u64 6] 37)).alloc (.cells #[.int .u64 7] 37)).alloc (.cells #[.string (bs [103, 111]), .int .i64 1] 41)) (.cells #[.string (bs [97]), .string (bs [98]), .int .i64 3] 43)
  have b5 := one_new ((((w1.alloc (.cells #[.int .u64 5, .int .u64 6] 37)).alloc (.cells #[.int .u64 7] 37)).alloc (.cells #[.string (bs [103, 111]), .int .i64 1] 41)).alloc (.cells #[.string (bs [97]), .string (bs [98]), .int .i64 3] 43)) (.cells #[.slice (some ⟨w1.heap.size, 0, none⟩) 2 2, .slice (some ⟨w1.heap.size + 1, 0, none⟩) 1 1, .slice (some ⟨w1.heap.size + 1 + 1, 0, none⟩) 1 1, .slice (some ⟨w1.heap.size + 1 + 1 + 1, 0, none⟩) 1 1] 27)
  have s1 : (w1.alloc (.cells #[.int .u64 5, .int .u64 6] 37)).heap.size = w1.heap.size + 1 := by simp
  have s2 : ((w1.alloc (.cells #[.int .u64 5, .int .u64 6] 37)).alloc (.cells #[.int .u64 7] 37)).heap.size = w1.heap.size + 1 + 1 := by simp
  have s3 : (((w1.alloc (.cells #[.int .u64 5, .int .u64 6] 37)).alloc (.cells #[.int .u64 7] 37)).alloc (.cells #[.string (bs [103, 111]), .int .i64 1] 41)).heap.size = w1.heap.size + 1 + 1 + 1 := by simp
  have s4 : ((((w1.alloc (.cells #[.int .u64 5, .int .u64 6] 37)).alloc (.cells #[.int .u64 7] 37)).alloc (.cells #[.string (bs [103, 111]), .int .i64 1] 41)).alloc (.cells #[.string (bs [97]), .string (bs [98]), .int .i64 3] 43)).heap.size = w1.heap.size + 1 + 1 + 1 + 1 := by simp
  rw [s1] at n2
  rw [s2] at n3
  rw [s3] at n4
  rw [s4] at n5
  refine ⟨_, ⟨some ⟨w1.heap.size, 0, none⟩, 2, some ⟨w1.heap.size + 1, 0, none⟩, 1, some ⟨w1.heap.size + 1 + 1, 0, none⟩, 1, some ⟨w1.heap.size + 1 + 1 + 1, 0, none⟩, 1⟩, rfl, ⟨?_, ?_, ?_, ?_⟩, ⟨?_, ?_, ?_, ?_⟩, ?_⟩
  · rw [cell_of_row _ _ _ _ _ _ n5]; rfl
  · rw [cell_of_row _ _ _ _ _ _ n5]; rfl
  · rw [cell_of_row _ _ _ _ _ _ n5]; rfl
  · rw [cell_of_row _ _ _ _ _ _ n5]; rfl
  · exact (((NumsIn.below n1 b2).below b3).below b4).below b5
  · exact ((NumsIn.below n2 b3).below b4).below b5
  · exact (n3.below b4).below b5
  · exact n4.below b5
  · exact bel2 (bel2 (bel2 (bel2 b1 b2) b3) b4) b5
/-- two rows of noughts -/
def zSp (t : Nat) : Sp := if t = 92 then .num (List.replicate 512 0) else if t = 93 then .num (List.replicate 64 0) else if t = 94 then .ob obZ else if t = 95 then .pr (.int .i64 0) else if t = 91 then .pr (.int .i64 0) else if t = 96 then .any else if t = 97 then .is (.int .i64 0) else if t = 9 then .any else .is (.int .i64 0)
def zDs : List Nat := [92, 93, 94, 95, 91, 96, 97, 9, 10]
theorem kn_words {o : Oper} (ho : o.op = .call { callee := .value (.func 14), args := #[.tmp 94], argTypes := #[27] }) (hd : o.dst = some 95) : KDo zSp zDs o := by
  intro a w hF
  obtain ⟨q, e, hin⟩ : ∃ q, a.eval (.tmp 94) = OV q obZ ∧ ObIn w q obZ := kn_in hF (by simp [tmpsOf, ho, Op.operands, Call.operands]) (by decide) (s := .ob obZ) rfl
  refine does_call ho [OV q obZ] (by simp [e]) (Try.call14 _ _) ((obWords_yes q obZ w hin obZ_fit obZ_may).mono ?_)
  rintro e w' ⟨v, rfl, -, b⟩
  exact ⟨_, rfl, fun d h => by rw [hd] at h; cases h; exact kf_of (s := .pr (.int .i64 0)) rfl ⟨_, rfl⟩, b⟩

set_option maxRecDepth 20000 in
set_option maxHeartbeats 2400000 in
theorem known_walk (w : World) : Calls Try.prog 4 #[] w fun e w' => e = .returned (.bool true) ∧ Below w.heap.size w w' := by
  go_enter Try.func4, Try.ntmps4
  go_upto_region 3 with (go_at_call 8; (refine (awake_any _).mono ?_); rintro e w1 ⟨rfl, b1⟩; have B1 := Lib.hid b1; clear b1)
  go_cut [1] (fun s1 W => CutK w1 s1 W)
  case first =>
    go_wp2
    go_meet
    exact cutK_is w1
  case rest =>
    obtain ⟨g, q, rfl, ⟨x0, x1, x2, x3⟩, hin, hb⟩ := hcut
    have BC := Lib.hid (bel2 B1.out hb)
    have hw := obWords_yes q obK wc hin obK_fit obK_may
    unfold WYes at hw
    rw [obK_words] at hw
    simp only [Nat.zero_add] at x1 x2 x3
    have e16 : wdK.length = 16 := rfl
    have E16 := Lib.hid e16
    clear hb hin e16
    go_upto_region 8 with (first
      | (go_at_call 14; (refine hw.mono ?_); rintro e w3 ⟨v, rfl, o3, b3⟩; have B3 := Lib.hid (bel2 BC.out b3); obtain ⟨p3, c3, e3, n3, hc3⟩ := own_slice o3; rw [E16.out] at e3 hc3; subst e3; have N3 := Lib.hid n3; clear o3 n3 b3)
      | (go_at_call 15; (refine (same_nums (xs := wdK) (ys := wdK) (N3.out.below (one_new _ _)) (nums_new w3 wdK) (by decide) rfl rfl).mono ?_); rw [decide_eq_true (rfl : wdK = wdK)]; rintro e w4 ⟨rfl, n4, e4⟩; have B4 := Lib.hid (bel2 (bel2 B3.out (one_new _ _)) (drewN_below e4)); have N4 := Lib.hid (N3.out.below (bel2 (one_new _ _) (drewN_below e4))); clear e4))
    clear x0 x1 x2 x3 hw
    go_cut [5] (fun s5 W => ObsAt W s5 bads ∧ Below w4.heap.size w4 W)
    case first =>
      refine wp_known kSp kDs (by kernel_rfl) ⟨kn_make (n := 513) rfl rfl rfl (by omega) rfl, kn_o0 rfl rfl (by decide) rfl rfl, kn_make (n := 65) rfl rfl rfl (by omega) rfl, kn_o1 rfl rfl (by decide) rfl rfl, kn_num rfl rfl rfl, kn_o0 rfl rfl (by decide) rfl rfl, kn_dv [(0, .string ⟨#[97]⟩)] rfl rfl (fun a => by simp [eval_const]) (by kernel_rfl) rfl, kn_d1 rfl rfl (by decide) rfl rfl, kn_o2 rfl rfl (by decide) rfl rfl, kn_make (n := 1) rfl rfl rfl (by omega) rfl, kn_dv [(0, .string ⟨#[97]⟩)] rfl rfl (fun a => by simp [eval_const]) (by kernel_rfl) rfl, kn_dv [(0, .string ⟨#[97]⟩)] rfl rfl (fun a => by simp [eval_const]) (by kernel_rfl) rfl, kn_d2 rfl rfl (by decide) rfl (by decide) rfl rfl, kn_o02 rfl rfl (by decide) rfl (by decide) rfl rfl, kn_make (n := 1) rfl rfl rfl (by omega) rfl, kn_dv [] rfl rfl (fun a => by simp) (by kernel_rfl) rfl, kn_d1 rfl rfl (by decide) rfl rfl, kn_o02 rfl rfl (by decide) rfl (by decide) rfl rfl, kn_kv [] rfl rfl (fun a => by simp) (by kernel_rfl) rfl, kn_k1 rfl rfl (by decide) rfl rfl, kn_o3 rfl rfl (by decide) rfl rfl, kn_kv [(1, .string ⟨#[97]⟩), (2, .int .i64 (-1))] rfl rfl (fun a => by simp [eval_const]) (by kernel_rfl) rfl, kn_k1 rfl rfl (by decide) rfl rfl, kn_o3 rfl rfl (by decide) rfl rfl, kn_kv [(1, .string ⟨#[97]⟩), (2, .int .i64 262144)] rfl rfl (fun a => by simp [eval_const]) (by kernel_rfl) rfl, kn_k1 rfl rfl (by decide) rfl rfl, kn_o3 rfl rfl (by decide) rfl rfl, kn_links rfl rfl rfl, kn_o3 rfl rfl (by decide) rfl rfl, kn_obs rfl rfl, kn_move (d := 5) (s := 67) rfl (by decide) (Or.inr rfl) rfl, trivial⟩ ?_
      intro V w8 hV hb8
      have h5 : ObsAt w8 (V 5) bads := hV 5 (by decide)
      clear hV
      simp only [kDs, puts, Act.put, List.setIfInBounds_toArray, List.set_cons_succ, List.set_cons_zero]
      go_wp2
      go_meet
      exact ⟨h5, hb8⟩
    case rest =>
      obtain ⟨⟨g8, p8, c8, rfl, hg8, hc8⟩, hb8⟩ := hcut
      have e10 : bads.length = 10 := rfl
      rw [e10]
      have HC := Lib.hid hc8
      have BC := Lib.hid (bel2 B4.out hb8)
      have N5 := Lib.hid (N4.out.below hb8)
      clear hc8 hb8 B1 B3 B4 N3 N4 e10
      go_wp2
      go_loopw [6] (fun i W => ∃ k : Nat, k ≤ 10 ∧ i = .int .i64 k ∧ Hid (Below wc.heap.size wc W)) (fun i _ => 10 - (intOf i).toNat)
      case atStart => exact ⟨0, Nat.zero_le _, rfl, Lib.hid (Below.refl _ _)⟩
      case round =>
        obtain ⟨k, hk, rfl, hB⟩ := hrel
        by_cases hlt : k < 10
        · obtain ⟨q8, a8, i8⟩ := HC.out k hlt
          obtain ⟨hno, hfit⟩ := bads_no k hlt
          have HA := Lib.hid (fun V (h : Below wc.heap.size wc V) => a8.below hg8 h)
          have hw := obWords_no q8 _ wr (i8.below hB.out) hfit hno
          have hm := fun V (h : Below wc.heap.size wc V) => obMay_any q8 _ V (i8.below h) hfit
          rw [hno] at hm
          clear a8 i8 hno hfit
          generalize bads[k] = ob at *
          obtain ⟨x0, x1, x2, x3⟩ := HA.out wr hB.out
          have i0 : (0 : Int) ≤ (k : Int) := by omega
          have i1 : (k : Int) < 10 := by omega
          go_wp2_with (first
            | (go_at_call 14; (with_reducible refine hw.mono ?_); unfold wNo; rintro e w9 ⟨rfl, b9⟩; have B9 := Lib.hid (bel2 hB.out b9); obtain ⟨y0, y1, y2, y3⟩ := HA.out w9 B9.out; clear b9)
            | (go_at_call 16; (with_reducible refine (hm _ B9.out).mono ?_); rintro e w10 ⟨rfl, b10⟩; have B10 := Lib.hid (bel2 B9.out b10); clear b10))
          go_roundw
          case rel => exact ⟨k + 1, by omega, by go_num, B10⟩
          case measure => simp [intOf]; omega
        · obtain rfl : k = 10 := by omega
          have N6 := Lib.hid (N5.out.below hB.out)
          have B6 := Lib.hid (bel2 BC.out hB.out)
          clear hB N5 HC BC hlt hk
          rw [show ((10 : Nat) : Int) = 10 from rfl]
          go_upto_region 15 with (fail)
          go_cut [10] (fun s10 W => s10 = .int .i64 0 ∧ Below wr.heap.size wr W)
          case first =>
            refine wp_known zSp zDs (by kernel_rfl) ⟨kn_make (n := 512) rfl rfl rfl (by omega) rfl, kn_make (n := 64) rfl rfl rfl (by omega) rfl, kn_o01 rfl rfl (by decide) rfl (by decide) rfl rfl, kn_words rfl rfl, kn_move (d := 91) (s := 95) rfl (by decide) (Or.inl rfl) rfl, kn_fst rfl (s := 91) rfl (by decide) rfl rfl, kn_snd rfl (s := 91) rfl (by decide) rfl rfl, kn_move (d := 9) (s := 96) rfl (by decide) (Or.inr rfl) rfl, kn_move (d := 10) (s := 97) rfl (by decide) (Or.inr rfl) rfl, trivial⟩ ?_
            intro V w8 hV hb8
            have h10 : V 10 = .int .i64 0 := hV 10 (by decide)
            clear hV
            simp only [zDs, puts, h10, Act.put, List.setIfInBounds_toArray, List.set_cons_succ, List.set_cons_zero]
            go_wp2
            go_meet
            exact ⟨rfl, hb8⟩
          case rest =>
            obtain ⟨rfl, hb8⟩ := hcut
            have N7 := Lib.hid (N6.out.below hb8)
            have B7 := Lib.hid (bel2 B6.out hb8)
            clear hb8 N6 B6
            have hr0 := fun V => obRead_few (w := V) (a := none) (c := 0) 0 (by omega)
            unfold rNo at hr0
            obtain ⟨g3, b3, rfl, -⟩ := N7.out (by decide)
            have T7 : Hid (∀ V, Below wc.heap.size wc V → NumsIn .u64 V (some ⟨g3, b3 + 1, none⟩) wdK.tail) := Lib.hid (fun V hV h0 => by
              obtain ⟨g', b', e, hc⟩ := (N7.out.below hV) (by decide)
              cases e
              refine ⟨_, _, rfl, fun i hi => ?_⟩
              have hi2 : i < 15 := hi
              rw [Nat.add_assoc, Nat.add_comm 1 i, hc (i + 1) (by show i + 1 < 16; omega)]
              rfl)
            have W7 : Hid (W36 wdK.tail) := Lib.hid (by
              intro z hz
              have : wdK.tail.all (fun z => decide (0 ≤ z) && decide (z ≤ 68719476735)) = true := by kernel_rfl
              have := List.all_eq_true.1 this z hz
              simpa using this)
            have hc16 := Lib.hid hc3
            clear hc3
            have j1 : (16 : Int) ≤ (c3 : Int) := by have := hc16.out; omega
            have hne : ¬ c3 = 1 := by have := hc16.out; omega
            go_wp2_with (first
              | (go_at_call 9; (with_reducible refine (hr0 _).mono ?_); rintro e w8 ⟨rfl, b8⟩; have B8 := Lib.hid (bel2 b8 (one_new w8 (OO nilPl nilOb))); clear b8)
              | (go_at_call 9; (refine (read_36 (xs := wdK.tail) (n := 15) (T7.out _ B8.out) W7.out (by show 15 ≤ c3 - 1; have := hc16.out; omega) rfl).mono ?_); rintro e w9 ⟨b9, (⟨o2, q2, m2, e2, rfl, i2⟩ | ⟨no2, rfl⟩)⟩))
            · exact absurd e2 (cut_no o2 m2)
            · go_ret
              exact ⟨rfl, bel2 (bel2 B7.out B8.out) (bel2 b9 (one_new _ _))⟩

end Go.Proofs.Ytnlohmkgkihldaa.W
