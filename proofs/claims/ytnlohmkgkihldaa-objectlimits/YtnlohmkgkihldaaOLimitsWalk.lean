/-
  The law ObjectLimits answers true.
-/
import Derived.Test.YtnlohmkgkihldaaOLimits
namespace Go.Proofs.Ytnlohmkgkihldaa.W
open Go.ChangeShapes Go.WideShapes Go.ChangeAt Go.RowKit
open Go.Proofs.Ytnlohmkgkihldaa.N (bs bs_data bs_of bs_size may may_pos retB)

set_option maxRecDepth 8000 in
set_option maxHeartbeats 16000000 in
theorem limits_walk (x0 x1 x2 x3 : Int) (h0 : 0 ≤ x0 ∧ x0 ≤ 65535) (h1 : 0 ≤ x1 ∧ x1 ≤ 65535) (h2 : 0 ≤ x2 ∧ x2 ≤ 65535) (h3 : 0 ≤ x3 ∧ x3 ≤ 65535) (w : World) :
    Calls Try.prog 7 #[.agg #[.int .u16 x0, .int .u16 x1, .int .u16 x2, .int .u16 x3]] w fun e w' => e = .returned (.bool true) ∧ Below w.heap.size w w' := by
  obtain ⟨n0, rfl⟩ := Int.eq_ofNat_of_zero_le h0.1
  obtain ⟨n1, rfl⟩ := Int.eq_ofNat_of_zero_le h1.1
  obtain ⟨n2, rfl⟩ := Int.eq_ofNat_of_zero_le h2.1
  obtain ⟨n3, rfl⟩ := Int.eq_ofNat_of_zero_le h3.1
  obtain ⟨a, e0, ha⟩ : ∃ a : Nat, (n0 : Int).tmod 516 = a ∧ a ≤ 515 := ⟨n0 % 516, by rw [Int.tmod_eq_emod_of_nonneg (by omega)]; omega, by omega⟩
  obtain ⟨b, e1, hb⟩ : ∃ a : Nat, (n1 : Int).tmod 68 = a ∧ a ≤ 67 := ⟨n1 % 68, by rw [Int.tmod_eq_emod_of_nonneg (by omega)]; omega, by omega⟩
  obtain ⟨d, e2, hd⟩ : ∃ a : Nat, (n2 : Int).tmod 36 = a ∧ a ≤ 35 := ⟨n2 % 36, by rw [Int.tmod_eq_emod_of_nonneg (by omega)]; omega, by omega⟩
  obtain ⟨l, e3, hl⟩ : ∃ a : Nat, (n3 : Int).tmod 36 = a ∧ a ≤ 35 := ⟨n3 % 36, by rw [Int.tmod_eq_emod_of_nonneg (by omega)]; omega, by omega⟩
  have hm0 := run_make_row' (P := Try.prog) 22 37 (.int .u64 0) 8 Try.underlying22 info_word rfl .i64 .i64 a (by omega) (by omega)
  have hm1 := run_make_row' (P := Try.prog) 22 37 (.int .u64 0) 8 Try.underlying22 info_word rfl .i64 .i64 b (by omega) (by omega)
  rw [made_row] at hm0 hm1
  have r0 : IntKind.i64.wrap (n0 : Int) = (n0 : Int) := by rw [IntKind.wrap_i64]; omega
  have r1 : IntKind.i64.wrap (n1 : Int) = (n1 : Int) := by rw [IntKind.wrap_i64]; omega
  have r2 : IntKind.i64.wrap (n2 : Int) = (n2 : Int) := by rw [IntKind.wrap_i64]; omega
  have r3 : IntKind.i64.wrap (n3 : Int) = (n3 : Int) := by rw [IntKind.wrap_i64]; omega
  go_enter Try.func7, Try.ntmps7
  go_upto_region 3 with (go_at_call 8; (refine (awake_any _).mono ?_); rintro e w1 ⟨rfl, b1⟩; have B1 := Lib.hid b1; have c0 := b1.cell (p := ⟨w.heap.size, 0, none⟩) (by simp); have c1 := b1.cell (p := ⟨w.heap.size, 1, none⟩) (by simp); have c2 := b1.cell (p := ⟨w.heap.size, 2, none⟩) (by simp); have c3 := b1.cell (p := ⟨w.heap.size, 3, none⟩) (by simp); clear b1)
  have k0 : w1.cell? ⟨w.heap.size, 0, none⟩ = some (.int .u16 n0) := by rw [c0, cell_of_row _ _ _ _ _ _ (heap_alloc_new w _)]; rfl
  have k1 : w1.cell? ⟨w.heap.size, 1, none⟩ = some (.int .u16 n1) := by rw [c1, cell_of_row _ _ _ _ _ _ (heap_alloc_new w _)]; rfl
  have k2 : w1.cell? ⟨w.heap.size, 2, none⟩ = some (.int .u16 n2) := by rw [c2, cell_of_row _ _ _ _ _ _ (heap_alloc_new w _)]; rfl
  have k3 : w1.cell? ⟨w.heap.size, 3, none⟩ = some (.int .u16 n3) := by rw [c3, cell_of_row _ _ _ _ _ _ (heap_alloc_new w _)]; rfl
  clear c0 c1 c2 c3 h0 h1 h2 h3
  go_cut [3] (fun s3 W => CutLim w1 a b s3 W)
  case first =>
    have K0 := Lib.hid (show w1.cell? ⟨w.heap.size, 0, none⟩ = some (.int .u16 n0) ∧ w1.cell? ⟨w.heap.size, 1, none⟩ = some (.int .u16 n1) from ⟨k0, k1⟩)
    have hlt := Lib.hid (World.block_lt_of_cell? w1 _ k0)
    have hbel : ∀ V, Below w1.heap.size w1 V → V.cell? ⟨w.heap.size, 0, none⟩ = some (.int .u16 n0) ∧ V.cell? ⟨w.heap.size, 1, none⟩ = some (.int .u16 n1) := fun V hV => ⟨(hV.cell (p := ⟨w.heap.size, 0, none⟩) hlt.out).trans K0.out.1, (hV.cell (p := ⟨w.heap.size, 1, none⟩) hlt.out).trans K0.out.2⟩
    have HBEL := Lib.hid hbel
    have HD := Lib.hid (below_drewN w1 1)
    have K1 := Lib.hid (HBEL.out w1.drew HD.out)
    clear k0 k1 k2 k3 hbel
    go_region_held3 (fun V => V.cell? ⟨w.heap.size, 0, none⟩ = some (.int .u16 n0) ∧ V.cell? ⟨w.heap.size, 1, none⟩ = some (.int .u16 n1))
      (first | exact K1.out | (refine HBEL.out _ ?_; first | exact bel2 HD.out (one_new _ _) | exact bel2 HD.out (bel2 (one_new _ _) (one_new _ _)) | exact bel2 HD.out (bel2 (one_new _ _) (bel2 (one_new _ _) (one_new _ _)))))
      (fail)
    all_goals go_wp2
    all_goals go_meet
    all_goals first
      | exact lim_six0 _ _ _ (by omega) (by omega)
      | exact lim_six1 _ _ _ (by omega) (by omega)
      | exact lim_six2 _ _ _ (by omega) (by omega)
      | exact lim_six3 _ _ _ (by omega) (by omega)
      | exact lim_six4 _ _ _ (by omega) (by omega)
      | exact lim_six5 _ _ _ (by omega) (by omega)
      | fail
  case rest =>
    obtain ⟨ob, q, rfl, hL⟩ := hcut
    have HL := Lib.hid hL
    have j2 : wc.cell? ⟨w.heap.size, 2, none⟩ = some (.int .u16 n2) := (hL.bel.cell (p := ⟨w.heap.size, 2, none⟩) (World.block_lt_of_cell? w1 _ k2)).trans k2
    have j3 : wc.cell? ⟨w.heap.size, 3, none⟩ = some (.int .u16 n3) := (hL.bel.cell (p := ⟨w.heap.size, 3, none⟩) (World.block_lt_of_cell? w1 _ k3)).trans k3
    clear hL k0 k1 k2 k3 hm0 hm1 e0 e1 r0 r1
    go_wp2
    go_quiet (fail)
    have HL2 : Hid (LimAt w1 ob a b 0 0 q (wc.drewN nq)) := Lib.hid ⟨bel2 HL.out.bel (below_drewN _ _), HL.out.ge, HL.out.box, HL.out.own.below (below_drewN _ _)⟩
    clear HL j2 j3 e2 e3 r2 r3
    go_wp2
    generalize wc.drewN nq = W2 at *
    go_loopw [6] (fun i W => ∃ k q, k ≤ d ∧ i = .int .i64 (k : Nat) ∧ Hid (LimAt w1 ob a b k 0 q W)) (fun i _ => d - (intOf i).toNat)
    case atStart => exact ⟨0, q, Nat.zero_le _, rfl, HL2⟩
    case round =>
      clear HL2
      obtain ⟨k, q, hk, rfl, HL⟩ := hrel
      obtain ⟨x0, x1, x2, x3, f0, f1, f2, f3⟩ := four_cells HL.out.box
      by_cases hlt : k < d
      · obtain ⟨t, hcv, hte⟩ : ∃ t : ByteArray, (convert 52 9 (.slice (some ⟨wr.heap.size, 0, none⟩) 2 2)).run Try.prog (wr.alloc (.cells #[.int .u8 (48 + (k : Int) / 10), .int .u8 (48 + (k : Int) % 10)] 5)) = .ok (.string t) (wr.alloc (.cells #[.int .u8 (48 + (k : Int) / 10), .int .u8 (48 + (k : Int) % 10)] 5)) ∧ t = strOfNums [48 + (k : Int) / 10, 48 + (k : Int) % 10] := by
          refine ⟨_, run_convert_bytes_arg _ 52 5 Try.underlying52 Try.underlying5 wr.heap.size 0 2 2 [48 + (k : Int) / 10, 48 + (k : Int) % 10] rfl (fun i hi => ?_) 9 Try.underlying9, rfl⟩
          rw [cell_of_row _ _ _ _ _ _ (heap_alloc_new wr _)]
          match i, hi with
          | 0, _ => rfl
          | 1, _ => rfl
        obtain ⟨hcat, hts⟩ := cat_dN k hte
        have h2 := bel2 (one_new wr (.cells #[.int .u8 (48 + (k : Int) / 10), .int .u8 (48 + (k : Int) % 10)] 5)) (one_new _ (.cells #[.string (bs (dN k)), .int .i64 0] 41))
        have H2 := Lib.hid h2
        have OD := Lib.hid (HL.out.own.below h2).d
        have HN1 : Hid (((wr.alloc (.cells #[.int .u8 (48 + (k : Int) / 10), .int .u8 (48 + (k : Int) % 10)] 5)).alloc (.cells #[.string (bs (dN k)), .int .i64 0] 41)).heap[wr.heap.size + 1]? = some (.cells #[.string (bs (dN k)), .int .i64 0] 41)) := Lib.hid (at_new (by simp))
        have HSZ := Lib.hid (Nat.le_trans HL.out.bel.size h2.size)
        have HDL := Lib.hid (lim_dl a b k 0)
        clear hte h2
        go_wp2_with (at_builtin; refine wpList_def1 rfl (.tmp 39) (.tmp 52) rfl rfl OD.out (dN k, 0) (wr.heap.size + 1) 1 rfl HN1.out (by rw [HDL.out]; omega) HSZ.out (k + 1) (by rw [HDL.out]) ?_; intro p3 c3 w3 ho3 hg3; obtain ⟨hb3, hl3⟩ := HL.out.def1 H2.out ho3 hg3; obtain ⟨y0, y1, y2, y3, v0, v1, v2, v3⟩ := four_cells hb3; have HL3 := Lib.hid hl3; clear hl3)
        go_roundw
        case rel => exact ⟨k + 1, _, by omega, by go_num, HL3⟩
        case measure => simp [intOf]; omega
      · obtain rfl : k = d := by omega
        clear x0 x1 x2 x3 f0 f1 f2 f3
        go_wp2
        go_loopw [7] (fun i W => ∃ j q, j ≤ l ∧ i = .int .i64 (j : Nat) ∧ Hid (LimAt w1 ob a b k j q W)) (fun i _ => l - (intOf i).toNat)
        case atStart => exact ⟨0, q, Nat.zero_le _, rfl, HL⟩
        case round =>
          clear HL
          obtain ⟨j, q, hj, rfl, HL⟩ := hrel
          obtain ⟨x0, x1, x2, x3, f0, f1, f2, f3⟩ := four_cells HL.out.box
          by_cases hlt : j < l
          · have h2 := one_new wr (.cells #[.string (bs []), .string (bs [120]), .int .i64 0] 43)
            have H2 := Lib.hid h2
            have OK := Lib.hid (HL.out.own.below h2).l
            have HN1 : Hid ((wr.alloc (.cells #[.string (bs []), .string (bs [120]), .int .i64 0] 43)).heap[wr.heap.size]? = some (.cells #[.string (bs []), .string (bs [120]), .int .i64 0] 43)) := Lib.hid (at_new rfl)
            have HSZ := Lib.hid (Nat.le_trans HL.out.bel.size h2.size)
            have HDL := Lib.hid (lim_ll a b k j)
            clear h2
            go_wp2_with (at_builtin; refine wpList_link1 rfl (.tmp 61) (.tmp 63) rfl rfl OK.out ([], [120], 0) wr.heap.size 1 rfl HN1.out (by rw [HDL.out]; omega) HSZ.out (j + 1) (by rw [HDL.out]) ?_; intro p3 c3 w3 ho3 hg3; obtain ⟨hb3, hl3⟩ := HL.out.link1 H2.out ho3 hg3; obtain ⟨y0, y1, y2, y3, v0, v1, v2, v3⟩ := four_cells hb3; have HL3 := Lib.hid hl3; clear hl3)
            go_roundw
            case rel => exact ⟨j + 1, _, by omega, by go_num, HL3⟩
            case measure => simp [intOf]; omega
          · obtain rfl : j = l := by omega
            have q0 : (limOb a b k j).text.length = a := by simp [limOb]
            have q1 : (limOb a b k j).stat.length = b := by simp [limOb]
            rw [q0] at x0
            rw [q1] at x1
            rw [lim_dl] at x2
            rw [lim_ll] at x3
            have hfit := lim_fit a b k j (by omega) (by omega) (by omega) (by omega)
            have hmay := obMay_any q (limOb a b k j) wr HL.out.own.obIn hfit
            have hmy := lim_may a b k j (by omega)
            have hlen := lim_len a b k j
            have hwy := fun h => obWords_yes q (limOb a b k j) wr HL.out.own.obIn hfit h
            have hwn := fun h => obWords_no q (limOb a b k j) wr HL.out.own.obIn hfit h
            unfold WYes at hwy
            simp only [OV, q0, q1, lim_dl, lim_ll] at hmay hwy hwn
            have HI := Lib.hid (HL.out.own)
            have HMY := Lib.hid hmy
            have HLN := Lib.hid hlen
            have HBW := Lib.hid HL.out.bel
            have hmayV := fun (V : World) (hV : Below wr.heap.size wr V) => obMay_any q (limOb a b k j) V (HL.out.own.below hV).obIn hfit
            simp only [OV, q0, q1, lim_dl, lim_ll] at hmayV
            have hbx : ∀ V : World, Below wr.heap.size wr V → V.cell? ⟨ob, 0, none⟩ = some (.slice q.ta a q.tc) ∧ V.cell? ⟨ob, 1, none⟩ = some (.slice q.sa b q.sc) ∧ V.cell? ⟨ob, 2, none⟩ = some (.slice q.da k q.dc) ∧ V.cell? ⟨ob, 3, none⟩ = some (.slice q.la j q.lc) := fun V hV =>
              ⟨(hV.cell (p := ⟨ob, 0, none⟩) (World.block_lt_of_cell? wr _ x0)).trans x0, (hV.cell (p := ⟨ob, 1, none⟩) (World.block_lt_of_cell? wr _ x1)).trans x1, (hV.cell (p := ⟨ob, 2, none⟩) (World.block_lt_of_cell? wr _ x2)).trans x2, (hV.cell (p := ⟨ob, 3, none⟩) (World.block_lt_of_cell? wr _ x3)).trans x3⟩
            have HBX := Lib.hid hbx
            clear f0 f1 f2 f3 q0 q1 hmay hmy hlen hfit HL hbx hk hj hlt
            go_upto_region 14 with fail
            go_cut [9] (fun s9 W => s9 = .bool (mayOb (limOb a b k j)) ∧ W = wr)
            case first =>
              by_cases t1 : a ≤ 512
              · have d11 : decide ((a : Int) ≤ 512) = true := decide_eq_true (by omega)
                by_cases t2 : b ≤ 64
                · have d12 : decide ((b : Int) ≤ 64) = true := decide_eq_true (by omega)
                  by_cases t3 : k ≤ 32
                  · have d13 : decide ((k : Int) ≤ 32) = true := decide_eq_true (by omega)
                    by_cases t4 : j ≤ 32
                    · have d14 : decide ((j : Int) ≤ 32) = true := decide_eq_true (by omega)
                      by_cases t5 : a + b + 3 * k + 4 * j + 5 ≤ 1024
                      · have d15 : decide ((a : Int) + b + 3 * k + 4 * j + 5 ≤ 1024) = true := decide_eq_true (by omega)
                        by_cases t6 : k = 0
                        · have d16 : ((k : Int) == 0) = true := beq_iff_eq.2 (by omega)
                          have HR := Lib.hid (show mayOb (limOb a b k j) = true from by rw [HMY.out]; simp only [Bool.and_eq_true, Bool.or_eq_true, decide_eq_true_eq]; omega)
                          clear t1 t2 t3 t4 t5 t6
                          go_wp2
                          all_goals go_meet
                          all_goals exact ⟨by first | (rw [HR.out]; done) | (rw [HR.out, D7.out]; done), rfl⟩
                        · have d16 : ((k : Int) == 0) = false := beq_eq_false_iff_ne.2 (by omega)
                          by_cases t7 : 0 < a
                          · have d17 : decide ((a : Int) > 0) = true := decide_eq_true (by omega)
                            have D7 := Lib.hid (show decide (0 < a) = true from decide_eq_true (by omega))
                            have HR := Lib.hid (show mayOb (limOb a b k j) = true from by rw [HMY.out]; simp only [Bool.and_eq_true, Bool.or_eq_true, decide_eq_true_eq]; omega)
                            clear t1 t2 t3 t4 t5 t6 t7
                            go_wp2
                            all_goals go_meet
                            all_goals exact ⟨by first | (rw [HR.out]; done) | (rw [HR.out, D7.out]; done), rfl⟩
                          · have d17 : decide ((a : Int) > 0) = false := decide_eq_false (by omega)
                            have D7 := Lib.hid (show decide (0 < a) = false from decide_eq_false (by omega))
                            have HR := Lib.hid (show mayOb (limOb a b k j) = false from by rw [HMY.out]; exact Bool.eq_false_iff.2 (fun h => by simp only [Bool.and_eq_true, Bool.or_eq_true, decide_eq_true_eq] at h; omega))
                            clear t1 t2 t3 t4 t5 t6 t7
                            go_wp2
                            all_goals go_meet
                            all_goals exact ⟨by first | (rw [HR.out]; done) | (rw [HR.out, D7.out]; done), rfl⟩
                      · have d15 : decide ((a : Int) + b + 3 * k + 4 * j + 5 ≤ 1024) = false := decide_eq_false (by omega)
                        have HR := Lib.hid (show mayOb (limOb a b k j) = false from by rw [HMY.out]; exact Bool.eq_false_iff.2 (fun h => by simp only [Bool.and_eq_true, Bool.or_eq_true, decide_eq_true_eq] at h; omega))
                        clear t1 t2 t3 t4 t5
                        go_wp2
                        all_goals go_meet
                        all_goals exact ⟨by first | (rw [HR.out]; done) | (rw [HR.out, D7.out]; done), rfl⟩
                    · have d14 : decide ((j : Int) ≤ 32) = false := decide_eq_false (by omega)
                      have HR := Lib.hid (show mayOb (limOb a b k j) = false from by rw [HMY.out]; exact Bool.eq_false_iff.2 (fun h => by simp only [Bool.and_eq_true, Bool.or_eq_true, decide_eq_true_eq] at h; omega))
                      clear t1 t2 t3 t4
                      go_wp2
                      all_goals go_meet
                      all_goals exact ⟨by first | (rw [HR.out]; done) | (rw [HR.out, D7.out]; done), rfl⟩
                  · have d13 : decide ((k : Int) ≤ 32) = false := decide_eq_false (by omega)
                    have HR := Lib.hid (show mayOb (limOb a b k j) = false from by rw [HMY.out]; exact Bool.eq_false_iff.2 (fun h => by simp only [Bool.and_eq_true, Bool.or_eq_true, decide_eq_true_eq] at h; omega))
                    clear t1 t2 t3
                    go_wp2
                    all_goals go_meet
                    all_goals exact ⟨by first | (rw [HR.out]; done) | (rw [HR.out, D7.out]; done), rfl⟩
                · have d12 : decide ((b : Int) ≤ 64) = false := decide_eq_false (by omega)
                  have HR := Lib.hid (show mayOb (limOb a b k j) = false from by rw [HMY.out]; exact Bool.eq_false_iff.2 (fun h => by simp only [Bool.and_eq_true, Bool.or_eq_true, decide_eq_true_eq] at h; omega))
                  clear t1 t2
                  go_wp2
                  all_goals go_meet
                  all_goals exact ⟨by first | (rw [HR.out]; done) | (rw [HR.out, D7.out]; done), rfl⟩
              · have d11 : decide ((a : Int) ≤ 512) = false := decide_eq_false (by omega)
                have HR := Lib.hid (show mayOb (limOb a b k j) = false from by rw [HMY.out]; exact Bool.eq_false_iff.2 (fun h => by simp only [Bool.and_eq_true, Bool.or_eq_true, decide_eq_true_eq] at h; omega))
                clear t1
                go_wp2
                all_goals go_meet
                all_goals exact ⟨by first | (rw [HR.out]; done) | (rw [HR.out, D7.out]; done), rfl⟩
            case rest =>
              obtain ⟨rfl, rfl⟩ := hcut
              cases hm : mayOb (limOb a b k j) with
              | false =>
                rw [hm] at hmayV
                have q1 := hwn hm
                clear hwy hwn
                go_wp2_with (first
                  | (go_at_call 14; (refine q1.mono ?_); unfold wNo; rintro e w4 ⟨rfl, b4⟩; have B4 := Lib.hid b4; obtain ⟨y0, y1, y2, y3⟩ := HBX.out w4 b4; clear b4)
                  | (go_at_call 16; (refine (hmayV _ B4.out).mono ?_); rintro e w5 ⟨rfl, b5⟩; have B5 := Lib.hid (bel2 B4.out b5); clear b5))
                go_ret
                exact ⟨rfl, bel2 (bel2 (one_new _ _) B1.out) (HBW.out.trans (B5.out.mono HBW.out.size))⟩
              | true =>
                rw [hm] at hmayV
                have q1 := hwy hm
                clear hwy hwn
                go_wp2_with (first
                  | (go_at_call 14; (refine q1.mono ?_); rintro e w4 ⟨v, rfl, o4, b4⟩; obtain ⟨pw, cw, ev, -⟩ := own_slice o4; rw [HLN.out] at ev; subst ev; have B4 := Lib.hid b4; obtain ⟨y0, y1, y2, y3⟩ := HBX.out w4 b4; clear b4 o4)
                  | (go_at_call 16; (refine (hmayV _ B4.out).mono ?_); rintro e w5 ⟨rfl, b5⟩; have B5 := Lib.hid (bel2 B4.out b5); clear b5))
                go_ret
                exact ⟨rfl, bel2 (bel2 (one_new _ _) B1.out) (HBW.out.trans (B5.out.mono HBW.out.size))⟩

end Go.Proofs.Ytnlohmkgkihldaa.W
