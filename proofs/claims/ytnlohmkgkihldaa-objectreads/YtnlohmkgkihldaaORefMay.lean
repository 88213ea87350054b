/-
  What the document's own ObjectMay answers, given what its words are.
-/
import Derived.Test.YtnlohmkgkihldaaOCutsWalk
namespace Go.Proofs.Ytnlohmkgkihldaa.W
open Go.ChangeShapes Go.WideShapes Go.ChangeAt Go.RowKit
open Go.Proofs.Ytnlohmkgkihldaa.N (bs bs_data bs_of bs_size may may_pos retB)

theorem no_t {o : Ob} (h : (decide (o.text.length ≤ 512) && o.text.all okW) = false) : mayOb o = false := by rw [mayOb_parts]; simp [partsOb, h]
theorem no_s {o : Ob} (h : (decide (o.stat.length ≤ 64) && o.stat.all okW) = false) : mayOb o = false := by rw [mayOb_parts]; simp [partsOb, h]
theorem no_d {o : Ob} (h : defsOk o.text.length o.defs = false) : mayOb o = false := by rw [mayOb_parts]; simp [partsOb, h]
theorem no_l {o : Ob} (h : linksOk o.links = false) : mayOb o = false := by rw [mayOb_parts]; simp [partsOb, h]
theorem yes_p {o : Ob} (h1 : o.text.length ≤ 512) (h2 : o.text.all okW = true) (h3 : o.stat.length ≤ 64) (h4 : o.stat.all okW = true) (h5 : defsOk o.text.length o.defs = true) (h6 : linksOk o.links = true) : partsOb o = true := by simp [partsOb, h1, h2, h3, h4, h5, h6]

set_option maxRecDepth 8000 in
set_option maxHeartbeats 4000000 in
theorem refMay_any {w : World} {q : Pl} {o : Ob} (ho : ObIn w q o) (hF : Fit o)
    (hwd : ∀ V, Below (w.alloc (OO q o)).heap.size (w.alloc (OO q o)) V → Lay o → Calls Try.prog 25 #[OV q o] V fun e w' => ∃ v, e = .returned v ∧ OwnW V.heap.size w' v (wOb o) ∧ Below V.heap.size V w') :
    Calls Try.prog 24 #[OV q o] w fun e w' => e = .returned (.bool (mayOb o)) ∧ Below w.heap.size w w' := by
  have h0 := one_new w (OO q o)
  have HO := Lib.hid (fun (V : World) (h : Below (w.alloc (OO q o)).heap.size (w.alloc (OO q o)) V) => (ho.below h0).below h)
  have H0 := Lib.hid h0
  have HT := Lib.hid hF.tz
  have HS := Lib.hid hF.sz
  have HDn := Lib.hid hF.dn
  have HLn := Lib.hid hF.ln
  have HWD := Lib.hid hwd
  have fd := hF.dl
  have fl := hF.ll
  have ft := hF.tl
  have fs := hF.sl
  unfold maxLen at fd fl ft fs
  clear ho hF h0 hwd
  obtain ⟨ta, tc, sa, sc, da, dc, la, lc⟩ := q
  by_cases l1 : o.text.length ≤ 512
  case neg =>
    have hno := Lib.hid (no_t (o := o) (by simp [l1]))
    have d1 : decide ((o.text.length : Int) > 512) = true := decide_eq_true (by omega)
    go_enter Try.func24, Try.ntmps24
    go_wp2
    go_ret
    rw [hno.out]
    exact ⟨rfl, H0.out⟩
  have d1 : decide ((o.text.length : Int) > 512) = false := decide_eq_false (by omega)
  by_cases l2 : o.stat.length ≤ 64
  case neg =>
    have hno := Lib.hid (no_s (o := o) (by simp [l2]))
    have d2 : decide ((o.stat.length : Int) > 64) = true := decide_eq_true (by omega)
    go_enter Try.func24, Try.ntmps24
    go_wp2
    go_ret
    rw [hno.out]
    exact ⟨rfl, H0.out⟩
  have d2 : decide ((o.stat.length : Int) > 64) = false := decide_eq_false (by omega)
  by_cases l3 : o.defs.length ≤ 32
  case neg =>
    have hno := Lib.hid (no_d (o := o) (dUp_long l3))
    have d3 : decide ((o.defs.length : Int) > 32) = true := decide_eq_true (by omega)
    go_enter Try.func24, Try.ntmps24
    go_wp2
    go_ret
    rw [hno.out]
    exact ⟨rfl, H0.out⟩
  have d3 : decide ((o.defs.length : Int) > 32) = false := decide_eq_false (by omega)
  by_cases l4 : o.links.length ≤ 32
  case neg =>
    have hno := Lib.hid (no_l (o := o) (lUp_long l4))
    have d4 : decide ((o.links.length : Int) > 32) = true := decide_eq_true (by omega)
    go_enter Try.func24, Try.ntmps24
    go_wp2
    go_ret
    rw [hno.out]
    exact ⟨rfl, H0.out⟩
  have d4 : decide ((o.links.length : Int) > 32) = false := decide_eq_false (by omega)
  go_enter Try.func24, Try.ntmps24
  go_wp2
  have NT := Lib.hid (HO.out _ (Below.refl _ _)).t
  have NS := Lib.hid (HO.out _ (Below.refl _ _)).s
  have e1 := heap_alloc_new w (OO ⟨ta, tc, sa, sc, da, dc, la, lc⟩ o)
  obtain ⟨c0, c1, c2, c3, -⟩ := four_cells e1
  clear e1
  generalize hW : w.alloc (OO ⟨ta, tc, sa, sc, da, dc, la, lc⟩ o) = W0 at *
  clear hW
  go_loop [3] (fun i => ∃ k : Nat, k ≤ o.text.length ∧ i = .int .i64 k ∧ Hid (∀ j, j < k → o.text.getD j 0 ≤ 68719476735)) (fun i => o.text.length - (intOf i).toNat)
  case atStart => exact ⟨0, Nat.zero_le _, rfl, Lib.hid (fun j hj => by omega)⟩
  case round =>
    obtain ⟨k, hk, rfl, hA⟩ := hrel
    by_cases hlt : k < o.text.length
    · obtain ⟨g, f, rfl, hc⟩ := NT.out (by omega)
      have hcell := hc k hlt
      by_cases hv : o.text.getD k 0 > 68719476735
      · have hno := Lib.hid (no_t (o := o) (by rw [all_not_at hlt hv, Bool.and_false]))
        generalize o.text.getD k 0 = v at *
        clear hc
        go_wp2
        go_ret
        rw [hno.out]
        exact ⟨rfl, H0.out⟩
      · have HT2 := Lib.hid (show ∀ j, j < k + 1 → o.text.getD j 0 ≤ 68719476735 from fun j hj => by
          by_cases e : j = k
          · rw [e]; omega
          · exact hA.out j (by omega))
        generalize o.text.getD k 0 = v at *
        clear hc
        go_wp2
        go_round
        case rel => exact ⟨k + 1, by omega, by go_num, HT2⟩
        case measure => simp [intOf]; omega
    · obtain rfl : k = o.text.length := by omega
      have HTok := Lib.hid (all_upto HT.out hA.out)
      clear hA NT
      go_wp2
      go_loop [4] (fun i => ∃ k : Nat, k ≤ o.stat.length ∧ i = .int .i64 k ∧ Hid (∀ j, j < k → o.stat.getD j 0 ≤ 68719476735)) (fun i => o.stat.length - (intOf i).toNat)
      case atStart => exact ⟨0, Nat.zero_le _, rfl, Lib.hid (fun j hj => by omega)⟩
      case round =>
        obtain ⟨k, hk, rfl, hA⟩ := hrel
        by_cases hlt : k < o.stat.length
        · obtain ⟨g, f, rfl, hc⟩ := NS.out (by omega)
          have hcell := hc k hlt
          by_cases hv : o.stat.getD k 0 > 68719476735
          · have hno := Lib.hid (no_s (o := o) (by rw [all_not_at hlt hv, Bool.and_false]))
            generalize o.stat.getD k 0 = v at *
            clear hc
            go_wp2
            go_ret
            rw [hno.out]
            exact ⟨rfl, H0.out⟩
          · have HT2 := Lib.hid (show ∀ j, j < k + 1 → o.stat.getD j 0 ≤ 68719476735 from fun j hj => by
              by_cases e : j = k
              · rw [e]; omega
              · exact hA.out j (by omega))
            generalize o.stat.getD k 0 = v at *
            clear hc
            go_wp2
            go_round
            case rel => exact ⟨k + 1, by omega, by go_num, HT2⟩
            case measure => simp [intOf]; omega
        · obtain rfl : k = o.stat.length := by omega
          have HSok := Lib.hid (all_upto HS.out hA.out)
          clear hA NS
          have HBX := Lib.hid (show ∀ V : World, Below W0.heap.size W0 V → V.cell? ⟨w.heap.size, 0, none⟩ = some (.slice ta o.text.length tc) ∧ V.cell? ⟨w.heap.size, 2, none⟩ = some (.slice da o.defs.length dc) ∧ V.cell? ⟨w.heap.size, 3, none⟩ = some (.slice la o.links.length lc) ∧ V.cell? ⟨w.heap.size, 1, none⟩ = some (.slice sa o.stat.length sc) from fun V hV =>
            ⟨(hV.cell (p := ⟨w.heap.size, 0, none⟩) (World.block_lt_of_cell? W0 _ c0)).trans c0, (hV.cell (p := ⟨w.heap.size, 2, none⟩) (World.block_lt_of_cell? W0 _ c2)).trans c2, (hV.cell (p := ⟨w.heap.size, 3, none⟩) (World.block_lt_of_cell? W0 _ c3)).trans c3, (hV.cell (p := ⟨w.heap.size, 1, none⟩) (World.block_lt_of_cell? W0 _ c1)).trans c1⟩)
          go_wp2
          go_loopw [5] (fun i W => ∃ k : Nat, k ≤ o.defs.length ∧ i = .int .i64 k ∧ Hid (Below W0.heap.size W0 W) ∧ Hid (dUp o.defs o.text.length k)) (fun i _ => o.defs.length - (intOf i).toNat)
          case atStart => exact ⟨0, Nat.zero_le _, rfl, Lib.hid (Below.refl _ _), Lib.hid (fun j h hj => by omega)⟩
          case round =>
            obtain ⟨k, hk, rfl, hB, hU⟩ := hrel
            obtain ⟨b0, b2, b3, -⟩ := HBX.out wr hB.out
            by_cases hlt : k < o.defs.length
            · obtain ⟨bk, f, ea, hbk, x0, x1⟩ := (HO.out wr hB.out).d.at_ hlt
              simp only at ea
              subst ea
              have hsz : (bs o.defs[k].1).size ≤ maxLen := by rw [bs_size]; exact (HDn.out _ (List.getElem_mem hlt)).1
              obtain ⟨h64a, h64b⟩ := (HDn.out _ (List.getElem_mem hlt)).2
              have hcall := fun W => N.nameMay_any (bs o.defs[k].1) W hsz
              rw [bs_data] at hcall
              cases hm : may 32 o.defs[k].1 with
              | false =>
                rw [hm] at hcall
                have hno := Lib.hid (no_d (o := o) (dUp_bad hlt (okDef_name hm)))
                clear hm
                go_wp2_with (go_at_call 34; refine (hcall _).mono ?_; rintro e w' ⟨rfl, e4⟩; subst w')
                go_ret
                rw [hno.out]
                exact ⟨rfl, H0.out.trans ((bel2 hB.out (one_new _ _)).mono H0.out.size)⟩
              | true =>
                rw [hm] at hcall
                have HM := Lib.hid hm
                clear hm
                by_cases o1 : o.defs[k].2 < 0
                · have hno := Lib.hid (no_d (o := o) (dUp_bad hlt (okDef_neg (n := o.text.length) o1)))
                  generalize o.defs[k].2 = off at *
                  go_wp2_with (go_at_call 34; refine (hcall _).mono ?_; rintro e w' ⟨rfl, e4⟩; subst w')
                  go_ret
                  rw [hno.out]
                  exact ⟨rfl, H0.out.trans ((bel2 hB.out (one_new _ _)).mono H0.out.size)⟩
                by_cases o2 : (o.text.length : Int) ≤ o.defs[k].2
                · have hno := Lib.hid (no_d (o := o) (dUp_bad hlt (okDef_far o2)))
                  obtain ⟨z0, -⟩ := HBX.out _ (bel2 hB.out (one_new wr (.cells #[.string (bs o.defs[k].1), .int .i64 o.defs[k].2] 41)))
                  have d5 : decide (o.defs[k].2 ≥ (o.text.length : Int)) = true := decide_eq_true o2
                  have d6 : decide (o.defs[k].2 < 0) = false := decide_eq_false o1
                  generalize o.defs[k].2 = off at *
                  go_wp2_with (go_at_call 34; refine (hcall _).mono ?_; rintro e w' ⟨rfl, e4⟩; subst w')
                  go_ret
                  rw [hno.out]
                  exact ⟨rfl, H0.out.trans ((bel2 hB.out (one_new _ _)).mono H0.out.size)⟩
                have HOK := Lib.hid (okDef_is HM.out (show 0 ≤ o.defs[k].2 by omega) (show o.defs[k].2 < (o.text.length : Int) by omega))
                have HTW := Lib.hid (show ∀ i, i < k → (hi : i < o.defs.length) → o.defs[i].1 = o.defs[k].1 → mayOb o = false from fun i hik hi h => no_d (dUp_twice hlt hik h))
                have HUP := Lib.hid (show okDef o.text.length o.defs[k] = true → (∀ i (h' : i < o.defs.length), i < k → ¬ o.defs[i].1 = o.defs[k].1) → dUp o.defs o.text.length (k + 1) from fun h1 h2 => dUp_step hlt hU.out h1 h2)
                have hbw := one_new wr (.cells #[.string (bs o.defs[k].1), .int .i64 o.defs[k].2] 41)
                have e9 := heap_alloc_new wr (.cells #[.string (bs o.defs[k].1), .int .i64 o.defs[k].2] 41)
                have y0 : (wr.alloc (.cells #[.string (bs o.defs[k].1), .int .i64 o.defs[k].2] 41)).cell? ⟨wr.heap.size, 0, none⟩ = some (.string (bs o.defs[k].1)) := by rw [cell_of_row _ _ _ _ _ _ e9]; rfl
                have HB2 := Lib.hid (bel2 hB.out hbw)
                obtain ⟨z0, z2, z3, -⟩ := HBX.out _ HB2.out
                have HDR := Lib.hid ((HO.out _ HB2.out).d)
                clear e9 hbw
                go_wp2_with (go_at_call 34; refine (hcall _).mono ?_; rintro e w' ⟨rfl, e4⟩; subst w')
                generalize hWd : wr.alloc (.cells #[.string (bs o.defs[k].1), .int .i64 o.defs[k].2] 41) = Wd at *
                clear hWd
                go_loopw [7] (fun i W => ∃ j n : Nat, j ≤ k ∧ i = .int .i64 j ∧ W = Wd.drewN n ∧ Hid (∀ i (h' : i < o.defs.length), i < j → ¬ o.defs[i].1 = o.defs[k].1)) (fun i _ => k - (intOf i).toNat)
                case atStart => exact ⟨0, 0, Nat.zero_le _, rfl, rfl, Lib.hid (fun i h hj => by omega)⟩
                case round =>
                  obtain ⟨j, n, hj, rfl, rfl, hA⟩ := hrel
                  by_cases hjk : j < k
                  · have hjl : j < o.defs.length := by omega
                    obtain ⟨bk2, f2, ea2, hbk2, w0, w1⟩ := HDR.out.at_ hjl
                    cases ea2
                    have i0 : (0 : Int) ≤ (j : Int) := by omega
                    have i1 : (j : Int) < (o.defs.length : Int) := by omega
                    by_cases he : o.defs[j].1 = o.defs[k].1
                    · have hno := Lib.hid (HTW.out j hjk hjl he)
                      rw [he] at w0
                      have hstr := txt_same (x := o.defs[k].1) rfl
                      go_wp2
                      go_quiet (fail)
                      go_wp2
                      go_ret
                      rw [hno.out]
                      exact ⟨rfl, H0.out.trans ((bel2 HB2.out (bel2 (below_drewN Wd n) (below_drewN _ _))).mono H0.out.size)⟩
                    · have hstr := txt_other he
                      have HA2 := Lib.hid (show ∀ i (h' : i < o.defs.length), i < j + 1 → ¬ o.defs[i].1 = o.defs[k].1 from fun i h' hi => by
                        by_cases e : i = j
                        · subst e; exact he
                        · exact hA.out i h' (by omega))
                      clear he
                      go_wp2
                      go_quiet (fail)
                      go_wp2
                      go_roundw
                      case rel => exact ⟨j + 1, n + nq, by omega, by go_num, by first | rfl | rw [World.drewN_drewN], HA2⟩
                      case measure => simp [intOf]; omega
                  · obtain rfl : j = k := by omega
                    have HU2 := Lib.hid (HUP.out HOK.out hA.out)
                    go_wp2
                    go_roundw
                    case rel => exact ⟨j + 1, by omega, by go_num, Lib.hid (bel2 HB2.out (below_drewN Wd n)), HU2⟩
                    case measure => simp [intOf]; omega
            · obtain rfl : k = o.defs.length := by omega
              have HDok := Lib.hid (dUp_all l3 hU.out)
              clear hU
              go_wp2
              go_loopw [8] (fun i W => ∃ k : Nat, k ≤ o.links.length ∧ i = .int .i64 k ∧ Hid (Below W0.heap.size W0 W) ∧ Hid (lUp o.links k)) (fun i _ => o.links.length - (intOf i).toNat)
              case atStart => exact ⟨0, Nat.zero_le _, rfl, hB, Lib.hid (fun j h hj => by omega)⟩
              case round =>
                clear b0 b2 b3 hB
                obtain ⟨k, hk, rfl, hB, hU⟩ := hrel
                obtain ⟨b0, b2, b3, b1⟩ := HBX.out wr hB.out
                by_cases hlt : k < o.links.length
                · clear b0 b1 b2
                  obtain ⟨bk, f, ea, hbk, x0, x1, x2⟩ := (HO.out wr hB.out).l.at_ hlt
                  simp only at ea
                  subst ea
                  have hall := HLn.out _ (List.getElem_mem hlt)
                  have hsz : (bs o.links[k].1).size ≤ maxLen := by rw [bs_size]; exact hall.1
                  have hsz2 : (bs o.links[k].2.1).size ≤ maxLen := by rw [bs_size]; exact hall.2.1
                  obtain ⟨h64a, h64b⟩ := hall.2.2
                  clear hall
                  have hcs := fun W => N.nameMay_any (bs o.links[k].1) W hsz
                  have hce := fun W => N.nameMay_any (bs o.links[k].2.1) W hsz2
                  rw [bs_data] at hcs hce
                  have HNO := Lib.hid (fun h => no_l (o := o) (@lUp_bad o.links k hlt h))
                  have HS := Lib.hid (@lUp_step o.links k hlt)
                  have K1 := Lib.hid (@okLink_seg o.links[k])
                  have K2 := Lib.hid (@okLink_ent o.links[k])
                  have K3 := Lib.hid (@okLink_neg o.links[k])
                  have K4 := Lib.hid (@okLink_far o.links[k])
                  have K5 := Lib.hid (@okLink_is o.links[k])
                  have hsw := seg_ways o.links[k].1
                  have hbw := Lib.hid (bel2 hB.out (one_new wr (.cells #[.string (bs o.links[k].1), .string (bs o.links[k].2.1), .int .i64 o.links[k].2.2] 43)))
                  generalize o.links[k].1 = sg at *
                  generalize o.links[k].2.1 = en at *
                  generalize o.links[k].2.2 = ad at *
                  rcases hsw with ⟨s1, s2⟩ | ⟨s1, s2⟩
                  · have S2 := Lib.hid s2
                    clear s2 hcs
                    cases hm : may 32 en with
                    | false =>
                      rw [hm] at hce
                      have HM := Lib.hid hm
                      clear hm
                      go_wp2_with (go_at_call 34; refine (hce _).mono ?_; rintro e w' ⟨rfl, e4⟩; subst w')
                      go_ret
                      rw [HNO.out (K2.out HM.out)]
                      exact ⟨rfl, H0.out.trans (hbw.out.mono H0.out.size)⟩
                    | true =>
                      rw [hm] at hce
                      have HM := Lib.hid hm
                      clear hm
                      by_cases o1 : ad < 0
                      · go_wp2_with (go_at_call 34; refine (hce _).mono ?_; rintro e w' ⟨rfl, e4⟩; subst w')
                        go_ret
                        rw [HNO.out (K3.out o1)]
                        exact ⟨rfl, H0.out.trans (hbw.out.mono H0.out.size)⟩
                      by_cases o2 : ad > 262143
                      · go_wp2_with (go_at_call 34; refine (hce _).mono ?_; rintro e w' ⟨rfl, e4⟩; subst w')
                        go_ret
                        rw [HNO.out (K4.out o2)]
                        exact ⟨rfl, H0.out.trans (hbw.out.mono H0.out.size)⟩
                      go_wp2_with (go_at_call 34; refine (hce _).mono ?_; rintro e w' ⟨rfl, e4⟩; subst w')
                      go_roundw
                      case rel => exact ⟨k + 1, by omega, by go_num, hbw, Lib.hid (HS.out hU.out (K5.out S2.out HM.out (by omega) (by omega)))⟩
                      case measure => simp [intOf]; omega
                  · have S2 := Lib.hid s2
                    clear s2
                    cases hs : may 32 sg with
                    | false =>
                      rw [hs] at hcs
                      have HSg := Lib.hid hs
                      clear hs
                      go_wp2_with (go_at_call 34; refine (hcs _).mono ?_; rintro e w' ⟨rfl, e4⟩; subst w')
                      go_ret
                      rw [HNO.out (K1.out (by rw [S2.out, HSg.out]))]
                      exact ⟨rfl, H0.out.trans (hbw.out.mono H0.out.size)⟩
                    | true =>
                      rw [hs] at hcs
                      have HSg := Lib.hid hs
                      clear hs
                      cases hm : may 32 en with
                      | false =>
                        rw [hm] at hce
                        have HM := Lib.hid hm
                        clear hm
                        go_wp2_with (first
                          | (go_at_call 34; (with_reducible refine (hcs _).mono ?_); rintro e w' ⟨rfl, e4⟩; subst w')
                          | (go_at_call 34; (with_reducible refine (hce _).mono ?_); rintro e w' ⟨rfl, e4⟩; subst w'))
                        go_ret
                        rw [HNO.out (K2.out HM.out)]
                        exact ⟨rfl, H0.out.trans (hbw.out.mono H0.out.size)⟩
                      | true =>
                        rw [hm] at hce
                        have HM := Lib.hid hm
                        clear hm
                        by_cases o1 : ad < 0
                        · go_wp2_with (first
                            | (go_at_call 34; (with_reducible refine (hcs _).mono ?_); rintro e w' ⟨rfl, e4⟩; subst w')
                            | (go_at_call 34; (with_reducible refine (hce _).mono ?_); rintro e w' ⟨rfl, e4⟩; subst w'))
                          go_ret
                          rw [HNO.out (K3.out o1)]
                          exact ⟨rfl, H0.out.trans (hbw.out.mono H0.out.size)⟩
                        by_cases o2 : ad > 262143
                        · go_wp2_with (first
                            | (go_at_call 34; (with_reducible refine (hcs _).mono ?_); rintro e w' ⟨rfl, e4⟩; subst w')
                            | (go_at_call 34; (with_reducible refine (hce _).mono ?_); rintro e w' ⟨rfl, e4⟩; subst w'))
                          go_ret
                          rw [HNO.out (K4.out o2)]
                          exact ⟨rfl, H0.out.trans (hbw.out.mono H0.out.size)⟩
                        go_wp2_with (first
                          | (go_at_call 34; (with_reducible refine (hcs _).mono ?_); rintro e w' ⟨rfl, e4⟩; subst w')
                          | (go_at_call 34; (with_reducible refine (hce _).mono ?_); rintro e w' ⟨rfl, e4⟩; subst w'))
                        go_roundw
                        case rel => exact ⟨k + 1, by omega, by go_num, hbw, Lib.hid (HS.out hU.out (K5.out (by rw [S2.out, HSg.out]) HM.out (by omega) (by omega)))⟩
                        case measure => simp [intOf]; omega
                · obtain rfl : k = o.links.length := by omega
                  have hp := yes_p l1 HTok.out l2 HSok.out HDok.out (lUp_all l4 hU.out)
                  have HFI := Lib.hid (show mayOb o = decide ((wOb o).length ≤ 1024) by rw [mayOb_parts, hp, Bool.true_and])
                  have hw := HWD.out wr hB.out (parts_lay hp)
                  clear hp
                  by_cases hs : (wOb o).length ≤ 1024
                  · have t1 : decide (((wOb o).length : Int) ≤ 1024) = true := decide_eq_true (by omega)
                    go_wp2_with (go_at_call 25; (with_reducible refine hw.mono ?_); rintro e w9 ⟨v, rfl, ho9, b9⟩; obtain ⟨pv, cv, ev, -⟩ := ho9.que.val; subst ev; clear ho9)
                    go_ret
                    rw [HFI.out, decide_eq_true hs]
                    exact ⟨rfl, H0.out.trans ((bel2 hB.out b9).mono H0.out.size)⟩
                  · have t1 : decide (((wOb o).length : Int) ≤ 1024) = false := decide_eq_false (by omega)
                    go_wp2_with (go_at_call 25; (with_reducible refine hw.mono ?_); rintro e w9 ⟨v, rfl, ho9, b9⟩; obtain ⟨pv, cv, ev, -⟩ := ho9.que.val; subst ev; clear ho9)
                    go_ret
                    rw [HFI.out, decide_eq_false hs]
                    exact ⟨rfl, H0.out.trans ((bel2 hB.out b9).mono H0.out.size)⟩

end Go.Proofs.Ytnlohmkgkihldaa.W
