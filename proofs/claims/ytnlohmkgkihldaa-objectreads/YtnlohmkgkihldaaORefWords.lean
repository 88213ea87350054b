/-
  What the document's own words answers: the words of an object whose parts may be.
-/
import Derived.Test.YtnlohmkgkihldaaORefRow
namespace Go.Proofs.Ytnlohmkgkihldaa.W
open Go.ChangeShapes Go.WideShapes Go.ChangeAt Go.RowKit
open Go.Proofs.Ytnlohmkgkihldaa.N (bs bs_data bs_of bs_size may may_pos retB)

set_option maxRecDepth 8000 in
set_option maxHeartbeats 8000000 in
theorem refWords_any (q : Pl) (o : Ob) (w : World) (hO : ObIn w q o) (hL : Lay o) :
    Calls Try.prog 25 #[OV q o] w fun e w' => ∃ v, e = .returned v ∧ OwnW w.heap.size w' v (wOb o) ∧ Below w.heap.size w w' := by
  obtain ⟨i0, hi, hz0, hz1, hz2⟩ := info_parts info_word
  have HL := Lib.hid hL
  obtain ⟨ht, hs, hdl, hll, -, -⟩ := hL
  have hlen := HL.out.len
  have h0 := one_new w (OO q o)
  have HO := Lib.hid (hO.below h0)
  have H0 := Lib.hid h0
  have e1 := heap_alloc_new w (OO q o)
  obtain ⟨ta, tc, sa, sc, da, dc, la, lc⟩ := q
  obtain ⟨x0, x1, x2, x3, -⟩ := four_cells e1
  clear hO h0 e1
  go_enter Try.func25, Try.ntmps25
  go_upto_region 1 with (fail)
  generalize hW : w.alloc (OO ⟨ta, tc, sa, sc, da, dc, la, lc⟩ o) = W0 at *
  clear hW
  have HS0 := Lib.hid (show ∀ V : World, Below W0.heap.size W0 V → V.cell? ⟨w.heap.size, 0, none⟩ = some (.slice ta o.text.length tc) ∧ V.cell? ⟨w.heap.size, 1, none⟩ = some (.slice sa o.stat.length sc) ∧ V.cell? ⟨w.heap.size, 2, none⟩ = some (.slice da o.defs.length dc) ∧ V.cell? ⟨w.heap.size, 3, none⟩ = some (.slice la o.links.length lc) from fun V hV =>
    have hl := World.block_lt_of_cell? W0 _ x0
    ⟨(hV.cell (p := ⟨w.heap.size, 0, none⟩) hl).trans x0, (hV.cell (p := ⟨w.heap.size, 1, none⟩) hl).trans x1, (hV.cell (p := ⟨w.heap.size, 2, none⟩) hl).trans x2, (hV.cell (p := ⟨w.heap.size, 3, none⟩) hl).trans x3⟩)
  have RW := Lib.hid (show RowW W0.heap.size W0 W0.drew (.slice none 0 0) [] from ⟨ownW_nil, below_drewN W0 1, Nat.le_refl _⟩)
  have HN0 := Lib.hid (show (hd o 0).length ≤ 100000 from Nat.le_trans (hd_le o 0) (by omega))
  have HT0 := Lib.hid (show o.text.length ≤ 100000 by omega)
  have HE0 := Lib.hid (show o.text ++ o.stat = hd o 0 by simp [hd, wDefs])
  clear x0 x1 x2 x3
  have hs1 := HO.out.t
  have hs2 := HO.out.s
  have HST := Lib.hid hs1
  have HSS := Lib.hid hs2
  clear hs1 hs2
  go_region_held3 (fun V => V.cell? ⟨w.heap.size, 0, none⟩ = some (.slice ta o.text.length tc) ∧ V.cell? ⟨w.heap.size, 1, none⟩ = some (.slice sa o.stat.length sc) ∧ V.cell? ⟨w.heap.size, 2, none⟩ = some (.slice da o.defs.length dc) ∧ V.cell? ⟨w.heap.size, 3, none⟩ = some (.slice la o.links.length lc)) (exact HS0.out _ RW.out.bel)
    ((first
      | (refine step_row rfl (.const (.slice none 0 0)) (.tmp 7) rfl Try.underlying22 hi hz0 hz1 hz2 rfl RW.out _ _ _ rfl o.text rfl (side_in RW.out HST.out (Nat.le_refl _)) o.text.length o.text (List.nil_append _) rfl HT0.out ?_; intro p3 c3 w3 r3 k3; have RW := Lib.hid r3; clear r3 k3)
      | (refine step_row rfl (.tmp 8) (.tmp 10) rfl Try.underlying22 hi hz0 hz1 hz2 rfl RW.out _ _ _ rfl o.stat rfl (side_in RW.out HSS.out (Nat.le_refl _)) (hd o 0).length (hd o 0) HE0.out rfl HN0.out ?_; intro p3 c3 w3 r3 k3; have RW := Lib.hid r3; clear r3 k3)
      | fail))
  go_wp2
  clear HST HSS HT0 HE0 HN0
  have HR0 := RW
  go_loopw [3, 4] (fun v i W => ∃ k : Nat, k ≤ o.defs.length ∧ i = .int .i64 k ∧ Hid (RowW W0.heap.size W0 W v (hd o k))) (fun _ i _ => o.defs.length - (intOf i).toNat)
  case atStart => exact ⟨0, Nat.zero_le _, rfl, HR0⟩
  case round =>
    clear HR0 RW
    obtain ⟨k, hk, rfl, RW⟩ := hrel
    obtain ⟨x0, x1, x2, x3⟩ := HS0.out wr RW.out.bel
    by_cases hlt : k < o.defs.length
    · obtain ⟨bk, f, ea, hbk, d0, d1⟩ := HO.out.d.at_ hlt
      simp only at ea
      subst ea
      have hY := Lib.hid (hd_step hlt)
      have hN := hd_le o (k + 1)
      obtain ⟨hnl, hd2, hd3⟩ := HL.out.ds _ (List.getElem_mem hlt)
      have hw := wds_len o.defs[k].1
      generalize o.defs[k].1 = nm at *
      generalize o.defs[k].2 = off at *
      have hnl : nm.length ≤ 255 := by omega
      have hcv : IntKind.u64.wrap off = off := by rw [IntKind.wrap_u64]; omega
      have hY2 := congrArg List.length hY.out
      rw [List.length_append] at hY2
      obtain ⟨y1, hy1⟩ : ∃ y1, hd o k ++ wds nm = y1 := ⟨_, rfl⟩
      rw [hy1] at hY hY2
      have HY1 := Lib.hid hy1
      have HW := Lib.hid hw
      obtain ⟨N1, hN1⟩ : ∃ N1, y1.length = N1 := ⟨_, rfl⟩
      obtain ⟨N2, hN2⟩ : ∃ N2, (hd o (k + 1)).length = N2 := ⟨_, rfl⟩
      have HN1b := Lib.hid (show N1 ≤ 100000 by simp at hY2; omega)
      have HN2b := Lib.hid (show N2 ≤ 100000 by omega)
      have HN1 := Lib.hid hN1
      have HN2 := Lib.hid hN2
      have HS := Lib.hid (show ∀ V : World, Below W0.heap.size W0 V → V.cell? ⟨w.heap.size, 2, none⟩ = some (.slice (some ⟨bk, f, none⟩) o.defs.length dc) ∧ V.cell? ⟨bk, f + k * 2, none⟩ = some (.string (bs nm)) ∧ V.cell? ⟨bk, f + k * 2 + 1, none⟩ = some (.int .i64 off) from fun V hV =>
        ⟨(HS0.out V hV).2.2.1, (hV.cell (p := ⟨bk, f + k * 2, none⟩) hbk).trans d0, (hV.cell (p := ⟨bk, f + k * 2 + 1, none⟩) hbk).trans d1⟩)
      clear hy1 hw hN hY2 hN1 hN2 d0 d1 x0 x1 x3
      go_upto_region 5 with (fail)
      have RW := Lib.hid (show RowW W0.heap.size W0 wr.drew _ _ from RW.out.new (below_drewN wr 1))
      have i0 : (0 : Int) ≤ (k : Int) := by omega
      have i1 : (k : Int) < (o.defs.length : Int) := by omega
      go_region_held3 (fun V => V.cell? ⟨w.heap.size, 2, none⟩ = some (.slice (some ⟨bk, f, none⟩) o.defs.length dc) ∧ V.cell? ⟨bk, f + k * 2, none⟩ = some (.string (bs nm)) ∧ V.cell? ⟨bk, f + k * 2 + 1, none⟩ = some (.int .i64 off)) (first | exact HS.out _ RW.out.bel | exact HS.out _ (RW.out.new (one_new _ (.cells #[.int .u64 off] 37))).bel)
        ((first
          | (go_at_call 35; (with_reducible refine (letters_row nm hnl (RW.out.new (one_new _ (.cells #[.int .u64 off] 37)))).mono ?_); rintro e w2 ⟨g2, o2, c2, rfl, r2, s2, b2⟩; have S35 := Lib.hid ((side_one RW.out off).new b2); have S26 := Lib.hid s2; have RW := Lib.hid r2; clear r2 s2 b2)
          | (go_at_call 35; (with_reducible refine (letters_row nm hnl (row_drew RW.out off)).mono ?_); rintro e w2 ⟨g2, o2, c2, rfl, r2, s2, b2⟩; have S35 := Lib.hid ((side_drew RW.out off).new b2); have S26 := Lib.hid s2; have RW := Lib.hid r2; clear r2 s2 b2)
          | (go_at_call 35; (with_reducible refine (letters_row nm hnl RW.out).mono ?_); rintro e w2 ⟨g2, o2, c2, rfl, r2, s2, b2⟩; (try have S35 := Lib.hid (S35.out.new b2)); have S26 := Lib.hid s2; have RW := Lib.hid r2; clear r2 s2 b2)
          | (refine step_row rfl (.tmp 19) (.tmp 26) rfl Try.underlying22 hi hz0 hz1 hz2 rfl (RW.out.new (one_new _ (.cells #[.int .u64 off] 37))) _ _ _ rfl _ HW.out (S26.out.new (one_new _ (.cells #[.int .u64 off] 37))) N1 y1 HY1.out HN1.out HN1b.out ?_; intro p3 c3 w3 r3 k3; have S35 := Lib.hid (k3 _ _ (side_one RW.out off)); have RW := Lib.hid r3; clear r3 k3)
          | (refine step_row rfl (.tmp 19) (.tmp 26) rfl Try.underlying22 hi hz0 hz1 hz2 rfl RW.out _ _ _ rfl _ HW.out S26.out N1 y1 HY1.out HN1.out HN1b.out ?_; intro p3 c3 w3 r3 k3; (try have S35 := Lib.hid (k3 _ _ S35.out)); have RW := Lib.hid r3; clear r3 k3)
          | (refine step_row rfl (.tmp 27) (.tmp 35) rfl Try.underlying22 hi hz0 hz1 hz2 rfl (RW.out.new (one_new _ (.cells #[.int .u64 off] 37))) _ _ _ rfl [off] rfl (side_one RW.out off) N2 (hd o (k + 1)) hY.out HN2.out HN2b.out ?_; intro p3 c3 w3 r3 k3; have RW := Lib.hid r3; clear r3 k3)
          | (refine step_row rfl (.tmp 27) (.tmp 35) rfl Try.underlying22 hi hz0 hz1 hz2 rfl RW.out _ _ _ rfl [off] rfl S35.out N2 (hd o (k + 1)) hY.out HN2.out HN2b.out ?_; intro p3 c3 w3 r3 k3; have RW := Lib.hid r3; clear r3 k3)
          | fail))
      all_goals
        go_wp2
        go_roundw
        case rel => exact ⟨k + 1, by omega, by go_num, RW⟩
        case measure => simp [intOf]; omega
    · obtain rfl : k = o.defs.length := by omega
      rw [hd_all] at RW
      go_wp2
      clear x0 x1 x2 x3
      have HR0 := RW
      go_loopw [3, 5] (fun v i W => ∃ k : Nat, k ≤ o.links.length ∧ i = .int .i64 k ∧ Hid (RowW W0.heap.size W0 W v (tl o k))) (fun _ i _ => o.links.length - (intOf i).toNat)
      case atStart => exact ⟨0, Nat.zero_le _, rfl, HR0⟩
      case round =>
        clear HR0 RW
        obtain ⟨k, hk, rfl, RW⟩ := hrel
        obtain ⟨x0, x1, x2, x3⟩ := HS0.out wr RW.out.bel
        by_cases hlt : k < o.links.length
        · obtain ⟨bk, f, ea, hbk, d0, d1, d2⟩ := HO.out.l.at_ hlt
          simp only at ea
          subst ea
          have hY := Lib.hid (tl_step hlt)
          have hN := tl_le o (k + 1)
          obtain ⟨hsl, hel, hd3, hd4⟩ := HL.out.ls _ (List.getElem_mem hlt)
          have hw := wds_len o.links[k].1
          have hw2 := wds_len o.links[k].2.1
          generalize o.links[k].1 = sg at *
          generalize o.links[k].2.1 = en at *
          generalize o.links[k].2.2 = off at *
          have hsl : sg.length ≤ 255 := by omega
          have hel : en.length ≤ 255 := by omega
          have hcv : IntKind.u64.wrap off = off := by rw [IntKind.wrap_u64]; omega
          have hY2 := congrArg List.length hY.out
          simp only [List.length_append, hw, hw2, List.length_cons, List.length_nil] at hY2
          obtain ⟨y1, hy1⟩ : ∃ y1, tl o k ++ wds sg = y1 := ⟨_, rfl⟩
          rw [hy1] at hY
          obtain ⟨y2, hy2⟩ : ∃ y2, y1 ++ wds en = y2 := ⟨_, rfl⟩
          rw [hy2] at hY
          have hy1l := congrArg List.length hy1
          have hy2l := congrArg List.length hy2
          simp only [List.length_append, hw, hw2] at hy1l hy2l
          have HY1 := Lib.hid hy1
          have HY2 := Lib.hid hy2
          have HW := Lib.hid hw
          have HW2 := Lib.hid hw2
          obtain ⟨N1, hN1⟩ : ∃ N1, y1.length = N1 := ⟨_, rfl⟩
          obtain ⟨N2, hN2⟩ : ∃ N2, y2.length = N2 := ⟨_, rfl⟩
          obtain ⟨N3, hN3⟩ : ∃ N3, (tl o (k + 1)).length = N3 := ⟨_, rfl⟩
          have HN1b := Lib.hid (show N1 ≤ 100000 by omega)
          have HN2b := Lib.hid (show N2 ≤ 100000 by omega)
          have HN3b := Lib.hid (show N3 ≤ 100000 by omega)
          have HN1 := Lib.hid hN1
          have HN2 := Lib.hid hN2
          have HN3 := Lib.hid hN3
          have HS := Lib.hid (show ∀ V : World, Below W0.heap.size W0 V → V.cell? ⟨w.heap.size, 3, none⟩ = some (.slice (some ⟨bk, f, none⟩) o.links.length lc) ∧ V.cell? ⟨bk, f + k * 3, none⟩ = some (.string (bs sg)) ∧ V.cell? ⟨bk, f + k * 3 + 1, none⟩ = some (.string (bs en)) ∧ V.cell? ⟨bk, f + k * 3 + 2, none⟩ = some (.int .i64 off) from fun V hV =>
            ⟨(HS0.out V hV).2.2.2, (hV.cell (p := ⟨bk, f + k * 3, none⟩) hbk).trans d0, (hV.cell (p := ⟨bk, f + k * 3 + 1, none⟩) hbk).trans d1, (hV.cell (p := ⟨bk, f + k * 3 + 2, none⟩) hbk).trans d2⟩)
          clear hy1 hy2 hw hw2 hN hY2 hy1l hy2l hN1 hN2 hN3 d0 d1 d2 x0 x1 x2
          go_upto_region 9 with (fail)
          have RW := Lib.hid (show RowW W0.heap.size W0 wr.drew _ _ from RW.out.new (below_drewN wr 1))
          have i0 : (0 : Int) ≤ (k : Int) := by omega
          have i1 : (k : Int) < (o.links.length : Int) := by omega
          go_region_held3 (fun V => V.cell? ⟨w.heap.size, 3, none⟩ = some (.slice (some ⟨bk, f, none⟩) o.links.length lc) ∧ V.cell? ⟨bk, f + k * 3, none⟩ = some (.string (bs sg)) ∧ V.cell? ⟨bk, f + k * 3 + 1, none⟩ = some (.string (bs en)) ∧ V.cell? ⟨bk, f + k * 3 + 2, none⟩ = some (.int .i64 off)) (first | exact HS.out _ RW.out.bel | exact HS.out _ (RW.out.new (one_new _ (.cells #[.int .u64 off] 37))).bel)
            ((first
              | (go_at_call 35; (with_reducible refine (letters_row sg hsl (RW.out.new (one_new _ (.cells #[.int .u64 off] 37)))).mono ?_); rintro e w2 ⟨g2, o2, c2, rfl, r2, s2, b2⟩; have S68 := Lib.hid ((side_one RW.out off).new b2); (try have S59 := Lib.hid (S59.out.new (bel2 (one_new _ (.cells #[.int .u64 off] 37)) b2))); have S51 := Lib.hid s2; have RW := Lib.hid r2; clear r2 s2 b2)
              | (go_at_call 35; (with_reducible refine (letters_row sg hsl (row_drew RW.out off)).mono ?_); rintro e w2 ⟨g2, o2, c2, rfl, r2, s2, b2⟩; have S68 := Lib.hid ((side_drew RW.out off).new b2); have S51 := Lib.hid s2; have RW := Lib.hid r2; clear r2 s2 b2)
              | (go_at_call 35; (with_reducible refine (letters_row sg hsl RW.out).mono ?_); rintro e w2 ⟨g2, o2, c2, rfl, r2, s2, b2⟩; (try have S59 := Lib.hid (S59.out.new b2)); (try have S68 := Lib.hid (S68.out.new b2)); have S51 := Lib.hid s2; have RW := Lib.hid r2; clear r2 s2 b2)
              | (go_at_call 35; (with_reducible refine (letters_row en hel (RW.out.new (one_new _ (.cells #[.int .u64 off] 37)))).mono ?_); rintro e w2 ⟨g2, o2, c2, rfl, r2, s2, b2⟩; have S68 := Lib.hid ((side_one RW.out off).new b2); (try have S51 := Lib.hid (S51.out.new (bel2 (one_new _ (.cells #[.int .u64 off] 37)) b2))); have S59 := Lib.hid s2; have RW := Lib.hid r2; clear r2 s2 b2)
              | (go_at_call 35; (with_reducible refine (letters_row en hel RW.out).mono ?_); rintro e w2 ⟨g2, o2, c2, rfl, r2, s2, b2⟩; (try have S51 := Lib.hid (S51.out.new b2)); (try have S68 := Lib.hid (S68.out.new b2)); have S59 := Lib.hid s2; have RW := Lib.hid r2; clear r2 s2 b2)
              | (refine step_row rfl (.tmp 44) (.tmp 51) rfl Try.underlying22 hi hz0 hz1 hz2 rfl (RW.out.new (one_new _ (.cells #[.int .u64 off] 37))) _ _ _ rfl _ HW.out (S51.out.new (one_new _ (.cells #[.int .u64 off] 37))) N1 y1 HY1.out HN1.out HN1b.out ?_; intro p3 c3 w3 r3 k3; have S68 := Lib.hid (k3 _ _ (side_one RW.out off)); (try have S59 := Lib.hid (k3 _ _ (S59.out.new (one_new _ (.cells #[.int .u64 off] 37))))); have RW := Lib.hid r3; clear r3 k3)
              | (refine step_row rfl (.tmp 44) (.tmp 51) rfl Try.underlying22 hi hz0 hz1 hz2 rfl RW.out _ _ _ rfl _ HW.out S51.out N1 y1 HY1.out HN1.out HN1b.out ?_; intro p3 c3 w3 r3 k3; (try have S59 := Lib.hid (k3 _ _ S59.out)); (try have S68 := Lib.hid (k3 _ _ S68.out)); have RW := Lib.hid r3; clear r3 k3)
              | (refine step_row rfl (.tmp 52) (.tmp 59) rfl Try.underlying22 hi hz0 hz1 hz2 rfl (RW.out.new (one_new _ (.cells #[.int .u64 off] 37))) _ _ _ rfl _ HW2.out (S59.out.new (one_new _ (.cells #[.int .u64 off] 37))) N2 y2 HY2.out HN2.out HN2b.out ?_; intro p3 c3 w3 r3 k3; have S68 := Lib.hid (k3 _ _ (side_one RW.out off)); have RW := Lib.hid r3; clear r3 k3)
              | (refine step_row rfl (.tmp 52) (.tmp 59) rfl Try.underlying22 hi hz0 hz1 hz2 rfl RW.out _ _ _ rfl _ HW2.out S59.out N2 y2 HY2.out HN2.out HN2b.out ?_; intro p3 c3 w3 r3 k3; (try have S68 := Lib.hid (k3 _ _ S68.out)); have RW := Lib.hid r3; clear r3 k3)
              | (refine step_row rfl (.tmp 60) (.tmp 68) rfl Try.underlying22 hi hz0 hz1 hz2 rfl (RW.out.new (one_new _ (.cells #[.int .u64 off] 37))) _ _ _ rfl [off] rfl (side_one RW.out off) N3 (tl o (k + 1)) hY.out HN3.out HN3b.out ?_; intro p3 c3 w3 r3 k3; have RW := Lib.hid r3; clear r3 k3)
              | (refine step_row rfl (.tmp 60) (.tmp 68) rfl Try.underlying22 hi hz0 hz1 hz2 rfl RW.out _ _ _ rfl [off] rfl S68.out N3 (tl o (k + 1)) hY.out HN3.out HN3b.out ?_; intro p3 c3 w3 r3 k3; have RW := Lib.hid r3; clear r3 k3)
              | fail))
          all_goals
            go_wp2
            go_roundw
            case rel => exact ⟨k + 1, by omega, by go_num, RW⟩
            case measure => simp [intOf]; omega
        · obtain rfl : k = o.links.length := by omega
          have hY := Lib.hid (tl_all o)
          have HLl := Lib.hid (show (wOb o).length ≤ 100000 by omega)
          have c1 : IntKind.u64.wrap (o.text.length : Int) = (o.text.length : Int) := by rw [IntKind.wrap_u64]; omega
          have c2 : IntKind.u64.wrap (o.stat.length : Int) = (o.stat.length : Int) := by rw [IntKind.wrap_u64]; omega
          have c3 : IntKind.u64.wrap (o.defs.length : Int) = (o.defs.length : Int) := by rw [IntKind.wrap_u64]; omega
          have c4 : IntKind.u64.wrap (o.links.length : Int) = (o.links.length : Int) := by rw [IntKind.wrap_u64]; omega
          have hS5 := Lib.hid (side_new (W' := wr.alloc (.cells #[.int .u64 o.text.length, .int .u64 o.stat.length, .int .u64 o.defs.length, .int .u64 o.links.length, .int .u64 45812815077] 37)) RW.out (Nat.le_refl _) (nums_new wr (wMap o.text.length o.stat.length o.defs.length o.links.length)))
          have hR5 := Lib.hid (RW.out.new (one_new wr (.cells #[.int .u64 o.text.length, .int .u64 o.stat.length, .int .u64 o.defs.length, .int .u64 o.links.length, .int .u64 45812815077] 37)))
          clear hlen
          go_wp2_with (at_builtin; refine wpList_row rfl (.tmp 70) (.tmp 87) rfl Try.underlying22 hi hz0 hz1 hz2 rfl hR5.out _ _ _ rfl _ rfl hS5.out (wOb o).length (wOb o) hY.out rfl HLl.out ?_; intro p3 c3 w3 r3 k3; have RW := Lib.hid r3; clear r3 k3)
          go_ret
          exact ⟨_, rfl, own_base RW.out.own H0.out.size, bel2 H0.out RW.out.bel⟩

end Go.Proofs.Ytnlohmkgkihldaa.W
