/-
  The document's own ReadObject; and the law ObjectReads answers true.
-/
import Derived.Test.YtnlohmkgkihldaaORefRead
namespace Go.Proofs.Ytnlohmkgkihldaa.W
open Go.ChangeShapes Go.WideShapes Go.ChangeAt Go.RowKit
open Go.Proofs.Ytnlohmkgkihldaa.N (bs bs_data bs_of bs_size may may_pos retB)

def cut1 (z : Int) : Int := ((z.toNat % 68719476736 : Nat) : Int)
theorem cutL_more {zs : List Int} {k : Nat} (hk : k < zs.length) : (cutL zs).take k ++ [cut1 (zs.getD k 0)] = (cutL zs).take (k + 1) := by
  have h2 : k < (cutL zs).length := by rw [cutL_len]; exact hk
  rw [List.take_succ_eq_append_getElem h2]
  congr 2
  simp [cutL, cut1, List.getD, hk]
/-- what is read stays where another box is filled -/
theorem keep_cell {W : World} {r0 : Nat} {a0 a1 a2 a3 : Value} {t : TypeId} (hr : W.heap[r0]? = some (.cells #[a0, a1, a2, a3] t)) (ha : ∀ v, v = a0 ∨ v = a1 ∨ v = a2 ∨ v = a3 → ∃ p n c, v = .slice p n c) (v0 v1 v2 v3 : Value) {b j : Nat} {v : Value} (hc : W.cell? ⟨b, j, none⟩ = some v) (hv : ∀ p n c, v ≠ .slice p n c) : (setOb W r0 v0 v1 v2 v3).cell? ⟨b, j, none⟩ = some v := by
  refine (setOb_grown W r0 v0 v1 v2 v3).cell hc (fun e => ?_)
  have e' : b = r0 := Option.some.inj e
  subst e'
  rw [cell_of_row _ _ _ _ _ _ hr] at hc
  have hbad : ∀ u, (u = a0 ∨ u = a1 ∨ u = a2 ∨ u = a3) → u ≠ v := fun u hu e2 => by
    obtain ⟨p, n, c, e3⟩ := ha u hu
    exact hv p n c (e2 ▸ e3)
  match j, hc with
  | 0, h => exact hbad _ (Or.inl rfl) (Option.some.inj h)
  | 1, h => exact hbad _ (Or.inr (Or.inl rfl)) (Option.some.inj h)
  | 2, h => exact hbad _ (Or.inr (Or.inr (Or.inl rfl))) (Option.some.inj h)
  | 3, h => exact hbad _ (Or.inr (Or.inr (Or.inr rfl))) (Option.some.inj h)
  | k + 4, h => simp at h
theorem obIn_set {W : World} {r0 : Nat} {q q' : Pl} {o x : Ob} (h : ObIn W q o) (hr : W.heap[r0]? = some (OO q' x)) (v0 v1 v2 v3 : Value) : ObIn (setOb W r0 v0 v1 v2 v3) q o := by
  have hk : ∀ {b j : Nat} {v : Value}, W.cell? ⟨b, j, none⟩ = some v → (∀ p n c, v ≠ .slice p n c) → (setOb W r0 v0 v1 v2 v3).cell? ⟨b, j, none⟩ = some v := fun h1 h2 => keep_cell hr (fun v hv => by rcases hv with rfl | rfl | rfl | rfl <;> exact ⟨_, _, _, rfl⟩) v0 v1 v2 v3 h1 h2
  have hs := (setOb_grown W r0 v0 v1 v2 v3).size
  refine ⟨fun h0 => ?_, fun h0 => ?_, fun h0 => ?_, fun h0 => ?_⟩
  · obtain ⟨b, f, e, hc⟩ := h.t h0
    exact ⟨b, f, e, fun i hi => hk (hc i hi) (fun p n c e => by cases e)⟩
  · obtain ⟨b, f, e, hc⟩ := h.s h0
    exact ⟨b, f, e, fun i hi => hk (hc i hi) (fun p n c e => by cases e)⟩
  · obtain ⟨b, f, e, hl, hc⟩ := h.d h0
    exact ⟨b, f, e, Nat.lt_of_lt_of_le hl hs, fun j hj => ⟨hk (hc j hj).1 (fun p n c e => by cases e), hk (hc j hj).2 (fun p n c e => by cases e)⟩⟩
  · obtain ⟨b, f, e, hl, hc⟩ := h.l h0
    exact ⟨b, f, e, Nat.lt_of_lt_of_le hl hs, fun j hj => ⟨hk (hc j hj).1 (fun p n c e => by cases e), hk (hc j hj).2.1 (fun p n c e => by cases e), hk (hc j hj).2.2 (fun p n c e => by cases e)⟩⟩

/-- ReadObject's answer -/
def RefOb (w : World) (C : List Int) (e : Ending) (w' : World) : Prop :=
  Below w.heap.size w w' ∧ ((∃ o q, May o ∧ wOb o = C ∧ e = .returned (.tuple #[OV q o, .int .i64 0]) ∧ ObIn w' q o) ∨ ((∀ o, May o → wOb o ≠ C) ∧ e = rNo))

set_option maxRecDepth 8000 in
set_option maxHeartbeats 4000000 in
theorem readObject_any (a : Option Addr) (c : Nat) (zs : List Int) (w : World) (hN : NumsIn .u64 w a zs) (hz : ∀ z ∈ zs, U64 z) (hl : zs.length ≤ 1500) :
    Calls Try.prog 10 #[.slice a zs.length c] w (RefOb w (cutL zs)) := by
  obtain ⟨ii, hi, hz0, hz1, hz2⟩ := info_parts info_word
  have HN := Lib.hid hN
  have HZ := Lib.hid hz
  have HCL := Lib.hid (cutL_36 zs)
  have hcl := cutL_len zs
  have HLN := Lib.hid hcl
  clear hN hz hcl
  go_enter Try.func10, Try.ntmps10
  go_wp2
  have HB0 := Lib.hid (show Below w.heap.size w (w.alloc (OO nilPl nilOb)) from one_new _ _)
  have HR0 := Lib.hid (heap_alloc_new w (OO nilPl nilOb))
  generalize w.alloc (OO nilPl nilOb) = W0 at *
  have RW := Lib.hid (show RowW W0.heap.size W0 W0 (.slice none 0 0) ((cutL zs).take 0) from ⟨ownW_nil, Below.refl _ _, Nat.le_refl _⟩)
  go_loopw [4, 5] (fun v i W => ∃ k : Nat, k ≤ zs.length ∧ i = .int .i64 k ∧ Hid (RowW W0.heap.size W0 W v ((cutL zs).take k))) (fun _ i _ => zs.length - (intOf i).toNat)
  case atStart => exact ⟨0, Nat.zero_le _, rfl, RW⟩
  case round =>
    clear RW
    obtain ⟨k, hk, rfl, RW⟩ := hrel
    by_cases hlt : k < zs.length
    · obtain ⟨g, f, rfl, hc⟩ := HN.out (by omega)
      have hcell := (RW.out.bel.cell (p := ⟨g, f + k, none⟩) (Nat.lt_of_lt_of_le (World.block_lt_of_cell? w _ (hc k hlt)) HB0.out.size)).trans ((HB0.out.cell (p := ⟨g, f + k, none⟩) (World.block_lt_of_cell? w _ (hc k hlt))).trans (hc k hlt))
      have hU : U64 (zs.getD k 0) := by
        have e : zs.getD k 0 = zs[k] := by simp [List.getD, hlt]
        rw [e]
        exact HZ.out _ (List.getElem_mem _)
      have hcut := fun W => refCut_any (zs.getD k 0) hU W
      have HT := Lib.hid (cutL_more hlt)
      have hT2 := Lib.hid (show ((cutL zs).take (k + 1)).length = k + 1 by rw [List.length_take, HLN.out]; omega)
      have hT3 := Lib.hid (show k + 1 ≤ 100000 by omega)
      unfold cut1 at HT
      generalize ((((zs.getD k 0).toNat % 68719476736 : Nat) : Int)) = x at *
      generalize zs.getD k 0 = z at *
      clear hc
      have hR5 := Lib.hid (RW.out.new (one_new wr (.cells #[.int .u64 x] 37)))
      have hS5 := Lib.hid (side_one RW.out x)
      go_wp2_with (first
        | (go_at_call 13; (refine (hcut _).mono ?_); rintro e w1 ⟨rfl, e1⟩; subst w1)
        | (at_builtin; refine wpList_row rfl (.tmp 14) (.tmp 20) rfl Try.underlying22 hi hz0 hz1 hz2 rfl hR5.out _ _ _ rfl [x] rfl hS5.out (k + 1) ((cutL zs).take (k + 1)) HT.out hT2.out hT3.out ?_; intro p3 c3 w3 r3 k3; have RW := Lib.hid r3; clear r3 k3))
      go_roundw
      case rel => exact ⟨k + 1, by omega, by go_num, RW⟩
      case measure => simp [intOf]; omega
    · obtain rfl : k = zs.length := by omega
      have hall : (cutL zs).take zs.length = cutL zs := List.take_of_length_le (by rw [HLN.out]; exact Nat.le_refl _)
      rw [hall] at RW
      obtain ⟨pv, cv, hve, hn, hcp⟩ := own_slice RW.out.own
      subst hve
      have hrd := refRead_walk pv cv (cutL zs) wr hn HCL.out (by rw [HLN.out]; exact hl) hcp
      unfold RefRd at hrd
      have HRS := Lib.hid ((RW.out.bel.block w.heap.size (block_lt HR0.out)).trans HR0.out)
      have HBW := Lib.hid (bel2 HB0.out RW.out.bel)
      clear hall hn hcp RW
      go_upto_region 7 with (go_at_call 23; (refine hrd.mono ?_); rintro e w2 ⟨b2, (⟨hok, q2, rfl, i2⟩ | ⟨hno, q2, o2, rfl⟩)⟩)
      · have HO := Lib.hid ((obOk_iff (cutL zs) (lOb (cutL zs))).1 ⟨hok, rfl⟩)
        have hbb := bel2 b2 (one_new w2 (OO q2 (lOb (cutL zs))))
        have B2 := Lib.hid (bel2 HBW.out hbb)
        have RS := Lib.hid ((hbb.block _ (block_lt HRS.out)).trans HRS.out)
        have BX := Lib.hid (heap_alloc_new w2 (OO q2 (lOb (cutL zs))))
        have I2 := Lib.hid (i2.below (one_new w2 (OO q2 (lOb (cutL zs)))))
        clear hok i2 hbb b2 hrd
        generalize lOb (cutL zs) = X at *
        generalize w2.alloc (OO q2 X) = W9 at *
        obtain ⟨r0, r1, r2, r3, f0, f1, f2, f3⟩ := four_cells RS.out
        obtain ⟨x0, x1, x2, x3, -⟩ := four_cells BX.out
        go_wp2
        change bodyPost _ _ _ _ _ (setOb W9 w.heap.size (.slice q2.ta X.text.length q2.tc) (.slice q2.sa X.stat.length q2.sc) (.slice q2.da X.defs.length q2.dc) (.slice q2.la X.links.length q2.lc))
        obtain ⟨g0, g1, g2, g3, -⟩ := four_cells (setOb_row RS.out (.slice q2.ta X.text.length q2.tc) (.slice q2.sa X.stat.length q2.sc) (.slice q2.da X.defs.length q2.dc) (.slice q2.la X.links.length q2.lc))
        have hg := grown_below B2.out B2.out.size (setOb_grown W9 w.heap.size (.slice q2.ta X.text.length q2.tc) (.slice q2.sa X.stat.length q2.sc) (.slice q2.da X.defs.length q2.dc) (.slice q2.la X.links.length q2.lc)) (Nat.le_refl _)
        have hin := obIn_set I2.out RS.out (.slice q2.ta X.text.length q2.tc) (.slice q2.sa X.stat.length q2.sc) (.slice q2.da X.defs.length q2.dc) (.slice q2.la X.links.length q2.lc)
        generalize setOb W9 w.heap.size (.slice q2.ta X.text.length q2.tc) (.slice q2.sa X.stat.length q2.sc) (.slice q2.da X.defs.length q2.dc) (.slice q2.la X.links.length q2.lc) = V5 at *
        exact bodyPost_ret (v := .tuple #[OV q2 X, .int .i64 0]) (by simp [results, Try.results10, go_sem, g0, g1, g2, g3]) rfl ⟨hg, Or.inl ⟨X, q2, HO.out.1, HO.out.2, rfl, hin⟩⟩
      · have HO := Lib.hid (fun o ho => obOk_no hno o ho)
        have hbb := bel2 b2 (one_new w2 (OO q2 o2))
        have B2 := Lib.hid (bel2 HBW.out hbb)
        have RS := Lib.hid ((hbb.block _ (block_lt HRS.out)).trans HRS.out)
        clear hno hbb b2 hrd
        generalize w2.alloc (OO q2 o2) = W9 at *
        obtain ⟨r0, r1, r2, r3, f0, f1, f2, f3⟩ := four_cells RS.out
        go_wp2
        change bodyPost _ _ _ _ _ (setOb W9 w.heap.size (.slice none 0 0) (.slice none 0 0) (.slice none 0 0) (.slice none 0 0))
        obtain ⟨g0, g1, g2, g3, -⟩ := four_cells (setOb_row RS.out (.slice none 0 0) (.slice none 0 0) (.slice none 0 0) (.slice none 0 0))
        have hg := grown_below B2.out B2.out.size (setOb_grown W9 w.heap.size (.slice none 0 0) (.slice none 0 0) (.slice none 0 0) (.slice none 0 0)) (Nat.le_refl _)
        generalize setOb W9 w.heap.size (.slice none 0 0) (.slice none 0 0) (.slice none 0 0) (.slice none 0 0) = V5 at *
        exact bodyPost_ret (v := .tuple #[OvNil, .int .i64 12]) (by simp [results, Try.results10, go_sem, g0, g1, g2, g3]) rfl ⟨hg, Or.inr ⟨HO.out, rfl⟩⟩

theorem open_caps {H : Type} {enc : TypeId × Value → H} {P : Program} {w : World} {base : Nat} {spare : Nat → Bool} {held : Bool} {r : Reach} {b0 : Nat} {t e : TypeId} {k : IntKind} {v : Value} {d : DataW H} {p : List MemPlace}
    (ht : P.underlying t = some (.slice e)) (he : P.underlying e = some (.int k)) (hc : P.cellsOf e = 1) (hv : Value.okWide P w r b0 t v) (h : DataW.Trod enc P w base spare held t v d p) :
    ∃ a cap zs, v = .slice a (List.length zs) cap ∧ zs.length ≤ maxLen ∧ NumsIn k w a zs ∧ (∀ n ∈ zs, (Lit.int k n).wf = true) ∧ zs.length ≤ cap := by
  obtain ⟨a, cap, zs, rfl, h1, h2, h3⟩ := open_nums ht he hc hv h
  refine ⟨a, cap, zs, rfl, h1, h2, h3, ?_⟩
  obtain ⟨fuel, hf⟩ := h
  rcases open_ints ht he hc hf with ⟨hcs, _⟩ | ⟨a', len', cap', zs', hcs, _, hl, _⟩
  · simp [Value.cells] at hcs
    obtain ⟨_, h0, _⟩ := hcs
    simp [h0]
  · simp [Value.cells] at hcs
    obtain ⟨rfl, rfl, rfl⟩ := hcs
    exact hl

theorem wf_u64 {x : Int} (h : (Lit.int .u64 x).wf = true) : U64 x := ⟨(bounds_u64 h).1, by have := (bounds_u64 h).2; omega⟩
theorem cutL_nth {zs : List Int} {k : Nat} (hk : k < zs.length) : (cutL zs).getD k 0 = cut1 (zs.getD k 0) := by simp [cutL, cut1, List.getD, hk]

set_option maxRecDepth 8000 in
set_option maxHeartbeats 4000000 in
theorem reads_walk (a : Option Addr) (c : Nat) (zs : List Int) (w : World) (hm : zs.length ≤ maxLen) (hN : NumsIn .u64 w a zs) (hz : ∀ n ∈ zs, (Lit.int .u64 n).wf = true) (hc : zs.length ≤ c) :
    Calls Try.prog 3 #[.slice a zs.length c] w fun e w' => e = .returned (.bool true) ∧ Below w.heap.size w w' := by
  have HZ : Hid (∀ z ∈ zs, U64 z) := Lib.hid (fun z h => wf_u64 (hz z h))
  have HN := Lib.hid hN
  have HC := Lib.hid hc
  have hm2 := hm
  unfold maxLen at hm2
  clear hN hz hc hm
  go_enter Try.func3, Try.ntmps3
  go_upto_region 3 with (go_at_call 8; (refine (awake_any _).mono ?_); rintro e w1 ⟨rfl, b1⟩; have B1 := Lib.hid b1; clear b1)
  by_cases hl : zs.length ≤ 1500
  case neg =>
    have d1 : decide ((zs.length : Int) > 1500) = true := decide_eq_true (by omega)
    go_wp2
    go_ret
    exact ⟨rfl, B1.out⟩
  have d1 : decide ((zs.length : Int) > 1500) = false := decide_eq_false (by omega)
  have hrd := obRead_any (HN.out.below B1.out) HZ.out HC.out
  unfold RdIs at hrd
  have hro := fun (V : World) (h : Below w.heap.size w V) => readObject_any a c zs V (HN.out.below h) HZ.out hl
  unfold RefOb at hro
  have HL := Lib.hid hl
  clear hl hm2
  go_upto_region 6 with (go_at_call 9; (refine hrd.mono ?_); rintro e w2 ⟨b2, (⟨o1, q1, m1, e1, rfl, i1⟩ | ⟨no1, rfl⟩)⟩)
  · have B2 := Lib.hid (bel2 B1.out (bel2 b2 (one_new w2 (OO q1 o1))))
    have I1 := Lib.hid (i1.below (one_new w2 (OO q1 o1)))
    have X1 := Lib.hid (heap_alloc_new w2 (OO q1 o1))
    clear b2 i1 hrd
    generalize w2.alloc (OO q1 o1) = W2 at *
    go_upto_region 7 with (go_at_call 10; (refine (hro _ B2.out).mono ?_); rintro e w3 ⟨b3, (⟨o2, q2, m2, e2, rfl, i2⟩ | ⟨no2, rfl⟩)⟩)
    rotate_left
    · exact absurd e1 (no2 o1 m1)
    obtain rfl : o1 = o2 := wOb_inj m1 m2 (e1.trans e2.symm)
    have hbb := bel2 b3 (one_new w3 (OO q2 o1))
    have B3 := Lib.hid (bel2 B2.out hbb)
    have I1 := Lib.hid (I1.out.below hbb)
    have I2 := Lib.hid (i2.below (one_new w3 (OO q2 o1)))
    have X2 := Lib.hid (heap_alloc_new w3 (OO q2 o1))
    have X1 := Lib.hid ((hbb.block _ (block_lt X1.out)).trans X1.out)
    have HM := Lib.hid m1
    have HE := Lib.hid e1
    clear b3 i2 hbb m1 m2 e1 e2 hro
    generalize w3.alloc (OO q2 o1) = W3 at *
    have hsame := sameOb_any I1.out I2.out (ob_few HM.out) (ob_few HM.out)
    rw [sameB_yes.2 rfl] at hsame
    have hwd := fun (V : World) (h : Below W3.heap.size W3 V) => refObWords_yes q1 o1 V (I1.out.below h) (may_fit HM.out) ((may_iff o1).2 HM.out)
    unfold WYes at hwd
    obtain ⟨x0, x1, x2, x3, -⟩ := four_cells X1.out
    obtain ⟨y0, y1, y2, y3, -⟩ := four_cells X2.out
    have hlen : (wOb o1).length = zs.length := by rw [HE.out, cutL_len]
    have HLEN := Lib.hid hlen
    have HX := Lib.hid (fun (V : World) (h : Below W3.heap.size W3 V) => four_cells ((h.block _ (block_lt X1.out)).trans X1.out))
    clear hlen
    go_upto_region 12 with (first
      | (go_at_call 11; (refine hsame.mono ?_); rintro e w4 ⟨rfl, b4⟩; have B4 := Lib.hid b4; obtain ⟨x0, x1, x2, x3, -⟩ := HX.out _ b4; clear b4)
      | (go_at_call 12; (refine (hwd _ B4.out).mono ?_); rintro e w5 ⟨v5, rfl, o5, b5⟩; obtain ⟨p5, c5, e5, n5, -⟩ := own_slice o5; rw [HLEN.out] at e5; subst e5; have N5 := Lib.hid n5; have B5 := Lib.hid (bel2 B3.out (bel2 B4.out b5)); clear o5 n5 b5))
    have e1 : ((zs.length : Int) != (zs.length : Int)) = false := by simp
    clear x0 x1 x2 x3 y0 y1 y2 y3 hsame hwd
    go_wp2
    go_loopw [9] (fun i W => ∃ k n : Nat, k ≤ zs.length ∧ i = .int .i64 k ∧ W = w5.drewN n) (fun i _ => zs.length - (intOf i).toNat)
    case atStart => exact ⟨0, 0, Nat.zero_le _, rfl, rfl⟩
    case round =>
      obtain ⟨k, n, hk, rfl, rfl⟩ := hrel
      have hl15 := HL.out
      by_cases hlt : k < zs.length
      · obtain ⟨g5, f5, rfl, hc5⟩ := N5.out (by rw [HLEN.out]; omega)
        have N6 := Lib.hid (HN.out.below B5.out)
        obtain ⟨g, f, rfl, hc⟩ := N6.out (by omega)
        have h5 := hc5 k (by rw [HLEN.out]; exact hlt)
        have h6 := hc k hlt
        have hU : U64 (zs.getD k 0) := by
          have e : zs.getD k 0 = zs[k] := by simp [List.getD, hlt]
          rw [e]
          exact HZ.out _ (List.getElem_mem _)
        have hcut := fun W => refCut_any (zs.getD k 0) hU W
        rw [HE.out, cutL_nth hlt] at h5
        unfold cut1 at h5
        generalize ((((zs.getD k 0).toNat % 68719476736 : Nat) : Int)) = x at *
        generalize zs.getD k 0 = z at *
        clear hc hc5 hU
        have i0 : (0 : Int) ≤ (k : Int) := by omega
        have i1 : (k : Int) < (zs.length : Int) := by omega
        have j5 : (w5.drewN n).cell? ⟨g5, f5 + k, none⟩ = some (.int .u64 x) := h5
        have j6 : (w5.drewN n).cell? ⟨g, f + k, none⟩ = some (.int .u64 z) := h6
        have HV : Hid (∀ m, (w5.drewN n).drewN m = w5.drewN (n + m)) := Lib.hid (fun m => by rw [World.drewN_drewN])
        clear h5 h6
        generalize w5.drewN n = V at *
        go_wp2
        go_quiet (first
          | (go_at_call 13; exact Calls.quiet_of_same (hcut _)))
        go_wp2
        go_roundw
        case rel => exact ⟨k + 1, n + nq, by omega, by go_num, HV.out nq⟩
        case measure => simp [intOf]; omega
      · obtain rfl : k = zs.length := by omega
        go_wp2
        go_ret
        exact ⟨rfl, bel2 B5.out (below_drewN _ _)⟩
  · have B2 := Lib.hid (bel2 B1.out (bel2 b2 (one_new w2 (OO nilPl nilOb))))
    have X1 := Lib.hid (heap_alloc_new w2 (OO nilPl nilOb))
    clear b2 hrd
    generalize w2.alloc (OO nilPl nilOb) = W2 at *
    go_upto_region 7 with (go_at_call 10; (refine (hro _ B2.out).mono ?_); rintro e w3 ⟨b3, (⟨o2, q2, m2, e2, rfl, i2⟩ | ⟨no2, rfl⟩)⟩)
    · exact absurd e2 (no1 o2 m2)
    have hbb := bel2 b3 (one_new w3 (OO nilPl nilOb))
    have B3 := Lib.hid (bel2 B2.out hbb)
    have X2 := Lib.hid (heap_alloc_new w3 (OO nilPl nilOb))
    have X1 := Lib.hid ((hbb.block _ (block_lt X1.out)).trans X1.out)
    clear b3 hbb no1 no2 hro
    generalize w3.alloc (OO nilPl nilOb) = W3 at *
    have hsame := sameOb_any (nil_in W3) (nil_in W3) (ob_few may_nil) (ob_few may_nil)
    rw [sameB_yes.2 rfl] at hsame
    change Calls _ _ #[OvNil, OvNil] _ _ at hsame
    obtain ⟨x0, x1, x2, x3, -⟩ := four_cells X1.out
    obtain ⟨y0, y1, y2, y3, -⟩ := four_cells X2.out
    go_wp2_with (go_at_call 11; (refine hsame.mono ?_); rintro e w4 ⟨rfl, b4⟩; have B4 := Lib.hid b4; clear b4)
    go_ret
    exact ⟨rfl, bel2 B3.out B4.out⟩

end Go.Proofs.Ytnlohmkgkihldaa.W
