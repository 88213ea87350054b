/-
  The law ObjectCuts answers true.
-/
import Derived.Test.YtnlohmkgkihldaaOApartWalk
import Derived.Deep.DeepCutAuto
namespace Go.Proofs.Ytnlohmkgkihldaa.W
open Go.ChangeShapes Go.WideShapes Go.ChangeAt Go.RowKit
open Go.Proofs.Ytnlohmkgkihldaa.N (bs bs_data bs_of bs_size may may_pos retB)

theorem may_fit {o : Ob} (h : May o) : Fit o := by
  have a := h.nt; have b := h.ns; have c := h.nd; have d := h.nl
  refine ⟨fun z hz => ?_, fun z hz => ?_, by unfold maxLen; omega, by unfold maxLen; omega, by unfold maxLen; omega, by unfold maxLen; omega, fun e he => ?_, fun e he => ?_⟩
  · have := h.wt z hz; exact ⟨this.1, by omega⟩
  · have := h.ws z hz; exact ⟨this.1, by omega⟩
  · have h1 := h.dlen e he; have h2 := h.ds e he; exact ⟨by unfold maxLen; omega, by omega, by omega⟩
  · have h1 := h.llen e he; have h2 := h.ls e he; exact ⟨by unfold maxLen; omega, by unfold maxLen; omega, by omega, by omega⟩
theorem ob_few {o : Ob} (h : May o) : Few o := may_few ((may_iff o).2 h)
/-- an object in a box that a law made -/
theorem box1 {w : World} {q : Pl} {o : Ob} {V : World} (h : Below (w.alloc (OO q o)).heap.size (w.alloc (OO q o)) V) :
    V.cell? ⟨w.heap.size, 0, none⟩ = some (.slice q.ta o.text.length q.tc) ∧ V.cell? ⟨w.heap.size, 1, none⟩ = some (.slice q.sa o.stat.length q.sc) ∧ V.cell? ⟨w.heap.size, 2, none⟩ = some (.slice q.da o.defs.length q.dc) ∧ V.cell? ⟨w.heap.size, 3, none⟩ = some (.slice q.la o.links.length q.lc) := by
  have f1 := (h.block w.heap.size (by simp)).trans (heap_alloc_new w _)
  obtain ⟨r0, r1, r2, r3, -⟩ := four_cells f1
  exact ⟨r0, r1, r2, r3⟩
/-- a row of one word -/
theorem ownW_one {base : Nat} {w : World} (hb : base ≤ w.heap.size) (x : Int) : OwnW base (w.alloc (.cells #[.int .u64 x] 37)) (.slice (some ⟨w.heap.size, 0, none⟩) 1 1) [x] :=
  ⟨by simp, Or.inr ⟨w.heap.size, 1, #[.int .u64 x], rfl, hb, heap_alloc_new w _, Nat.le_refl _, by unfold maxLen; omega, by simp, by simp⟩⟩

theorem own_parts {base : Nat} {w : World} {p : Option Addr} {n c : Nat} {xs : List Int} (h : OwnW base w (.slice p n c) xs) : NumsIn .u64 w p xs ∧ xs.length ≤ c ∧ xs.length = n := by
  obtain ⟨p', c', e, h1, h2⟩ := own_slice h
  cases e
  exact ⟨h1, h2, rfl⟩
theorem read_36 {V : World} {p : Option Addr} {c n : Nat} {xs : List Int} (hN : NumsIn .u64 V p xs) (hw : W36 xs) (hc : xs.length ≤ c) (hn : xs.length = n) : Calls Try.prog 9 #[.slice p n c] V (RdIs V xs) := by
  subst hn
  have h := obRead_any hN (fun z hz => ⟨(hw z hz).1, by have := (hw z hz).2; omega⟩) hc
  rw [cutL_id hw] at h
  exact h
/-- words that are one less, or have one more ahead, are another object's -/
theorem cut_not {o o1 : Ob} {C : List Int} {k : Nat} (hC : wOb o = C) (h : wOb o1 = C.take k ++ C.drop (k + 1)) (hk : k < C.length) : o1 ≠ o := by
  rintro rfl
  rw [hC] at h
  have := congrArg List.length h
  simp at this
  omega
theorem more_not {o o1 : Ob} {C : List Int} (hC : wOb o = C) (h : wOb o1 = 7 :: C) : o1 ≠ o := by
  rintro rfl
  rw [hC] at h
  have := congrArg List.length h
  simp at this
def CutRel (w : World) (D : List Int) (M : Nat) (v : Value) (W : World) : Prop := ∃ p c, v = .slice p M c ∧ OwnW w.heap.size W v D ∧ Below w.heap.size w W

set_option maxRecDepth 8000 in
set_option maxHeartbeats 4000000 in
theorem cuts_walk (q : Pl) (o : Ob) (n : Int) (n0 : 0 ≤ n) (n1 : n < 65536) (w : World) (ho : ObIn w q o) (fo : Fit o) :
    Calls Try.prog 5 #[OV q o, .int .u16 n] w fun e w' => e = .returned (.bool true) ∧ Below w.heap.size w w' := by
  have h0 := one_new w (OO q o)
  have hs := fun (V : World) (h : Below (w.alloc (OO q o)).heap.size (w.alloc (OO q o)) V) => small_any ((ho.below h0).below h) fo
  have H0 := Lib.hid h0
  have HO := Lib.hid (fun (V : World) (h : Below (w.alloc (OO q o)).heap.size (w.alloc (OO q o)) V) => (ho.below h0).below h)
  have FO := Lib.hid fo
  clear h0 ho fo
  go_enter Try.func5, Try.ntmps5
  go_upto_region 5 with (first
    | (go_at_call 8; (refine (awake_any _).mono ?_); rintro e w1 ⟨rfl, b1⟩; have B1 := Lib.hid b1; obtain ⟨x0, x1, x2, x3⟩ := box1 b1; clear b1)
    | (go_at_call 17; (with_reducible refine (hs _ B1.out).mono ?_); rintro e w2 ⟨(rfl | rfl), b2⟩ <;> (have B2 := Lib.hid (bel2 B1.out b2); clear b2)))
  rotate_left
  · go_ret
    exact ⟨rfl, bel2 H0.out B2.out⟩
  clear hs x0 x1 x2 x3
  obtain ⟨x0, x1, x2, x3⟩ := box1 B2.out
  cases hm : mayOb o with
  | false =>
    go_wp2_with (first
      | (go_at_call 14; have q := obWords_no q o _ (HO.out _ B2.out) FO.out hm; (with_reducible refine q.mono ?_); clear q; unfold wNo; rintro e w3 ⟨rfl, b3⟩; have B3 := Lib.hid (bel2 B2.out b3); clear b3))
    go_ret
    exact ⟨rfl, bel2 H0.out B3.out⟩
  | true =>
    have HM := Lib.hid ((may_iff o).1 hm)
    have hlen : 5 ≤ (wOb o).length := by rw [wOb_len]; omega
    have hlen2 : (wOb o).length ≤ 1024 := HM.out.sz
    have hw2 := fun V (h : Below (w.alloc (OO q o)).heap.size (w.alloc (OO q o)) V) => obWords_yes q o V (HO.out V h) FO.out hm
    clear hm
    obtain ⟨C, hC⟩ : ∃ C, wOb o = C := ⟨_, rfl⟩
    unfold WYes at hw2
    rw [hC] at hw2 hlen hlen2
    have HC := Lib.hid hC
    clear hC
    go_upto_region 9 with (first
      | (go_at_call 14; (refine (hw2 _ B2.out).mono ?_); rintro e w3 ⟨v, rfl, o3, b3⟩; have B3 := Lib.hid (bel2 B2.out b3); obtain ⟨px, cx, rfl, nx, hcp⟩ := own_slice o3; have NX := Lib.hid nx; clear o3 nx b3))
    obtain ⟨i0, hi, hz0, hz1, hz2⟩ := info_parts info_word
    obtain ⟨g, b, rfl, -⟩ := NX.out (by omega)
    obtain ⟨k, hk⟩ : ∃ k : Nat, n % (C.length : Int) = k := ⟨(n % (C.length : Int)).toNat, (Int.toNat_of_nonneg (Int.emod_nonneg _ (by omega))).symm⟩
    have hkl : k < C.length := by have := Int.emod_lt_of_pos n (show (0 : Int) < (C.length : Int) by omega); omega
    rw [hk]
    have HKL := Lib.hid hkl
    -- both slices of the words
    have nT : Hid (∀ V, Below w3.heap.size w3 V → NumsIn .u64 V (some ⟨g, b, none⟩) (C.take k)) := Lib.hid (fun V hV h0 => by
      obtain ⟨g', b', e, hc⟩ := (NX.out.below hV) (by omega)
      cases e
      refine ⟨_, _, rfl, fun i hj => ?_⟩
      have hik : i < k := by simp at hj; omega
      rw [hc i (by omega)]
      simp [List.getD, List.getElem?_take_of_lt hik])
    have nD : Hid (∀ V, Below w3.heap.size w3 V → NumsIn .u64 V (some ⟨g, b + (k + 1), none⟩) (C.drop (k + 1))) := Lib.hid (fun V hV h0 => by
      obtain ⟨g', b', e, hc⟩ := (NX.out.below hV) (by omega)
      cases e
      refine ⟨_, _, rfl, fun i hj => ?_⟩
      simp at hj
      rw [Nat.add_assoc, hc (k + 1 + i) (by omega)]
      simp [List.getD])
    have nD0 : Hid (cx = k + 1 → ∀ V a, NumsIn .u64 V a (C.drop (k + 1))) := Lib.hid (fun e V a h0 => by simp at h0; omega)
    obtain ⟨N, hN⟩ : ∃ N, (C.drop (k + 1)).length = N := ⟨_, rfl⟩
    have hN2 : C.length - (k + 1) = N := by rw [← hN]; simp
    have tl : (C.take k).length = k := by simp; omega
    obtain ⟨D, hD⟩ : ∃ D, C.take k ++ C.drop (k + 1) = D := ⟨_, rfl⟩
    obtain ⟨M, hM⟩ : ∃ M, D.length = M := ⟨_, rfl⟩
    have hMC : M + 1 = C.length := by rw [← hM, ← hD, List.length_append, tl, hN]; omega
    have D1 := Lib.hid (bel2 (below_drewN w3 1) (one_new w3.drew (.cells #[] 37)))
    have OA : Hid (OwnW w3.heap.size (w3.drew.alloc (.cells #[] 37)) (.slice (some ⟨w3.heap.size, 0, none⟩) 0 0) []) := Lib.hid (ownW_lit (w := w3.drew) (Nat.le_refl _))
    have HS1 := Lib.hid D1.out.size
    have TL := Lib.hid tl
    have HDD := Lib.hid hD
    have HMM := Lib.hid hM
    have HNN := Lib.hid hN
    have HMC := Lib.hid hMC
    have hl1 := Lib.hid (show k ≤ 100000 by omega)
    have hl2 := Lib.hid (show M ≤ 100000 by omega)
    have iw : IntKind.i64.wrap ((k : Int) + 1) = (k : Int) + 1 := by rw [IntKind.wrap_i64]; omega
    have it : ((k : Int) + 1).toNat = k + 1 := by omega
    have i1 : (0 : Int) ≤ (k : Int) := by omega
    have i2 : (k : Int) ≤ (C.length : Int) := by omega
    have i3 : (k : Int) ≤ (cx : Int) := by omega
    have i4 : (0 : Int) ≤ (k : Int) + 1 := by omega
    have i5 : (k : Int) + 1 ≤ (C.length : Int) := by omega
    have H3 := Lib.hid B3.out.size
    clear hk hN tl hD hM hMC x0 x1 x2 x3
    go_cut [8] (fun s8 W => CutRel w3 D M s8 W)
    case first =>
      by_cases hcc : cx = k + 1
      · subst hcc
        have i6 : (k : Int) ≤ (k : Int) + 1 := by omega
        go_region_held3 (fun _ => True) (trivial)
          ((first
            | (refine step_nums rfl (.tmp 32) (.tmp 35) rfl Try.underlying22 hi hz0 hz1 hz2 rfl OA.out _ _ _ rfl _ TL.out (nT.out _ D1.out) k _ (List.nil_append _) TL.out hl1.out HS1.out ?_; intro p4 c4 w4 ho4 hg4; have O4 := Lib.hid ho4; have D4 := Lib.hid (grow_below D1.out HS1.out OA.out hg4); have HS4 := Lib.hid D4.out.size; clear ho4)
            | (refine step_nums rfl (.tmp 36) (.tmp 40) rfl Try.underlying22 hi hz0 hz1 hz2 rfl O4.out _ _ _ rfl (C.drop (k + 1)) (by have := HNN.out; have := HMC.out; omega) (nD0.out rfl _ _) M D HDD.out HMM.out hl2.out HS4.out ?_; intro p5 c5 w5 ho5 hg5; have O5 := Lib.hid ho5; have D5 := Lib.hid (grow_below D4.out HS4.out O4.out hg5); clear ho5)))
        go_wp2
        go_meet
        exact ⟨_, _, rfl, O5.out, D5.out⟩
      · go_region_held3 (fun _ => True) (trivial)
          ((first
            | (refine step_nums rfl (.tmp 32) (.tmp 35) rfl Try.underlying22 hi hz0 hz1 hz2 rfl OA.out _ _ _ rfl _ TL.out (nT.out _ D1.out) k _ (List.nil_append _) TL.out hl1.out HS1.out ?_; intro p4 c4 w4 ho4 hg4; have O4 := Lib.hid ho4; have D4 := Lib.hid (grow_below D1.out HS1.out OA.out hg4); have HS4 := Lib.hid D4.out.size; clear ho4)
            | (refine step_nums rfl (.tmp 36) (.tmp 40) rfl Try.underlying22 hi hz0 hz1 hz2 rfl O4.out _ _ _ rfl (C.drop (k + 1)) (by have := HNN.out; have := HMC.out; omega) (nD.out _ D4.out) M D HDD.out HMM.out hl2.out HS4.out ?_; intro p5 c5 w5 ho5 hg5; have O5 := Lib.hid ho5; have D5 := Lib.hid (grow_below D4.out HS4.out O4.out hg5); clear ho5)))
        go_wp2
        go_meet
        exact ⟨_, _, rfl, O5.out, D5.out⟩
    case rest =>
      obtain ⟨pc, cc, rfl, hcr, hcb⟩ := hcut
      obtain ⟨p9, c9, e9, n9, hc9⟩ := own_slice hcr
      have hML := HMM.out
      rw [hML] at e9 hc9
      cases e9
      have NC := Lib.hid n9
      have BC := Lib.hid (bel2 B3.out hcb)
      have HCB := Lib.hid hcb
      have HCB := Lib.hid hcb
      clear hcr hcb n9 hML OA D1 HS1 nT nD nD0 TL HNN hl1 hN2 iw it i1 i2 i3 i4 i5
      have h36 : W36 C := HC.out ▸ wOb_bd HM.out
      have hD36 : W36 D := by
        rw [← HDD.out]
        intro z hz
        rcases List.mem_append.1 hz with h | h
        · exact h36 z (List.mem_of_mem_take h)
        · exact h36 z (List.mem_of_mem_drop h)
      have H7 : Hid (W36 (7 :: C)) := Lib.hid (fun z hz => by
        rcases List.mem_cons.1 hz with rfl | h
        · omega
        · exact h36 z h)
      have hr1 := Lib.hid (read_36 NC.out hD36 (by rw [HMM.out]; exact hc9) HMM.out)
      obtain ⟨N7, hN7⟩ : ∃ N7, (7 :: C).length = N7 := ⟨_, rfl⟩
      have hl7 := Lib.hid (show N7 ≤ 100000 by rw [← hN7]; simp; omega)
      have HN7 := Lib.hid hN7
      clear hD36 hN7
      go_upto_region 11 with (go_at_call 9; (refine hr1.out.mono ?_); rintro e w6 ⟨b6, (⟨o1, q1, m1, e1, rfl, i1⟩ | ⟨no1, rfl⟩)⟩)
      · have B6 := Lib.hid (bel2 BC.out b6)
        have B7 := Lib.hid (bel2 B6.out (one_new w6 (OO q1 o1)))
        have L7 := Lib.hid (bel2 (bel2 (bel2 HCB.out b6) (one_new w6 (OO q1 o1))) (one_new (w6.alloc (OO q1 o1)) (.cells #[.int .u64 7] 37)))
        have NX7 := Lib.hid (NX.out.below L7.out)
        have hz6 : (w6.alloc (OO q1 o1)).heap.size = w6.heap.size + 1 := by simp
        have O7 := Lib.hid (ownW_one (w := w6.alloc (OO q1 o1)) (Nat.le_refl _) 7)
        have T7 := Lib.hid (one_new (w6.alloc (OO q1 o1)) (.cells #[.int .u64 7] 37))
        rw [hz6] at O7 T7
        have S7 : Hid (w6.heap.size + 1 ≤ ((w6.alloc (OO q1 o1)).alloc (.cells #[.int .u64 7] 37)).heap.size) := Lib.hid (by simp)
        have HZ6 := Lib.hid hz6
        have b6c := Lib.hid b6
        clear b6 hz6
        go_upto_region 12 with (first
          | (at_builtin; refine wpList_nums rfl (.tmp 48) (.tmp 49) rfl Try.underlying22 hi hz0 hz1 hz2 rfl O7.out _ _ _ rfl C rfl NX7.out N7 (7 :: C) rfl HN7.out hl7.out S7.out ?_; intro p8 c8 w8 ho8 _ hg8; obtain ⟨n8, k8, m8⟩ := own_parts ho8; have N8 := Lib.hid n8; have K8 := Lib.hid k8; have E8 := Lib.hid (show Below (w6.alloc (OO q1 o1)).heap.size (w6.alloc (OO q1 o1)) w8 from by rw [HZ6.out]; exact grow_below T7.out S7.out O7.out hg8); clear n8 k8 m8 ho8 hg8)
          | (go_at_call 9; (refine (read_36 N8.out H7.out K8.out HN7.out).mono ?_); rintro e w9 ⟨b9, (⟨o2, q2, m2, e2, rfl, i2⟩ | ⟨no2, rfl⟩)⟩))
        · have E9 := Lib.hid (bel2 (bel2 E8.out b9) (one_new w9 (OO q2 o2)))
          have B9 := Lib.hid (bel2 B7.out E9.out)
          obtain ⟨y0, y1, y2, y3⟩ := box1 E9.out
          have I1 := Lib.hid (i1.below (bel2 (one_new w6 (OO q1 o1)) E9.out))
          have NC9 := Lib.hid (NC.out.below (bel2 b6c.out (bel2 (one_new w6 (OO q1 o1)) E9.out)))
          have q10 := obWords_yes q1 o1 _ I1.out (may_fit m1) ((may_iff o1).2 m1)
          unfold WYes at q10
          rw [e1] at q10
          have Q10 := Lib.hid q10
          clear q10
          have hne := sameB_no (cut_not HC.out (e1.trans HDD.out.symm) HKL.out)
          have q12 := fun (V : World) (h : Below (w9.alloc (OO q2 o2)).heap.size (w9.alloc (OO q2 o2)) V) => sameOb_any (I1.out.below h) (HO.out _ (bel2 B9.out h)) (ob_few m1) (ob_few HM.out)
          rw [hne] at q12
          have I2 := Lib.hid (i2.below (one_new w9 (OO q2 o2)))
          have hne2 := sameB_no (more_not HC.out e2)
          have q13 := fun (V : World) (h : Below (w9.alloc (OO q2 o2)).heap.size (w9.alloc (OO q2 o2)) V) => sameOb_any (I2.out.below h) (HO.out _ (bel2 B9.out h)) (ob_few m2) (ob_few HM.out)
          rw [hne2] at q13
          clear b9
          go_wp2_with (first
            | (go_at_call 14; (refine Q10.out.mono ?_); rintro e w10 ⟨v, rfl, o10, b10⟩; obtain ⟨p10, c10, rfl, n10, -⟩ := own_slice o10; have N10 := Lib.hid n10; have NC10 := Lib.hid (NC9.out.below b10); have T10 := Lib.hid b10; clear o10 n10 b10)
            | (go_at_call 15; (refine (same_nums (xs := D) (ys := D) N10.out NC10.out (by have := HMM.out; have := HMC.out; omega) rfl HMM.out).mono ?_); rw [decide_eq_true (rfl : D = D)]; rintro e w11 ⟨rfl, n11, e11⟩; have T11 := Lib.hid (bel2 T10.out (drewN_below e11)); obtain ⟨y0, y1, y2, y3⟩ := box1 (bel2 E9.out T11.out); obtain ⟨x0, x1, x2, x3⟩ := box1 (bel2 B9.out T11.out); clear e11)
            | (go_at_call 11; (with_reducible refine (q12 _ T11.out).mono ?_); rintro e w12 ⟨rfl, b12⟩; have T12 := Lib.hid (bel2 T11.out b12); obtain ⟨x0, x1, x2, x3⟩ := box1 (bel2 B9.out T12.out); obtain ⟨z0, z1, z2, z3⟩ := box1 T12.out; clear b12)
            | (go_at_call 11; (with_reducible refine (q13 _ T12.out).mono ?_); rintro e w13 ⟨rfl, b13⟩; have T13 := Lib.hid (bel2 T12.out b13); clear b13))
          go_ret
          exact ⟨rfl, bel2 H0.out (bel2 B9.out T13.out)⟩
        · have E9 := Lib.hid (bel2 (bel2 E8.out b9) (one_new w9 (NilO)))
          have B9 := Lib.hid (bel2 B7.out E9.out)
          obtain ⟨y0, y1, y2, y3⟩ := box1 E9.out
          have I1 := Lib.hid (i1.below (bel2 (one_new w6 (OO q1 o1)) E9.out))
          have NC9 := Lib.hid (NC.out.below (bel2 b6c.out (bel2 (one_new w6 (OO q1 o1)) E9.out)))
          have q10 := obWords_yes q1 o1 _ I1.out (may_fit m1) ((may_iff o1).2 m1)
          unfold WYes at q10
          rw [e1] at q10
          have Q10 := Lib.hid q10
          clear q10
          have hne := sameB_no (cut_not HC.out (e1.trans HDD.out.symm) HKL.out)
          have q12 := fun (V : World) (h : Below (w9.alloc (NilO)).heap.size (w9.alloc (NilO)) V) => sameOb_any (I1.out.below h) (HO.out _ (bel2 B9.out h)) (ob_few m1) (ob_few HM.out)
          rw [hne] at q12
          clear b9
          go_wp2_with (first
            | (go_at_call 14; (refine Q10.out.mono ?_); rintro e w10 ⟨v, rfl, o10, b10⟩; obtain ⟨p10, c10, rfl, n10, -⟩ := own_slice o10; have N10 := Lib.hid n10; have NC10 := Lib.hid (NC9.out.below b10); have T10 := Lib.hid b10; clear o10 n10 b10)
            | (go_at_call 15; (refine (same_nums (xs := D) (ys := D) N10.out NC10.out (by have := HMM.out; have := HMC.out; omega) rfl HMM.out).mono ?_); rw [decide_eq_true (rfl : D = D)]; rintro e w11 ⟨rfl, n11, e11⟩; have T11 := Lib.hid (bel2 T10.out (drewN_below e11)); obtain ⟨y0, y1, y2, y3⟩ := box1 (bel2 E9.out T11.out); obtain ⟨x0, x1, x2, x3⟩ := box1 (bel2 B9.out T11.out); clear e11)
            | (go_at_call 11; (with_reducible refine (q12 _ T11.out).mono ?_); rintro e w12 ⟨rfl, b12⟩; have T12 := Lib.hid (bel2 T11.out b12); clear b12))
          go_ret
          exact ⟨rfl, bel2 H0.out (bel2 B9.out T12.out)⟩
      · have B6 := Lib.hid (bel2 BC.out b6)
        have B7 := Lib.hid (bel2 B6.out (one_new w6 (NilO)))
        have L7 := Lib.hid (bel2 (bel2 (bel2 HCB.out b6) (one_new w6 (NilO))) (one_new (w6.alloc (NilO)) (.cells #[.int .u64 7] 37)))
        have NX7 := Lib.hid (NX.out.below L7.out)
        have hz6 : (w6.alloc (NilO)).heap.size = w6.heap.size + 1 := by simp
        have O7 := Lib.hid (ownW_one (w := w6.alloc (NilO)) (Nat.le_refl _) 7)
        have T7 := Lib.hid (one_new (w6.alloc (NilO)) (.cells #[.int .u64 7] 37))
        rw [hz6] at O7 T7
        have S7 : Hid (w6.heap.size + 1 ≤ ((w6.alloc (NilO)).alloc (.cells #[.int .u64 7] 37)).heap.size) := Lib.hid (by simp)
        have HZ6 := Lib.hid hz6
        clear b6 hz6
        go_upto_region 12 with (first
          | (at_builtin; refine wpList_nums rfl (.tmp 48) (.tmp 49) rfl Try.underlying22 hi hz0 hz1 hz2 rfl O7.out _ _ _ rfl C rfl NX7.out N7 (7 :: C) rfl HN7.out hl7.out S7.out ?_; intro p8 c8 w8 ho8 _ hg8; obtain ⟨n8, k8, m8⟩ := own_parts ho8; have N8 := Lib.hid n8; have K8 := Lib.hid k8; have E8 := Lib.hid (show Below (w6.alloc (NilO)).heap.size (w6.alloc (NilO)) w8 from by rw [HZ6.out]; exact grow_below T7.out S7.out O7.out hg8); clear n8 k8 m8 ho8 hg8)
          | (go_at_call 9; (refine (read_36 N8.out H7.out K8.out HN7.out).mono ?_); rintro e w9 ⟨b9, (⟨o2, q2, m2, e2, rfl, i2⟩ | ⟨no2, rfl⟩)⟩))
        · have E9 := Lib.hid (bel2 (bel2 E8.out b9) (one_new w9 (OO q2 o2)))
          have B9 := Lib.hid (bel2 B7.out E9.out)
          have I2 := Lib.hid (i2.below (one_new w9 (OO q2 o2)))
          have hne2 := sameB_no (more_not HC.out e2)
          have q13 := fun (V : World) (h : Below (w9.alloc (OO q2 o2)).heap.size (w9.alloc (OO q2 o2)) V) => sameOb_any (I2.out.below h) (HO.out _ (bel2 B9.out h)) (ob_few m2) (ob_few HM.out)
          rw [hne2] at q13
          obtain ⟨x0, x1, x2, x3⟩ := box1 B9.out
          obtain ⟨z0, z1, z2, z3⟩ := box1 (Below.refl (w9.alloc (OO q2 o2)).heap.size (w9.alloc (OO q2 o2)))
          clear b9
          go_wp2_with (first
            | (go_at_call 11; (with_reducible refine (q13 _ (Below.refl _ _)).mono ?_); rintro e w13 ⟨rfl, b13⟩; have T13 := Lib.hid (bel2 (Below.refl _ _) b13); clear b13))
          go_ret
          exact ⟨rfl, bel2 H0.out (bel2 B9.out T13.out)⟩
        · have E9 := Lib.hid (bel2 (bel2 E8.out b9) (one_new w9 (NilO)))
          have B9 := Lib.hid (bel2 B7.out E9.out)
          clear b9
          go_wp2
          go_ret
          exact ⟨rfl, bel2 H0.out B9.out⟩

end Go.Proofs.Ytnlohmkgkihldaa.W
