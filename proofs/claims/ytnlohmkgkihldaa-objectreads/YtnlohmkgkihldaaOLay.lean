/-
  What layOut answers: the words of an object whose parts may be.
-/
import Derived.Test.YtnlohmkgkihldaaOConcat
namespace Go.Proofs.Ytnlohmkgkihldaa.W
open Go.ChangeShapes Go.WideShapes Go.ChangeAt Go.RowKit
open Go.Proofs.Ytnlohmkgkihldaa.N (bs bs_data bs_of bs_size may may_pos retB)

/-- what the parts' being right says for the words -/
structure Lay (o : Ob) : Prop where
  nt : o.text.length ≤ 512
  ns : o.stat.length ≤ 64
  nd : o.defs.length ≤ 32
  nl : o.links.length ≤ 32
  ds : ∀ d ∈ o.defs, d.1.length ≤ 32 ∧ 0 ≤ d.2 ∧ d.2 ≤ 262143
  ls : ∀ d ∈ o.links, d.1.length ≤ 32 ∧ d.2.1.length ≤ 32 ∧ 0 ≤ d.2.2 ∧ d.2.2 ≤ 262143
theorem parts_lay {o : Ob} (h : partsOb o = true) : Lay o := by
  simp only [partsOb, defsOk, linksOk, Bool.and_eq_true, decide_eq_true_eq, List.all_eq_true] at h
  obtain ⟨⟨a, _⟩, ⟨b, _⟩, ⟨c, d, _⟩, e, f⟩ := h
  refine ⟨a, b, c, e, fun x hx => ?_, fun x hx => ?_⟩
  · have := d x hx
    simp only [okDef, Bool.and_eq_true, decide_eq_true_eq] at this
    exact ⟨(may_pos this.1).2.1, this.2.1, by omega⟩
  · have := f x hx
    simp only [okLink, Bool.and_eq_true, Bool.or_eq_true, decide_eq_true_eq, List.isEmpty_iff] at this
    exact ⟨this.1.elim (fun e => by rw [e]; simp) (fun h => (may_pos h).2.1), (may_pos this.2.1).2.1, this.2.2.1, this.2.2.2⟩
theorem wDefs_le {ds : List (Txt × Int)} (h : ∀ d ∈ ds, d.1.length ≤ 32) : (wDefs ds).length ≤ 10 * ds.length := by
  induction ds with
  | nil => simp [wDefs]
  | cons d r ih =>
    have h1 := h d (by simp)
    have h2 := ih (fun e he => h e (by simp [he]))
    rw [wDefs, List.length_append, wDef_len, List.length_cons]
    unfold nw
    omega
theorem wLinks_le {ds : List (Txt × Txt × Int)} (h : ∀ d ∈ ds, d.1.length ≤ 32 ∧ d.2.1.length ≤ 32) : (wLinks ds).length ≤ 19 * ds.length := by
  induction ds with
  | nil => simp [wLinks]
  | cons d r ih =>
    have h1 := h d (by simp)
    have h2 := ih (fun e he => h e (by simp [he]))
    rw [wLinks, List.length_append, wLink_len, List.length_cons]
    unfold nw
    omega
theorem Lay.len {o : Ob} (h : Lay o) : (wOb o).length ≤ 1509 := by
  have a := h.nt; have b := h.ns; have c := h.nd; have d := h.nl
  have e := wDefs_le (fun d hd => (h.ds d hd).1)
  have f := wLinks_le (fun d hd => ⟨(h.ls d hd).1, (h.ls d hd).2.1⟩)
  rw [wOb_len]
  omega
/-- the words up to definition k, up to link k -/
def hd (o : Ob) (k : Nat) : List Int := o.text ++ (o.stat ++ wDefs (o.defs.take k))
def tl (o : Ob) (k : Nat) : List Int := o.text ++ (o.stat ++ (wDefs o.defs ++ wLinks (o.links.take k)))
theorem hd_step {o : Ob} {k : Nat} (hk : k < o.defs.length) : hd o k ++ wds o.defs[k].1 ++ [o.defs[k].2] = hd o (k + 1) := by
  unfold hd
  rw [List.take_succ_eq_append_getElem hk, wDefs_app]
  simp [wDefs, wDef]
theorem hd_all (o : Ob) : hd o o.defs.length = tl o 0 := by simp [hd, tl, wLinks]
theorem tl_step {o : Ob} {k : Nat} (hk : k < o.links.length) : tl o k ++ wds o.links[k].1 ++ wds o.links[k].2.1 ++ [o.links[k].2.2] = tl o (k + 1) := by
  unfold tl
  rw [List.take_succ_eq_append_getElem hk, wLinks_app]
  simp [wLinks, wLink]
theorem tl_all (o : Ob) : tl o o.links.length ++ wMap o.text.length o.stat.length o.defs.length o.links.length = wOb o := by simp [tl, wOb]
theorem tl_le (o : Ob) (k : Nat) : (tl o k).length ≤ (wOb o).length := by
  have e : o.links = o.links.take k ++ o.links.drop k := (List.take_append_drop k _).symm
  have : wLinks o.links = wLinks (o.links.take k) ++ wLinks (o.links.drop k) := by rw [← wLinks_app, ← e]
  have h2 := congrArg List.length this
  simp only [List.length_append] at h2
  rw [wOb_len]
  simp only [tl, List.length_append]
  omega
theorem hd_le (o : Ob) (k : Nat) : (hd o k).length ≤ (wOb o).length := by
  have e : o.defs = o.defs.take k ++ o.defs.drop k := (List.take_append_drop k _).symm
  have : wDefs o.defs = wDefs (o.defs.take k) ++ wDefs (o.defs.drop k) := by rw [← wDefs_app, ← e]
  have h2 := congrArg List.length this
  simp only [List.length_append] at h2
  rw [wOb_len]
  simp only [hd, List.length_append]
  omega
theorem one_num (w : World) (x : Int) : NumsIn .u64 (w.alloc (.cells #[.int .u64 x] 37)) (some ⟨w.heap.size, 0, none⟩) [x] := fun _ => ⟨_, _, rfl, fun i hi => by
  simp at hi
  subst hi
  rw [cell_of_row _ _ _ _ _ _ (heap_alloc_new w _)]
  rfl⟩

theorem own_base {base : Nat} {w : World} {v : Value} {xs : List Int} (h : OwnW base w v xs) {b : Nat} (hb : b ≤ base) : OwnW b w v xs := by
  obtain ⟨hl, h⟩ := h
  refine ⟨hl, ?_⟩
  rcases h with h | ⟨g, cap, cur, e, hg, r⟩
  · exact Or.inl h
  · exact Or.inr ⟨g, cap, cur, e, Nat.le_trans hb hg, r⟩
theorem nums_row {w : World} {g : Nat} {zs : List Int} (h : w.heap[g]? = some (row zs)) : NumsIn .u64 w (some ⟨g, 0, none⟩) zs := nums_of (row_lie h)
/-- what a list appended to a row of its own leaves of elder blocks -/
theorem grow_below {B : Nat} {w0 w w' : World} {v : Value} {xs : List Int} (hb : Below B w0 w) (hB : B ≤ w.heap.size) (ho : OwnW B w v xs) (hg : w.grownBy w' v.ownBlock) : Below B w0 w' :=
  hb.trans (below_grown hg hB (fun g hg => (ho.que.lt g hg).1))
theorem grow_cell {B b j : Nat} {w w' : World} {v : Value} {xs : List Int} (hg : w.grownBy w' v.ownBlock) (ho : OwnW B w v xs) (hb : b < w.heap.size) (hn : v.ownBlock ≠ some b) : w'.cell? ⟨b, j, none⟩ = w.cell? ⟨b, j, none⟩ := (fun _ => grown_cell hg hb hn) ho

theorem box4_below {w w' : World} {b : Nat} {v0 v1 v2 v3 : Value} (h : w.cell? ⟨b, 0, none⟩ = some v0 ∧ w.cell? ⟨b, 1, none⟩ = some v1 ∧ w.cell? ⟨b, 2, none⟩ = some v2 ∧ w.cell? ⟨b, 3, none⟩ = some v3) (hb : Below (b + 1) w w') :
    w'.cell? ⟨b, 0, none⟩ = some v0 ∧ w'.cell? ⟨b, 1, none⟩ = some v1 ∧ w'.cell? ⟨b, 2, none⟩ = some v2 ∧ w'.cell? ⟨b, 3, none⟩ = some v3 :=
  ⟨(hb.cell (p := ⟨b, 0, none⟩) (Nat.lt_succ_self b)).trans h.1, (hb.cell (p := ⟨b, 1, none⟩) (Nat.lt_succ_self b)).trans h.2.1, (hb.cell (p := ⟨b, 2, none⟩) (Nat.lt_succ_self b)).trans h.2.2.1, (hb.cell (p := ⟨b, 3, none⟩) (Nat.lt_succ_self b)).trans h.2.2.2⟩
theorem nums_new (w : World) (zs : List Int) : NumsIn .u64 (w.alloc (.cells (zs.map (Value.int .u64)).toArray 37)) (some ⟨w.heap.size, 0, none⟩) zs := fun _ => ⟨_, _, rfl, fun i hi => by
  rw [cell_of_row _ _ _ _ _ _ (heap_alloc_new w _)]
  simp [hi]⟩

set_option maxRecDepth 8000 in
set_option maxHeartbeats 4000000 in
theorem layOut_any (q : Pl) (o : Ob) (w : World) (hO : ObIn w q o) (hL : Lay o) :
    Calls Try.prog 26 #[OV q o] w fun e w' => ∃ v, e = .returned v ∧ OwnW w.heap.size w' v (wOb o) ∧ Below w.heap.size w w' := by
  obtain ⟨i0, hi, hz0, hz1, hz2⟩ := info_parts info_word
  have HL := Lib.hid hL
  obtain ⟨ht, hs, hdl, hll, -, -⟩ := hL
  have hlen := HL.out.len
  have HO := Lib.hid (hO.below (one_new w (OO q o)))
  have hcc := concatW_any (w.heap.size + 1) [(q.ta, q.tc, o.text), (q.sa, q.sc, o.stat)] ((w.alloc (OO q o)).alloc (.cells #[.slice q.ta o.text.length q.tc, .slice q.sa o.stat.length q.sc] 22)) (by simp) (by simp) (fun j hj => by
    have hr := heap_alloc_new (w.alloc (OO q o)) (.cells #[.slice q.ta o.text.length q.tc, .slice q.sa o.stat.length q.sc] 22)
    have e : (w.alloc (OO q o)).heap.size = w.heap.size + 1 := by simp
    rw [e] at hr
    rw [cell_of_row _ _ _ _ _ _ hr]
    match j, hj with
    | 0, _ => rfl
    | 1, _ => rfl) (fun j hj => by
    match j, hj with
    | 0, _ => exact HO.out.t.below (one_new _ _)
    | 1, _ => exact HO.out.s.below (one_new _ _)) (by simp [allW]; omega)
  have he : allW [(q.ta, q.tc, o.text), (q.sa, q.sc, o.stat)] = hd o 0 := by simp [allW, hd, wDefs]
  rw [he] at hcc
  clear he hO
  have HD : ∀ W, Below (w.heap.size + 2) ((w.alloc (OO q o)).alloc (.cells #[.slice q.ta o.text.length q.tc, .slice q.sa o.stat.length q.sc] 22)) W → DRow W q.da o.defs ∧ KRow W q.la o.links ∧ W.cell? ⟨w.heap.size, 0, none⟩ = some (.slice q.ta o.text.length q.tc) ∧ W.cell? ⟨w.heap.size, 1, none⟩ = some (.slice q.sa o.stat.length q.sc) ∧ W.cell? ⟨w.heap.size, 2, none⟩ = some (.slice q.da o.defs.length q.dc) ∧ W.cell? ⟨w.heap.size, 3, none⟩ = some (.slice q.la o.links.length q.lc) ∧ Below w.heap.size w W := fun W hB => by
    have hX : ((w.alloc (OO q o)).alloc (.cells #[.slice q.ta o.text.length q.tc, .slice q.sa o.stat.length q.sc] 22)).heap.size = w.heap.size + 2 := by simp
    have hc : ∀ j, W.cell? ⟨w.heap.size, j, none⟩ = (w.alloc (OO q o)).cell? ⟨w.heap.size, j, none⟩ := fun j => (hB.cell (p := ⟨w.heap.size, j, none⟩) (by simp)).trans ((one_new (w.alloc (OO q o)) _).cell (p := ⟨w.heap.size, j, none⟩) (by simp))
    have hr := heap_alloc_new w (OO q o)
    refine ⟨(HO.out.d.below (one_new _ _)).below (by rw [hX]; exact hB), (HO.out.l.below (one_new _ _)).below (by rw [hX]; exact hB), ?_, ?_, ?_, ?_, (bel2 (one_new _ _) (one_new _ _)).trans (hB.mono (by omega))⟩
    all_goals rw [hc, cell_of_row _ _ _ _ _ _ hr]; rfl
  generalize hW0 : (w.alloc (OO q o)).alloc (.cells #[.slice q.ta o.text.length q.tc, .slice q.sa o.stat.length q.sc] 22) = W0 at hcc HD
  have hX : W0.heap.size = w.heap.size + 2 := by rw [← hW0]; simp
  rw [hX] at hcc
  change Calls _ _ #[.slice (some ⟨w.heap.size + 1, 0, none⟩) 2 2] _ _ at hcc
  have HDD := Lib.hid HD
  clear HD
  obtain ⟨ta, tc, sa, sc, da, dc, la, lc⟩ := q
  have HX := Lib.hid hX
  clear hX
  have HW0 := Lib.hid hW0
  clear hW0
  go_enter Try.func26, Try.ntmps26
  go_wp2_with (go_at_call 36; ((rw [HW0.out]); (with_reducible refine hcc.mono ?_); rintro e w1 ⟨v1, rfl, ho1, hb1⟩); (obtain ⟨-, -, k0, k1, k2, k3, -⟩ := HDD.out w1 hb1))
  have HO1 := Lib.hid ho1
  have HB1 := Lib.hid hb1
  clear ho1 hb1 hcc
  clear k0 k1 k2 k3
  have hS1 := Nat.le_trans (Nat.le_of_eq HX.out.symm) HB1.out.size
  go_loopw [3, 17] (fun v i W => ∃ k : Nat, k ≤ o.defs.length ∧ i = .int .i64 k ∧ Hid (OwnW (w.heap.size + 2) W v (hd o k)) ∧ Hid (Below (w.heap.size + 2) W0 W) ∧ w.heap.size + 2 ≤ W.heap.size) (fun _ i _ => o.defs.length - (intOf i).toNat)
  case atStart => exact ⟨0, Nat.zero_le _, rfl, HO1, HB1, hS1⟩
  case round =>
    clear HO1 HB1
    obtain ⟨k, hk, rfl, hown, hB, hS⟩ := hrel
    by_cases hlt : k < o.defs.length
    · obtain ⟨hD, -⟩ := HDD.out wr hB.out
      obtain ⟨bk, of, ea, hbk, c0, c1⟩ := hD.at_ hlt
      subst ea
      have hY := Lib.hid (hd_step hlt)
      have hN := hd_le o (k + 1)
      obtain ⟨hd1, hd2, hd3⟩ := HL.out.ds _ (List.getElem_mem hlt)
      have hsp : ∀ W, Calls Try.prog 37 #[.string (bs o.defs[k].1)] W fun e w' => e = .returned (.slice (some ⟨W.heap.size, 0, none⟩) (nw o.defs[k].1.length) (nw o.defs[k].1.length)) ∧ w'.heap[W.heap.size]? = some (row (wds o.defs[k].1)) ∧ Below W.heap.size W w' := fun W => spelt_any _ W (by rw [bs_size]; omega) (bs_data _) (by rw [bs_size])
      have hnum := fun W => number_any o.defs[k].2 W hd2 (by omega)
      have hw := wds_len o.defs[k].1
      generalize o.defs[k].1 = nm at *
      generalize o.defs[k].2 = off at *
      have hY2 := congrArg List.length hY.out
      rw [List.length_append] at hY2
      obtain ⟨y1, hy1⟩ : ∃ y1, hd o k ++ wds nm = y1 := ⟨_, rfl⟩
      rw [hy1] at hY hY2
      have hy1l := congrArg List.length hy1
      have HY1 := Lib.hid hy1
      have HW := Lib.hid hw
      obtain ⟨N1, hN1⟩ : ∃ N1, y1.length = N1 := ⟨_, rfl⟩
      obtain ⟨N2, hN2⟩ : ∃ N2, (hd o (k + 1)).length = N2 := ⟨_, rfl⟩
      have hN1b : N1 ≤ 100000 := by simp at hY2; omega
      have hN2b : N2 ≤ 100000 := by omega
      have HN1 := Lib.hid hN1
      have HN2 := Lib.hid hN2
      have HN1b := Lib.hid hN1b
      have HN2b := Lib.hid hN2b
      clear hy1 hw hN hY2 hy1l hN1 hN2 hN1b hN2b
      go_wp2_with (first
        | (go_at_call 37; refine (hsp _).mono ?_; rintro e w2 ⟨rfl, h2, b2⟩; (have q0 := b2.cell (p := ⟨wr.heap.size, 1, none⟩) (by simp)); (have s2 := b2.size); (have O2 := Lib.hid (hown.out.below (bel2 (one_new _ _) b2))); (have B2 := Lib.hid (hB.out.trans ((bel2 (one_new _ _) b2).mono hS))); (have hS2 : w.heap.size + 2 ≤ w2.heap.size := by simp at s2; omega); (have R2 : Hid (NumsIn .u64 w2 (some ⟨wr.heap.size + 1, 0, none⟩) (wds nm)) := Lib.hid (by have h3 := nums_row h2; rw [show ∀ o, (wr.alloc o).heap.size = wr.heap.size + 1 from fun o => by simp] at h3; exact h3)); clear h2)
        | (at_builtin; (refine wpList_nums rfl (.tmp 21) (.tmp 24) rfl Try.underlying22 hi hz0 hz1 hz2 rfl O2.out _ _ _ rfl _ HW.out R2.out N1 y1 HY1.out HN1.out HN1b.out hS2 ?_); intro p3 c3 w3 ho3 _ hg3; (have q1 := (grown_cell hg3 (i := wr.heap.size) (j := 1) (by simp at s2; omega) (own_lt hown.out (Nat.le_refl _))).trans q0); (have s3 := hg3.size); (have O3 := Lib.hid (ho3.below (one_new w3 (.cells #[.int .u64 off] 37)))); (have B3 := Lib.hid (grow_below B2.out hS2 O2.out hg3)); (have hS3 : w.heap.size + 2 ≤ (w3.alloc (.cells #[.int .u64 off] 37)).heap.size := by simp; omega); clear ho3)
        | (at_builtin; (refine wpList_nums rfl (.tmp 26) (.tmp 30) rfl Try.underlying22 hi hz0 hz1 hz2 rfl O3.out _ _ _ rfl [off] rfl (one_num w3 off) N2 (hd o (k + 1)) hY.out HN2.out HN2b.out hS3 ?_); intro p5 c5 w5 ho5 _ hg5)
        | (go_at_call 38; refine (hnum _).mono ?_; rintro e w4 ⟨rfl, e4⟩; subst w4))
      have hB5 := grow_below (hB := hS3) (B3.out.trans ((one_new w3 _).mono (by simp at hS3; omega))) O3.out hg5
      go_roundw
      case rel => exact ⟨k + 1, by omega, by go_num, Lib.hid ho5, Lib.hid hB5, Nat.le_trans hS3 hg5.size⟩
      case measure => simp [intOf]; omega
    · obtain rfl : k = o.defs.length := by omega
      rw [hd_all] at hown
      obtain ⟨-, -, -, -, -, k3, -⟩ := HDD.out wr hB.out
      go_wp2
      clear k3
      go_loopw [3, 36] (fun v i W => ∃ k : Nat, k ≤ o.links.length ∧ i = .int .i64 k ∧ Hid (OwnW (w.heap.size + 2) W v (tl o k)) ∧ Hid (Below (w.heap.size + 2) W0 W) ∧ w.heap.size + 2 ≤ W.heap.size) (fun _ i _ => o.links.length - (intOf i).toNat)
      case atStart => exact ⟨0, Nat.zero_le _, rfl, hown, hB, hS⟩
      case round =>
        clear hown hB hS
        obtain ⟨k, hk, rfl, hown, hB, hS⟩ := hrel
        by_cases hlt : k < o.links.length
        · obtain ⟨-, hD, -⟩ := HDD.out wr hB.out
          obtain ⟨bk, of, ea, hbk, c0, c1, c2⟩ := hD.at_ hlt
          subst ea
          have hY := Lib.hid (tl_step hlt)
          have hN := tl_le o (k + 1)
          obtain ⟨hd1, hd2, hd3, hd4⟩ := HL.out.ls _ (List.getElem_mem hlt)
          have hsp : ∀ (t : Txt) W, t.length ≤ 32 → Calls Try.prog 37 #[.string (bs t)] W fun e w' => e = .returned (.slice (some ⟨W.heap.size, 0, none⟩) (nw t.length) (nw t.length)) ∧ w'.heap[W.heap.size]? = some (row (wds t)) ∧ Below W.heap.size W w' := fun t W h => spelt_any _ W (by rw [bs_size]; omega) (bs_data _) (by rw [bs_size])
          have hsp1 := fun W => hsp o.links[k].1 W hd1
          have hsp2 := fun W => hsp o.links[k].2.1 W hd2
          have hnum := fun W => number_any o.links[k].2.2 W hd3 (by omega)
          have hw := wds_len o.links[k].1
          have hw2 := wds_len o.links[k].2.1
          clear hsp
          generalize o.links[k].1 = sg at *
          generalize o.links[k].2.1 = en at *
          generalize o.links[k].2.2 = off at *
          have hY2 := congrArg List.length hY.out
          simp only [List.length_append, hw, hw2, List.length_cons, List.length_nil] at hY2
          obtain ⟨y1, hy1⟩ : ∃ y1, tl o k ++ wds sg = y1 := ⟨_, rfl⟩
          rw [hy1] at hY
          obtain ⟨y2, hy2⟩ : ∃ y2, y1 ++ wds en = y2 := ⟨_, rfl⟩
          rw [hy2] at hY
          have hy1l := congrArg List.length hy1
          have hy2l := congrArg List.length hy2
          simp only [List.length_append, hw, hw2] at hy1l hy2l
          have HY1 := Lib.hid hy1
          have HY2 := Lib.hid hy2
          have HW := Lib.hid hw
          have HW2 := Lib.hid hw2
          obtain ⟨N1, hN1⟩ : ∃ N1, y1.length = N1 := ⟨_, rfl⟩
          obtain ⟨N2, hN2⟩ : ∃ N2, y2.length = N2 := ⟨_, rfl⟩
          obtain ⟨N3, hN3⟩ : ∃ N3, (tl o (k + 1)).length = N3 := ⟨_, rfl⟩
          have hN1b : N1 ≤ 100000 := by omega
          have hN2b : N2 ≤ 100000 := by omega
          have hN3b : N3 ≤ 100000 := by omega
          have HN1 := Lib.hid hN1
          have HN2 := Lib.hid hN2
          have HN3 := Lib.hid hN3
          have HN1b := Lib.hid hN1b
          have HN2b := Lib.hid hN2b
          have HN3b := Lib.hid hN3b
          clear hy1 hy2 hw hw2 hN hY2 hy1l hy2l hN1 hN2 hN3 hN1b hN2b hN3b
          go_wp2_with (first
            | (go_at_call 37; (with_reducible refine (hsp1 _).mono ?_); rintro e w2 ⟨rfl, h2, b2⟩; (have q0 := b2.cell (p := ⟨wr.heap.size, 1, none⟩) (by simp)); (have r0 := b2.cell (p := ⟨wr.heap.size, 2, none⟩) (by simp)); (have s2 := b2.size); (have O2 := Lib.hid (hown.out.below (bel2 (one_new _ _) b2))); (have B2 := Lib.hid (hB.out.trans ((bel2 (one_new _ _) b2).mono hS))); (have hS2 : w.heap.size + 2 ≤ w2.heap.size := by simp at s2; omega); (have R2 : Hid (NumsIn .u64 w2 (some ⟨wr.heap.size + 1, 0, none⟩) (wds sg)) := Lib.hid (by have h3 := nums_row h2; rw [show ∀ o, (wr.alloc o).heap.size = wr.heap.size + 1 from fun o => by simp] at h3; exact h3)); clear h2)
            | (at_builtin; (refine wpList_nums2 rfl (.tmp 40) (.tmp 43) rfl Try.underlying22 hi hz0 hz1 hz2 rfl O2.out _ _ _ rfl _ HW.out R2.out N1 y1 HY1.out HN1.out HN1b.out hS2 ?_); intro p3 c3 w3 ho3 _ hg3 hv3; (have s3 := hg3.size); (have hlt3 : wr.heap.size < w2.heap.size := by simp at s2; omega); (have q1 := (grown_cell hg3 (i := wr.heap.size) (j := 1) hlt3 (own_lt hown.out (Nat.le_refl _))).trans q0); (have r1 := (grown_cell hg3 (i := wr.heap.size) (j := 2) hlt3 (own_lt hown.out (Nat.le_refl _))).trans r0); (have O3 := Lib.hid ho3); (have B3 := Lib.hid (grow_below B2.out hS2 O2.out hg3)); (have hS3 : w.heap.size + 2 ≤ w3.heap.size := by omega); (have E3 := Lib.hid (show Value.ownBlock (.slice p3 N1 c3) ≠ some wr.heap.size from hv3.elim (fun h => h ▸ own_lt hown.out (Nat.le_refl _)) (fun h e => absurd (Option.some.inj (h.symm.trans e)) (by omega)))); clear hv3; clear ho3)
            | (go_at_call 37; (with_reducible refine (hsp2 _).mono ?_); rintro e w4 ⟨rfl, h4, b4⟩; (have hlt4 : wr.heap.size < w3.heap.size := by omega); (have r2 := (b4.cell (p := ⟨wr.heap.size, 2, none⟩) hlt4).trans r1); (have s4 := b4.size); (have O4 := Lib.hid (O3.out.below b4)); (have B4 := Lib.hid (B3.out.trans (b4.mono hS3))); (have hS4 : w.heap.size + 2 ≤ w4.heap.size := by omega); (have R4 := Lib.hid (nums_row h4)); clear h4)
            | (at_builtin; (refine wpList_nums rfl (.tmp 45) (.tmp 48) rfl Try.underlying22 hi hz0 hz1 hz2 rfl O4.out _ _ _ rfl _ HW2.out R4.out N2 y2 HY2.out HN2.out HN2b.out hS4 ?_); intro p5 c5 w5 ho5 _ hg5; (have s5 := hg5.size); (have r3 := (grown_cell hg5 (i := wr.heap.size) (j := 2) (by omega) E3.out).trans r2); (have O5 := Lib.hid (ho5.below (one_new w5 (.cells #[.int .u64 off] 37)))); (have B5 := Lib.hid (grow_below B4.out hS4 O4.out hg5)); (have hS5 : w.heap.size + 2 ≤ (w5.alloc (.cells #[.int .u64 off] 37)).heap.size := by simp; omega); clear ho5)
            | (go_at_call 38; refine (hnum _).mono ?_; rintro e w6 ⟨rfl, e6⟩; subst w6)
            | (at_builtin; (refine wpList_nums rfl (.tmp 50) (.tmp 54) rfl Try.underlying22 hi hz0 hz1 hz2 rfl O5.out _ _ _ rfl [off] rfl (one_num w5 off) N3 (tl o (k + 1)) hY.out HN3.out HN3b.out hS5 ?_); intro p7 c7 w7 ho7 _ hg7))
          have hB7 := grow_below (hB := hS5) (B5.out.trans ((one_new w5 _).mono (by simp at hS5; omega))) O5.out hg7
          go_roundw
          case rel => exact ⟨k + 1, by omega, by go_num, Lib.hid ho7, Lib.hid hB7, Nat.le_trans hS5 hg7.size⟩
          case measure => simp [intOf]; omega
        · obtain rfl : k = o.links.length := by omega
          obtain ⟨-, -, k0, k1, k2, k3, hBw⟩ := HDD.out wr hB.out
          have hc1 := fun W => number_any (o.text.length : Nat) W (by omega) (by omega)
          have hc2 := fun W => number_any (o.stat.length : Nat) W (by omega) (by omega)
          have hc3 := fun W => number_any (o.defs.length : Nat) W (by omega) (by omega)
          have hc4 := fun W => number_any (o.links.length : Nat) W (by omega) (by omega)
          have hY := Lib.hid (tl_all o)
          have hN : (tl o o.links.length).length ≤ 100000 := by have := tl_le o o.links.length; omega
          have hc0 : ∀ W : World, NumsIn .u64 (W.alloc (.cells #[.int .u64 o.text.length, .int .u64 o.stat.length, .int .u64 o.defs.length, .int .u64 o.links.length, .int .u64 45812815077] 37)) (some ⟨W.heap.size, 0, none⟩) (wMap o.text.length o.stat.length o.defs.length o.links.length) := fun W => nums_new W _
          have HC := Lib.hid hc0
          have HLl := Lib.hid (show (wOb o).length ≤ 100000 by omega)
          clear hc0 hlen hN
          generalize o.text.length = nt at *
          generalize o.stat.length = ns at *
          generalize o.defs.length = nd at *
          generalize o.links.length = nl at *
          go_wp2
          have H0 := Lib.hid (show wr.cell? ⟨w.heap.size, 0, none⟩ = some (.slice ta nt tc) ∧ wr.cell? ⟨w.heap.size, 1, none⟩ = some (.slice sa ns sc) ∧ wr.cell? ⟨w.heap.size, 2, none⟩ = some (.slice da nd dc) ∧ wr.cell? ⟨w.heap.size, 3, none⟩ = some (.slice la nl lc) from ⟨k0, k1, k2, k3⟩)
          have H1 := Lib.hid (box4_below (w' := wr.drew) H0.out (below_drewN wr 1 |>.mono (by omega)))
          clear k0 k1 k2 k3
          have hd1 : Below wr.heap.size wr wr.drew := below_drewN wr 1
          have hbA := bel2 hd1 (one_new wr.drew (.cells #[.int .u64 nt, .int .u64 ns, .int .u64 nd, .int .u64 nl, .int .u64 45812815077] 37))
          have hNA := HC.out wr.drew
          have hBA := (hB.out.trans (hbA.mono hS))
          have hSA : w.heap.size + 2 ≤ (wr.drew.alloc (.cells #[.int .u64 nt, .int .u64 ns, .int .u64 nd, .int .u64 nl, .int .u64 45812815077] 37)).heap.size := Nat.le_trans hS hbA.size
          have HOA := Lib.hid (hown.out.below hbA)
          have HA := Lib.hid (box4_below H0.out (hbA.mono (by omega)))
          have HNA := Lib.hid hNA
          have HBA := Lib.hid hBA
          have HSA := Lib.hid hSA
          clear hNA hBA hSA hbA hd1
          go_region_held3 (fun V => V.cell? ⟨w.heap.size, 0, none⟩ = some (.slice ta nt tc) ∧ V.cell? ⟨w.heap.size, 1, none⟩ = some (.slice sa ns sc) ∧ V.cell? ⟨w.heap.size, 2, none⟩ = some (.slice da nd dc) ∧ V.cell? ⟨w.heap.size, 3, none⟩ = some (.slice la nl lc))
            (first | exact H1.out | exact HA.out | exact H3.out)
            ((first
              | (go_at_call 38; (with_reducible refine (hc1 _).mono ?_); rintro e w4 ⟨rfl, e4⟩; subst w4)
              | (go_at_call 38; (with_reducible refine (hc2 _).mono ?_); rintro e w4 ⟨rfl, e4⟩; subst w4)
              | (go_at_call 38; (with_reducible refine (hc3 _).mono ?_); rintro e w4 ⟨rfl, e4⟩; subst w4)
              | (go_at_call 38; (with_reducible refine (hc4 _).mono ?_); rintro e w4 ⟨rfl, e4⟩; subst w4)
              | (refine step_nums rfl (.tmp 57) (.tmp 74) rfl Try.underlying22 hi hz0 hz1 hz2 rfl HOA.out _ _ _ rfl _ rfl HNA.out _ _ hY.out rfl HLl.out HSA.out ?_; intro p7 c7 w7 ho7 hg7; have H3 := Lib.hid (box4_below HA.out (below_grown hg7 (by have := HSA.out; omega) (fun g hg => by have := (HOA.out.que.lt g hg).1; omega))); have HB7 := Lib.hid (grow_below HBA.out HSA.out HOA.out hg7); have HO7 := Lib.hid ho7; clear ho7)))
          go_wp2
          go_ret
          obtain ⟨-, -, -, -, -, -, hB7⟩ := HDD.out w7 HB7.out
          exact ⟨_, rfl, own_base HO7.out (by omega), hB7⟩

end Go.Proofs.Ytnlohmkgkihldaa.W
