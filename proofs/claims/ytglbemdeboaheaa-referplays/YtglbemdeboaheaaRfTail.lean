/-
  ReferPlays, behind each deed: what Find, Of and Len answer is what the list says.
-/
import Derived.Test.YtglbemdeboaheaaRfIns
namespace Go.Proofs.Ytglbemdeboaheaa.Rf
open Go.ChangeShapes Go.WideShapes Go.ChangeAt Go.RowKit
open Go.Proofs.Ytglbemdeboaheaa.N (bs bs_data bs_size bs_inj bs_of may retB)
open Go.Proofs.Ytglbemdeboaheaa.G (El Row flat kT goodT)
set_option linter.unusedVariables false

/-- what holds while the list is gone through -/
def LI (s0 : Value) (b : Nat) (va : Option Addr) (vc : Nat) (k db : Nat) (gt : Option Int) (V : World) (m : List Dd) (d : Dd) (a : Act) (w : World) : Prop :=
  TS s0 b (.slice va m.length vc) k db gt a ∧ ∃ (kn : Nat) (o : Option Int) (qs : List Txt), kn ≤ m.length ∧ slot a 19 = .int .i64 kn ∧ slot a 16 = .int .i64 (o.getD 0) ∧ slot a 17 = .bool o.isSome ∧ qs.length ≤ kn ∧ OptOf m d.ring d.name kn o ∧ NamesOf m d.ring d.seg kn qs ∧
    (qs = [] → slot a 18 = .slice none 0 0) ∧ G.Own kT V.heap.size w (slot a 18) qs ∧ Below V.heap.size V w
def LMu (n : Nat) (a : Act) (_ : World) : Nat := n - (intOf (slot a 19)).toNat

theorem below_drewN2 (w : World) (n k : Nat) : Below w.heap.size w ((w.drewN n).drewN k) := ⟨rfl, rfl, rfl, Nat.le_refl _, fun _ _ => rfl⟩
theorem nil_parts {a : Option Addr} {n c : Nat} (h : Value.slice a n c = .slice none 0 0) : a = none ∧ c = 0 := by
  cases h
  exact ⟨rfl, rfl⟩
theorem mu_less {n kn : Nat} (a : Act) (w : World) (v : Value) (h : v = .int .i64 ((kn + 1 : Nat) : Int)) (hk : kn < n) (e : slot a 19 = v := by rfl) : LMu n a w < n - kn := by
  unfold LMu
  rw [e, h]
  simp only [intOf, Int.toNat_natCast]
  omega
theorem ins_use {V W : World} {b : Nat} {s0 wa is : Value} {k db : Nat} {gt : Option Int} {mb vc ml kn : Nat} {na : Option Addr} {nc : Nat} {qs : List Txt} {nm : Txt} {a : Act} {Q : Exit → Act → World → Prop}
    (T : TS s0 b (.slice (some ⟨mb, 0, none⟩) ml vc) k db gt a) (h16 : slot a 16 = wa) (h17 : slot a 17 = is) (h18 : slot a 18 = .slice na qs.length nc) (h19 : slot a 19 = .int .i64 kn)
    (hkn : kn < ml) (hml : ml ≤ 100000) (hmb : mb < W.heap.size) (hc : W.cell? ⟨mb, kn * 4 + 3, none⟩ = some (.string (bs nm))) (hO : G.Own kT V.heap.size W (.slice na qs.length nc) qs) (hB : Below V.heap.size V W) (hql : qs.length ≤ 100000) (hup : qs.Pairwise (fun x y => x ≤ y)) (hnil : qs = [] → na = none ∧ nc = 0)
    (hJ : ∀ a' w', InsI s0 b (.slice (some ⟨mb, 0, none⟩) ml vc) k db gt wa is (.int .i64 kn) V qs nm a' w' → Q .normal a' w') : Code.wp Try.prog insCode Q a W :=
  wp_mono (ins_any (J := fun a' w' => Q .normal a' w') (K' := fun a' w' => Q .normal a' w') (Q' := Q) T h16 h17 h18 h19 hkn hml hmb hc hO hB hql hup hnil hJ (fun _ _ h => h)) (fun e a' w' h => by cases e <;> exact h)

section
variable {X V : World} {b : Nat} {s0 : Value} {k db : Nat} {d : Dd} {F : Nat → Prop} {c : Nat} {m : List Dd} {va : Option Addr} {vc : Nat} {a : Act} {J K' : Act → World → Prop} {Q' : Exit → Act → World → Prop}

set_option maxHeartbeats 16000000 in
set_option maxRecDepth 8000 in
theorem tail_any (hf : Fr a) (h0 : slot a 0 = s0) (h3 : slot a 3 = RP b) (h4 : slot a 4 = .slice va m.length vc) (h5 : slot a 5 = .int .i64 k) (h6 : slot a 6 = .pointer (some ⟨db, 0, none⟩))
    (hP : PS X V b F c (Lm m) (.slice va m.length vc) m db d) (hk : k ≤ 1000) (hc : c ≤ k + 1) (hm : m.length ≤ k + 1) (hq : ∀ x ∈ m, x.name.length ≤ 100 ∧ x.Ok) (hd : d.Ok) (h100 : d.name.length ≤ 100)
    (hJ : ∀ a' w', TailI X b s0 k a' w' → J a' w') (hK : ∀ a' w', Met J a' w' → K' a' w') : Code.wp Try.prog tailCode (Exit.then K' Q') a V := by
  obtain ⟨g, hg, rfl⟩ := hf.opens
  have e0 := (hg 0).trans h0
  have e3 := (hg 3).trans h3
  have e4 := (hg 4).trans h4
  have e5 := (hg 5).trans h5
  have e6 := (hg 6).trans h6
  rw [e0, e3, e4, e5, e6]
  clear e0 e3 e4 e5 e6 hg h0 h3 h4 h5 h6 hf
  conv => arg 2; whnf
  obtain ⟨q0, q1, q2, q3⟩ := hP.at_
  have P1 := Lib.hid hP
  have HQ := Lib.hid hq
  have HJ := Lib.hid hJ
  have CF := Lib.hid (find_any hP.pm.tab.at_ (r := d.ring) (n := d.name) ⟨hd.2.1, hd.2.2.2⟩)
  obtain ⟨va', vc', ev, hrow, hform⟩ := hP.pm.row
  cases ev
  have HR := Lib.hid hrow
  have HF := Lib.hid hform
  obtain ⟨gt, hgt⟩ : ∃ o, get (Lm m) d.ring d.name = o := ⟨_, rfl⟩
  rw [hgt] at CF
  have HGT := Lib.hid hgt
  clear hP hq hd hJ hrow hform hgt
  go_wp2_with (go_at_call 13; (with_reducible refine CF.out.mono ?_); rintro e w2 ⟨rfl, e2⟩; subst w2)
  clear CF q0 q1 q2 q3
  refine loop_cut (LI s0 b va vc k db gt V m d) (LMu m.length) ⟨⟨⟨rfl, rfl⟩, rfl, rfl, rfl, rfl, rfl, rfl, rfl⟩, 0, none, [], Nat.zero_le _, rfl, rfl, rfl, Nat.zero_le _, OptOf.start _ _ _, NamesOf.start _ _ _, fun _ => rfl, G.Own.nil _ _, Below.refl _ _⟩ ?_
  intro a wr hI J2 K2 hJ2 hK2
  obtain ⟨T, kn, o, qs, hkn, h19, h16, h17, hql, hopt, hnam, hnil, hown, hbel⟩ := hI
  have hmu : LMu m.length a wr = m.length - kn := by unfold LMu; rw [h19]; simp [intOf]
  rw [hmu] at hJ2
  obtain ⟨na, nc, h18, hnrow, hnform⟩ := hown.row goodT
  rw [h18] at hnil hown
  have T' := T
  obtain ⟨hf, h0, h3, h4, h5, h6, h14, h15⟩ := T'
  obtain ⟨g, hg, rfl⟩ := hf.opens
  have e0 := (hg 0).trans h0
  have e3 := (hg 3).trans h3
  have e4 := (hg 4).trans h4
  have e5 := (hg 5).trans h5
  have e6 := (hg 6).trans h6
  have e14 := (hg 14).trans h14
  have e15 := (hg 15).trans h15
  have e16 := (hg 16).trans h16
  have e17 := (hg 17).trans h17
  have e18 := (hg 18).trans h18
  have e19 := (hg 19).trans h19
  rw [e0, e3, e4, e5, e6, e14, e15, e16, e17, e18, e19]
  clear e0 e3 e4 e5 e6 e14 e15 e16 e17 e18 e19 hg h0 h3 h4 h5 h6 h14 h15 h16 h17 h18 h19 hf T hmu
  have HO := Lib.hid hown
  have HB := Lib.hid hbel
  have HOP := Lib.hid hopt
  have HNM := Lib.hid hnam
  have HNI := Lib.hid hnil
  have HJ2 := Lib.hid hJ2
  clear hown hbel hopt hnam hnil hJ2 hnrow hnform
  by_cases hlt : kn < m.length
  case neg =>
    obtain rfl : kn = m.length := by omega
    obtain rfl : gt = o := HGT.out.symm.trans (HOP.out.get P1.out.pm.tab.at_.good)
    have P2 := Lib.hid (P1.out.bel HB.out)
    obtain ⟨q0, q1, q2, q3⟩ := P2.out.at_
    have hcc := P1.out.pm.tab.at_.le
    have CO := Lib.hid (y_of P2.out.pm.tab d.ring d.seg (by omega) HNM.out.all rfl)
    go_wp2_with (first
      | (go_at_call 14; (with_reducible refine CO.out.mono ?_); rintro e w2 ⟨ga, gc, rfl, l, y, gg⟩; have HL := Lib.hid l; have P3 := Lib.hid (P2.out.bel gg); have HO3 := Lib.hid (HO.out.below gg); have CL := Lib.hid (len_any y.at_ (k := m.length) (by rw [Lm_len])); clear l y gg)
      | (go_at_call 15; (with_reducible refine CL.out.mono ?_); rintro e w3 ⟨rfl, e3⟩; subst w3))
    clear CO CL q0 q1 q2 q3
    obtain ⟨na', nc', ev, hnr, hnf⟩ := HO3.out.row goodT
    cases ev
    have HNR := Lib.hid hnr
    have HNF := Lib.hid hnf
    clear hnr hnf
    go_loopw [22] (fun iv W => ∃ i n : Nat, i ≤ qs.length ∧ iv = .int .i64 i ∧ W = w2.drewN n) (fun iv _ => qs.length - (intOf iv).toNat)
    case atStart => exact ⟨0, 0, Nat.zero_le _, rfl, rfl⟩
    case round =>
      obtain ⟨i, n, hi, rfl, rfl⟩ := hrel
      by_cases hil : i < qs.length
      · obtain ⟨gb, rfl, hgb, c1⟩ := HL.out.at_ hil
        have hqne : qs ≠ [] := fun e => by subst e; simp at hil
        obtain ⟨nb, rfl⟩ := HNF.out hqne
        have c2 := row_txt HNR.out hil
        have te := txt_eq qs[i] qs[i]
        rw [decide_eq_true rfl] at te
        clear hqne hgb
        go_wp2
        go_quiet (fail)
        go_wp2
        go_roundw
        case rel => exact ⟨i + 1, n + nq, by omega, by go_num, by first | rfl | rw [World.drewN_drewN]⟩
        case measure => simp [intOf]; omega
      · obtain rfl : i = qs.length := by omega
        go_wp2
        exact Met.intro (HJ.out _ _ ⟨⟨rfl, rfl⟩, rfl, rfl, rfl, F, c, m, hc, hm, HQ.out, P3.out.pm.bel (below_drewN _ _)⟩)
  have hmne : m ≠ [] := fun e => by subst e; simp at hlt
  obtain ⟨mb, rfl⟩ := HF.out hmne
  obtain ⟨hmb0, hr0⟩ := row_deed0 HR.out hlt
  have hmb : mb < wr.heap.size := Nat.lt_of_lt_of_le hmb0 HB.out.size
  obtain ⟨r0, r1, r2, r3⟩ := hr0.below hmb0 HB.out
  obtain ⟨q0, q1, q2, q3⟩ := (P1.out.bel HB.out).at_
  have hmax := Lib.hid (HQ.out m[kn] (List.getElem_mem hlt)).1
  clear hmne hmb0 hr0
  by_cases hring : m[kn].ring = d.ring
  case neg =>
    have t1 : (m[kn].ring == d.ring) = false := by simpa using hring
    have HOP2 := Lib.hid (HOP.out.no hlt (fun h => hring h.1))
    have HNM2 := Lib.hid (HNM.out.no hlt (fun h => hring h.1))
    clear hring
    go_wp2
    go_quiet (fail)
    go_wp2
    go_quiet (fail)
    go_wp2
    exact Met.intro (HJ2.out _ _ ⟨⟨⟨rfl, rfl⟩, rfl, rfl, rfl, rfl, rfl, rfl, rfl⟩, kn + 1, o, qs, by omega, by go_num, rfl, rfl, by omega, HOP2.out, HNM2.out, HNI.out, HO.out.below (below_drewN _ _), HB.out.trans ((below_drewN _ _).mono HB.out.size)⟩ (mu_less _ _ _ (by go_num) hlt))
  have t1 : (m[kn].ring == d.ring) = true := by simpa using hring
  obtain ⟨o2, ho2, hw⟩ : ∃ o2, OptOf m d.ring d.name (kn + 1) o2 ∧ ((decide (m[kn].name = d.name) = true ∧ o2 = some m[kn].seg) ∨ (decide (m[kn].name = d.name) = false ∧ o2 = o)) := by
    by_cases h : m[kn].name = d.name
    · exact ⟨_, OptOf.yes hlt ⟨hring, h⟩, Or.inl ⟨decide_eq_true h, rfl⟩⟩
    · exact ⟨_, HOP.out.no hlt (fun h' => h h'.2), Or.inr ⟨decide_eq_false h, rfl⟩⟩
  have HOP2 := Lib.hid ho2
  have HRG := Lib.hid hring
  clear ho2 hring
  have te := txt_eq m[kn].name d.name
  rcases hw with ⟨hn, rfl⟩ | ⟨hn, rfl⟩
  · rw [hn] at te
    clear hn
    by_cases hseg : m[kn].seg = d.seg
    case neg =>
      have t2 : (m[kn].seg == d.seg) = false := by simpa using hseg
      have HNM2 := Lib.hid (HNM.out.no hlt (fun h => hseg h.2))
      clear hseg
      go_wp2
      go_quiet (fail)
      go_wp2
      go_quiet (fail)
      go_wp2
      exact Met.intro (HJ2.out _ _ ⟨⟨⟨rfl, rfl⟩, rfl, rfl, rfl, rfl, rfl, rfl, rfl⟩, kn + 1, _, qs, by omega, by go_num, rfl, rfl, by omega, HOP2.out, HNM2.out, HNI.out, HO.out.below (below_drewN _ _), HB.out.trans ((below_drewN _ _).mono HB.out.size)⟩ (mu_less _ _ _ (by go_num) hlt))
    have t2 : (m[kn].seg == d.seg) = true := by simpa using hseg
    have HSG := Lib.hid hseg
    clear hseg
    go_wp2
    go_quiet (fail)
    go_wp2
    go_quiet (fail)
    go_upto_if 270 with (fail)
    refine wp_cond_true (by simp [Act.eval]) ?_
    refine ins_use (V := V) (kn := kn) (nm := m[kn].name) (qs := qs) ⟨⟨rfl, rfl⟩, rfl, rfl, rfl, rfl, rfl, rfl, rfl⟩ rfl rfl rfl rfl hlt (by omega) hmb r3 (HO.out.below (below_drewN2 _ _ _)) (HB.out.trans ((below_drewN2 _ _ _).mono HB.out.size)) (by omega) HNM.out.up (fun h => nil_parts (HNI.out h)) ?_
    intro a' W' hI
    obtain ⟨T2, h16, h17, h19, j, hj, hlo, hhi, hown2, hbel2⟩ := hI
    have HNM2 := Lib.hid (HNM.out.yes hlt ⟨HRG.out, HSG.out⟩ hj hlo hhi)
    obtain ⟨na', nc', h18, _, _⟩ := hown2.row goodT
    rw [h18] at hown2
    have HO2 := Lib.hid hown2
    have HB2 := Lib.hid hbel2
    have hlen : (qs.take j ++ [m[kn].name] ++ qs.drop j).length ≤ kn + 1 := by rw [List.length_append, List.length_append, List.length_take, List.length_drop]; simp; omega
    have hnn : qs.take j ++ [m[kn].name] ++ qs.drop j = [] → Value.slice na' (qs.take j ++ [m[kn].name] ++ qs.drop j).length nc' = .slice none 0 0 := fun h => by simp at h
    have HNN := Lib.hid hnn
    clear hlo hhi hown2 hbel2 hnn
    generalize qs.take j ++ [m[kn].name] ++ qs.drop j = qs2 at HNM2 HO2 hlen HNN h18
    obtain ⟨hf, h0, h3, h4, h5, h6, h14, h15⟩ := T2
    obtain ⟨g2, hg, rfl⟩ := hf.opens
    have e0 := (hg 0).trans h0
    have e3 := (hg 3).trans h3
    have e4 := (hg 4).trans h4
    have e5 := (hg 5).trans h5
    have e6 := (hg 6).trans h6
    have e14 := (hg 14).trans h14
    have e15 := (hg 15).trans h15
    have e16 := (hg 16).trans h16
    have e17 := (hg 17).trans h17
    have e18 := (hg 18).trans h18
    have e19 := (hg 19).trans h19
    rw [e0, e3, e4, e5, e6, e14, e15, e16, e17, e18, e19]
    clear e0 e3 e4 e5 e6 e14 e15 e16 e17 e18 e19 hg h0 h3 h4 h5 h6 h14 h15 h16 h17 h18 h19 hf
    dsimp only [Exit.inBlock, Exit.then]
    go_wp2
    exact Met.intro (HJ2.out _ _ ⟨⟨⟨rfl, rfl⟩, rfl, rfl, rfl, rfl, rfl, rfl, rfl⟩, kn + 1, _, qs2, by omega, by go_num, rfl, rfl, hlen, HOP2.out, HNM2.out, HNN.out, HO2.out, HB2.out⟩ (mu_less _ _ _ (by go_num) hlt))
  · rw [hn] at te
    clear hn
    by_cases hseg : m[kn].seg = d.seg
    case neg =>
      have t2 : (m[kn].seg == d.seg) = false := by simpa using hseg
      have HNM2 := Lib.hid (HNM.out.no hlt (fun h => hseg h.2))
      clear hseg
      go_wp2
      go_quiet (fail)
      go_wp2
      go_quiet (fail)
      go_wp2
      exact Met.intro (HJ2.out _ _ ⟨⟨⟨rfl, rfl⟩, rfl, rfl, rfl, rfl, rfl, rfl, rfl⟩, kn + 1, _, qs, by omega, by go_num, rfl, rfl, by omega, HOP2.out, HNM2.out, HNI.out, HO.out.below (below_drewN _ _), HB.out.trans ((below_drewN _ _).mono HB.out.size)⟩ (mu_less _ _ _ (by go_num) hlt))
    have t2 : (m[kn].seg == d.seg) = true := by simpa using hseg
    have HSG := Lib.hid hseg
    clear hseg
    go_wp2
    go_quiet (fail)
    go_wp2
    go_quiet (fail)
    go_upto_if 270 with (fail)
    refine wp_cond_true (by simp [Act.eval]) ?_
    refine ins_use (V := V) (kn := kn) (nm := m[kn].name) (qs := qs) ⟨⟨rfl, rfl⟩, rfl, rfl, rfl, rfl, rfl, rfl, rfl⟩ rfl rfl rfl rfl hlt (by omega) hmb r3 (HO.out.below (below_drewN2 _ _ _)) (HB.out.trans ((below_drewN2 _ _ _).mono HB.out.size)) (by omega) HNM.out.up (fun h => nil_parts (HNI.out h)) ?_
    intro a' W' hI
    obtain ⟨T2, h16, h17, h19, j, hj, hlo, hhi, hown2, hbel2⟩ := hI
    have HNM2 := Lib.hid (HNM.out.yes hlt ⟨HRG.out, HSG.out⟩ hj hlo hhi)
    obtain ⟨na', nc', h18, _, _⟩ := hown2.row goodT
    rw [h18] at hown2
    have HO2 := Lib.hid hown2
    have HB2 := Lib.hid hbel2
    have hlen : (qs.take j ++ [m[kn].name] ++ qs.drop j).length ≤ kn + 1 := by rw [List.length_append, List.length_append, List.length_take, List.length_drop]; simp; omega
    have hnn : qs.take j ++ [m[kn].name] ++ qs.drop j = [] → Value.slice na' (qs.take j ++ [m[kn].name] ++ qs.drop j).length nc' = .slice none 0 0 := fun h => by simp at h
    have HNN := Lib.hid hnn
    clear hlo hhi hown2 hbel2 hnn
    generalize qs.take j ++ [m[kn].name] ++ qs.drop j = qs2 at HNM2 HO2 hlen HNN h18
    obtain ⟨hf, h0, h3, h4, h5, h6, h14, h15⟩ := T2
    obtain ⟨g2, hg, rfl⟩ := hf.opens
    have e0 := (hg 0).trans h0
    have e3 := (hg 3).trans h3
    have e4 := (hg 4).trans h4
    have e5 := (hg 5).trans h5
    have e6 := (hg 6).trans h6
    have e14 := (hg 14).trans h14
    have e15 := (hg 15).trans h15
    have e16 := (hg 16).trans h16
    have e17 := (hg 17).trans h17
    have e18 := (hg 18).trans h18
    have e19 := (hg 19).trans h19
    rw [e0, e3, e4, e5, e6, e14, e15, e16, e17, e18, e19]
    clear e0 e3 e4 e5 e6 e14 e15 e16 e17 e18 e19 hg h0 h3 h4 h5 h6 h14 h15 h16 h17 h18 h19 hf
    dsimp only [Exit.inBlock, Exit.then]
    go_wp2
    exact Met.intro (HJ2.out _ _ ⟨⟨⟨rfl, rfl⟩, rfl, rfl, rfl, rfl, rfl, rfl, rfl⟩, kn + 1, _, qs2, by omega, by go_num, rfl, rfl, hlen, HOP2.out, HNM2.out, HNN.out, HO2.out, HB2.out⟩ (mu_less _ _ _ (by go_num) hlt))

theorem tail_use (hf : Fr a) (h0 : slot a 0 = s0) (h3 : slot a 3 = RP b) (h4 : slot a 4 = .slice va m.length vc) (h5 : slot a 5 = .int .i64 k) (h6 : slot a 6 = .pointer (some ⟨db, 0, none⟩))
    (hP : PS X V b F c (Lm m) (.slice va m.length vc) m db d) (hk : k ≤ 1000) (hc : c ≤ k + 1) (hm : m.length ≤ k + 1) (hq : ∀ x ∈ m, x.name.length ≤ 100 ∧ x.Ok) (hd : d.Ok) (h100 : d.name.length ≤ 100)
    (hJ : ∀ a' w', TailI X b s0 k a' w' → Q' .normal a' w') : Code.wp Try.prog tailCode Q' a V :=
  wp_mono (tail_any (J := fun a' w' => Q' .normal a' w') (K' := fun a' w' => Q' .normal a' w') (Q' := Q') hf h0 h3 h4 h5 h6 hP hk hc hm hq hd h100 hJ (fun _ _ h => h)) (fun e a' w' h => by cases e <;> exact h)

end

end Go.Proofs.Ytglbemdeboaheaa.Rf
