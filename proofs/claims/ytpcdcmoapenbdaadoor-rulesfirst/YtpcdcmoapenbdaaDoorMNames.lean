/-
  The document's own Names and Len: how many names a directory has.
-/
import Derived.Test.YtpcdcmoapenbdaaDoorMTurn
import Derived.Deep.RegionHeld3
import Derived.IntWalk
namespace Go.Proofs.YtpcdcmoapenbdaaDoor.T
open Go.ChangeShapes Go.WideShapes Go.ChangeAt Go.RowKit
open Go.Proofs.YtpcdcmoapenbdaaDoor.N (bs bs_data bs_size bs_inj bs_of Glob PRow)
open Go.Proofs.YtpcdcmoapenbdaaDoor.A (Tm TRow)

/-- texts appended to a slice of one's own, at a step of a region that draws its order -/
theorem step_texts {P : Program} (hP : P = Tryd.prog) {base : Nat} {w : World} {v : Value} {l : List Txt} {ops : Array Oper} {o : Oper} {a : Act} {K : Act → World → Prop} {Q : Exit → Act → World → Prop} {EE : Prop} (hgd : o.guard = none) (s y : Operand)
    (ho : o.op = .call { callee := .builtin .append, args := #[s, y], argTypes := #[24, 24] })
    (hs : a.eval s = v) (hown : N.Own base w v l) (ao : Option Addr) (c n : Nat) (ms : List Txt) (hn : ms.length = n) (hy : a.eval y = .slice ao n c) (hrow : PRow w ao c ms) (hlen : l.length + ms.length ≤ 1000000) (hbase : base ≤ w.heap.size)
    (h : ∀ a' n' c' w', n' = l.length + n → N.Own base w' (.slice a' n' c') (l ++ ms) → w.grownBy w' v.ownBlock → K (a.put o.dst (.slice a' n' c')) w') : if Region.wanted o (yielded ops a.tmps) = true then Oper.wp P o a w K Q else EE := by
  subst hP
  subst hn
  have hw : Region.wanted o (yielded ops a.tmps) = true := by simp [Region.wanted, hgd]
  rw [if_pos hw]
  have h' : ∀ v' w', N.Own base w' v' (l ++ ms) → w.grownBy w' v.ownBlock → K (a.put o.dst v') w' := fun v' w' h1 h2 => by
    obtain ⟨a', c', e, _⟩ := N.Own.row h1
    subst e
    exact h a' _ c' w' (by simp) h1 h2
  obtain ⟨i0, hi, hz0, hz1, hz2⟩ := info_parts N.info_text
  cases ao with
  | none =>
    have hc : c = 0 := hrow.2 rfl
    have hm : ms = [] := List.length_eq_zero_iff.1 (by have := hrow.1.1; omega)
    subst hc hm
    have hrun := run_append_owned_none (P := Tryd.prog) (w := w) base 24 o.type 9 i0 1 Tryd.underlying24 hi v _ _ hown
    unfold Oper.wp
    have hy' : a.eval y = .slice none 0 0 := by simpa using hy
    simp [execOp, ho, resolve, invoke, builtin, hs, hy', hrun, Result.andThen]
    exact h' v w (by simpa using hown) (World.grownBy.refl _ _)
  | some ad =>
    refine wp_append_own w s y 24 ho base 9 i0 _ 1 16 Tryd.underlying24 hi hz0 hz1 hz2 rfl (by decide) v _ _ hs hown ad ms.length c (N.vals ms) hy (by simp [N.vals]) ?_ (by simp [N.vals, Value.oneCell']) (by unfold maxLen; omega) (by omega) hbase ?_
    · intro j u hj
      rw [N.vals, List.getElem?_map] at hj
      obtain ⟨p, hp, rfl⟩ := Option.map_eq_some_iff.1 hj
      obtain ⟨bk, o', e, _, hc⟩ := hrow.1.2 (Nat.lt_of_le_of_lt (Nat.zero_le _) (List.getElem?_eq_some_iff.1 hp).1)
      cases e
      rw [Addr.add_lit]
      exact hc j p hp
    · intro v' w' h1 h2 _
      refine h' v' w' ?_ h2
      unfold N.Own
      rw [List.length_append, N.vals, List.map_append]
      exact h1

/-- a part of a row -/
theorem prow_take {w : World} {a : Option Addr} {c : Nat} {qs : List Txt} (h : PRow w a c qs) (k : Nat) : PRow w a c (qs.take k) := by
  refine ⟨⟨by have := h.1.1; rw [List.length_take]; omega, fun h0 => ?_⟩, h.2⟩
  have hq : 0 < qs.length := by rw [List.length_take] at h0; omega
  obtain ⟨bk, o, e, hl, hc⟩ := h.1.2 hq
  refine ⟨bk, o, e, hl, fun j p hp => hc j p ?_⟩
  have hj := (List.getElem?_eq_some_iff.1 hp).1
  rw [List.getElem?_take_of_lt (by rw [List.length_take] at hj; omega)] at hp
  exact hp
theorem prow_drop {w : World} {g o c : Nat} {qs : List Txt} (h : PRow w (some ⟨g, o, none⟩) c qs) (k : Nat) (hk : k ≤ qs.length) : PRow w (some ⟨g, o + k, none⟩) (c - k) (qs.drop k) ∧ (qs.length = k → PRow w (some ⟨g, o, none⟩) (c - k) (qs.drop k)) := by
  refine ⟨⟨⟨by rw [List.length_drop]; have := h.1.1; omega, fun h0 => ?_⟩, fun e => by cases e⟩, fun e => ?_⟩
  · rw [List.length_drop] at h0
    obtain ⟨bk, o', e, hl, hc⟩ := h.1.2 (by omega)
    cases e
    refine ⟨g, o + k, rfl, hl, fun j p hp => ?_⟩
    rw [List.getElem?_drop] at hp
    rw [Nat.add_assoc]
    exact hc (k + j) p hp
  · rw [List.drop_of_length_le (by omega)]
    exact PRow.nil _ _ _
theorem own_bel {B : Nat} {w0 w w' : World} {v : Value} {l : List Txt} (h : N.Own B w v l) (hb : Below w0.heap.size w0 w) (hB : w0.heap.size ≤ B) (hg : w.grownBy w' v.ownBlock) : Below w0.heap.size w0 w' :=
  hb.grown hg hb.size (fun k hk => Nat.le_trans hB (World.ownsRow.lt h k hk).1)

theorem ss2 {w : World} {b : Nat} {F : Nat → Prop} {bl : List (Br × Value)} {E : List En} {D : List Bool} {vB vD : Value} {g n cap k : Nat} (h : ML w b F bl E D vB (.slice (some ⟨g, 0, none⟩) n cap) vD) (hk : k < E.length) : w.cell? ⟨b, 1, none⟩ = some (.slice (some ⟨g, 0, none⟩) n cap) ∧ w.cell? ⟨g, k * 3 + 2, none⟩ = some (.string (bs E[k].2.2)) := by
  obtain ⟨g', e, _, _, _, h2⟩ := h.eAt hk
  cases e
  exact ⟨h.c1, h2⟩
theorem row_of' {B : Nat} {e : TypeId} {sz : Nat} {w w' : World} {v : Value} {n : Nat} {xs : List Value} (h : w.ownsRow B e sz v n xs) (hb : Below w.heap.size w w') : w'.ownsRow B e sz v n xs := by
  refine ⟨h.1, ?_⟩
  rcases h.2 with h2 | ⟨g, cap, cur, rfl, h3, hg, r⟩
  · exact Or.inl h2
  · exact Or.inr ⟨g, cap, cur, rfl, h3, (hb.block g (Array.getElem?_eq_some_iff.1 hg).1).trans hg, r⟩
theorem own_below {B : Nat} {w w' : World} {v : Value} {l : List Txt} (h : N.Own B w v l) (hb : Below w.heap.size w w') : N.Own B w' v l := row_of' h hb
theorem own_alloc {B : Nat} {w : World} {v : Value} {l : List Txt} (h : N.Own B w v l) (o : Obj) : N.Own B (w.alloc o) v l := World.ownsRow.alloc h o

section
variable {w : World} {b : Nat} {F : Nat → Prop} {m : Ms}

set_option maxHeartbeats 8000000 in
set_option maxRecDepth 8000 in
theorem mnamesD_any (h : MAt w b F m) (d : Int) :
    Calls Tryd.prog 69 #[TP b, .int .i64 d] w fun e w' => ∃ a c, e = .returned (.slice a (cntD m.E d) c) ∧ Below w.heap.size w w' := by
  obtain ⟨bl, vB, vL, vD, h, _⟩ := h
  have H := Lib.hid h
  obtain ⟨aE, capE, rfl, hcE, hnE, hgE⟩ := h.eForm
  have c1 := h.c1
  have hlen := h.len.2.1
  have hlt := h.lt
  clear h
  go_enter Tryd.func69, Tryd.ntmps69
  go_wp2
  go_loopw [5, 6] (fun v i W => ∃ (k c : Nat) (qs : List Txt), k ≤ m.E.length ∧ i = .int .i64 k ∧ c ≤ k ∧ qs.length = c ∧ Hid (((m.E.take k).filter fun e => decide (e.1 = d)).length = c) ∧ N.Own w.heap.size W v qs ∧ Below w.heap.size w W) (fun _ i _ => m.E.length - (intOf i).toNat)
  case atStart => exact ⟨0, 0, [], Nat.zero_le _, rfl, Nat.le_refl _, rfl, Lib.hid rfl, N.Own.nil _ _, Below.refl _ _⟩
  case round =>
    obtain ⟨k, c, qs, hk, rfl, hck, hqc, HC, hown, hb⟩ := hrel
    subst hqc
    have M := Lib.hid (H.out.below hb)
    have c1' := M.out.c1
    have hlt' := M.out.lt
    have HO := Lib.hid hown
    have HBL := Lib.hid hb
    obtain ⟨a5, cp5, rfl, hp⟩ := PRow.of hown
    have HP := Lib.hid hp
    clear hown hb hp
    by_cases hkl : k < m.E.length
    · obtain ⟨g, rfl, hgl, e0, e1, e2⟩ := M.out.eAt hkl
      have HT := Lib.hid (cnt_take (p := fun e => decide (e.1 = d)) hkl)
      by_cases hd : m.E[k].1 = d
      case neg =>
        have t1 : (m.E[k].1 == d) = false := by simpa using hd
        have t1' : (m.E[k].1 != d) = true := by simpa using hd
        have HC' : Hid (((m.E.take (k + 1)).filter fun e => decide (e.1 = d)).length = qs.length) := Lib.hid (by rw [HT.out, HC.out]; simp [hd])
        clear hd
        go_wp2
        go_roundw
        case rel => exact ⟨k + 1, qs.length, qs, by omega, by go_num, by omega, rfl, HC', HO.out, HBL.out⟩
        case measure => simp [intOf]; omega
      have t1 : (m.E[k].1 == d) = true := by simpa using hd
      have t1' : (m.E[k].1 != d) = false := by simpa using hd
      have HC' : Hid (((m.E.take (k + 1)).filter fun e => decide (e.1 = d)).length = qs.length + 1) := Lib.hid (by rw [HT.out, HC.out]; simp [hd])
      clear hd
      go_wp2
      go_loopw [7] (fun t W => ∃ (j n : Nat), j ≤ qs.length ∧ t = .int .i64 j ∧ W = wr.drewN n) (fun t _ => (intOf t).toNat)
      case atStart => exact ⟨qs.length, 0, Nat.le_refl _, rfl, rfl⟩
      case round =>
        obtain ⟨j, n, hjc, rfl, rfl⟩ := hrel
        by_cases hj0 : j = 0
        · subst hj0
          rw [show ((0 : Nat) : Int) = 0 from rfl]
          go_wp2
          go_quiet (fail)
          go_wp2
          have HV := Lib.hid (bel2 (bel_drewN wr n) (bel_drewN (wr.drewN n) nq))
          have hVV : (wr.drewN n).drewN nq = wr.drewN (n + nq) := by first | rfl | rw [World.drewN_drewN]
          try rw [← hVV]
          clear hVV
          generalize (wr.drewN n).drewN nq = V at HV ⊢
          have MV : Hid (ML V.drew b F bl m.E m.D vB (.slice (some ⟨g, 0, none⟩) m.E.length capE) vD) := Lib.hid ((M.out.below HV.out).below (Below.refl _ _).drew)
          have BV : Hid (Below w.heap.size w V.drew) := Lib.hid (bel2 HBL.out HV.out.drew)
          have HVS : Hid (w.heap.size ≤ V.heap.size) := Lib.hid BV.out.size
          have OV : Hid (N.Own w.heap.size V.drew (.slice a5 qs.length cp5) qs) := Lib.hid (own_below HO.out HV.out.drew)
          generalize hnm : m.E[k].2.2 = nm at e2
          have HNM := Lib.hid hnm
          clear hnm M HO HP HBL HV c1' e0 e1 e2 hlt'
          rcases OV.out.2 with ⟨e9, e8⟩ | ⟨g5, cp, cur, e9, _⟩
          · have hq0 : qs = [] := List.eq_nil_of_length_eq_zero e8
            subst hq0
            cases e9
            have PV : Hid (PRow V.drew none 0 []) := Lib.hid ⟨N.Row.nil _ _ _, fun _ => rfl⟩
            have R2 : Hid (PRow V.drew none (0 - 0) (([] : List Txt).drop 0)) := Lib.hid PV.out
            have R1 : Hid (PRow V.drew none 0 (([] : List Txt).take 0)) := Lib.hid (prow_take PV.out 0)
            have R1a : Hid (PRow (World.drew (World.alloc V (.cells #[.string (bs nm)] 9))) none 0 (([] : List Txt).take 0)) := Lib.hid (R1.out.below (show Below V.drew.heap.size V.drew (World.drew (World.alloc V (.cells #[.string (bs nm)] 9))) from one_new V.drew _))
            have X2 : Hid (PRow (World.drew (World.alloc V (.cells #[.string (bs nm)] 9))) (some ⟨V.heap.size, 0, none⟩) 1 [nm]) := Lib.hid (prow_one V.drew nm)
            have hlt1 : (([] : List Txt).take 0).length = 0 := by rw [List.length_take]; omega
            have HL1 := Lib.hid hlt1
            have hld : (([] : List Txt).drop 0).length = 0 - 0 := by rw [List.length_drop] <;> omega
            have HLD := Lib.hid hld
            have s1 : Hid ((([] : List Txt).take 0).length ≤ 1000) := Lib.hid (by omega)
            have s2 : Hid ((([] : List Txt).drop 0).length ≤ 1000) := Lib.hid (by omega)
            have k7 := Lib.hid (ss2 MV.out hkl)
            have k7a := Lib.hid (ss2 (MV.out.below (show Below V.drew.heap.size V.drew (World.drew (World.alloc V (.cells #[.string (bs nm)] 9))) from one_new V.drew _)) hkl)
            rw [HNM.out] at k7 k7a
            clear hlt1 hld
            go_region_held3 (fun W => W.cell? ⟨b, 1, none⟩ = some (.slice (some ⟨g, 0, none⟩) m.E.length capE) ∧ W.cell? ⟨g, k * 3 + 2, none⟩ = some (.string (bs nm)))
              (first | (with_reducible exact k7.out) | (with_reducible exact k7a.out) | (with_reducible exact k8.out) | (with_reducible exact k8a.out) | (with_reducible exact k9.out) | (with_reducible exact k10.out) | fail)
              (first
                | ((refine step_texts (P := Tryd.prog) rfl (base := V.heap.size) (w := V.drew) (v := .slice none 0 0) (l := []) rfl (.const (.slice none 0 0)) (.tmp 51) rfl rfl (N.Own.nil _ _) none 0 (0) (([] : List Txt).take 0) HL1.out (by simp [Act.eval]) R1.out (by have := s1.out; simp only [List.length_nil]; omega) (Nat.le_refl _) ?_; intro a6 n6 c6 w6 hn6 o6 g6; clear hn6; have B6 := Lib.hid (own_bel (N.Own.nil V.heap.size V.drew) (Below.refl _ _) (Nat.le_refl _) g6); have O6 := Lib.hid o6; have k8 := Lib.hid (ss2 (MV.out.below B6.out) hkl); have k8a := Lib.hid (ss2 (MV.out.below (bel2 B6.out (one_new w6 (.cells #[.string (bs nm)] 9)))) hkl); rw [HNM.out] at k8 k8a; clear o6 g6))
                | ((refine step_texts (P := Tryd.prog) rfl (base := V.heap.size) (w := (World.drew (World.alloc V (.cells #[.string (bs nm)] 9)))) (v := .slice none 0 0) (l := []) rfl (.const (.slice none 0 0)) (.tmp 51) rfl rfl (N.Own.nil _ _) none 0 (0) (([] : List Txt).take 0) HL1.out (by simp [Act.eval]) R1a.out (by have := s1.out; simp only [List.length_nil]; omega) (by simp) ?_; intro a6 n6 c6 w6 hn6 o6 g6; clear hn6; have B6 := Lib.hid (own_bel (N.Own.nil V.heap.size (World.drew (World.alloc V (.cells #[.string (bs nm)] 9)))) (show Below V.drew.heap.size V.drew (World.drew (World.alloc V (.cells #[.string (bs nm)] 9))) from one_new V.drew _) (Nat.le_refl _) g6); have X6 := Lib.hid (X2.out.below (own_bel (N.Own.nil (World.drew (World.alloc V (.cells #[.string (bs nm)] 9))).heap.size (World.drew (World.alloc V (.cells #[.string (bs nm)] 9)))) (Below.refl _ _) (Nat.le_refl _) g6)); have O6 := Lib.hid o6; have k8 := Lib.hid (ss2 (MV.out.below B6.out) hkl); have k8a := Lib.hid (ss2 (MV.out.below (bel2 B6.out (one_new w6 (.cells #[.string (bs nm)] 9)))) hkl); rw [HNM.out] at k8 k8a; clear o6 g6))
                | ((refine step_texts (P := Tryd.prog) rfl (base := V.heap.size) (w := w6.alloc (.cells #[.string (bs nm)] 9)) (v := .slice a6 n6 c6) (l := [] ++ ([] : List Txt).take 0) rfl (.tmp 52) (.tmp 61) rfl (by simp [Act.eval]) (own_alloc O6.out _) (some ⟨w6.heap.size, 0, none⟩) 1 1 [nm] rfl (by simp [Act.eval]) (prow_one w6 nm) (by have := s1.out; simp only [List.nil_append, List.length_cons, List.length_nil]; omega) (Nat.le_trans B6.out.size (by simp)) ?_; intro a7 n7 c7 w7 hn7 o7 g7; clear hn7; have B7 := Lib.hid (own_bel (own_alloc O6.out (.cells #[.string (bs nm)] 9)) (bel2 B6.out (one_new _ _)) (Nat.le_refl _) g7); have O7 := Lib.hid o7; have k9 := Lib.hid (ss2 (MV.out.below B7.out) hkl); rw [HNM.out] at k9; clear o7 g7))
                | ((refine step_texts (P := Tryd.prog) rfl (base := V.heap.size) (w := w6) (v := .slice a6 n6 c6) (l := [] ++ ([] : List Txt).take 0) rfl (.tmp 52) (.tmp 61) rfl (by simp [Act.eval]) O6.out (some ⟨V.heap.size, 0, none⟩) 1 1 [nm] rfl (by simp [Act.eval]) X6.out (by have := s1.out; simp only [List.nil_append, List.length_cons, List.length_nil]; omega) B6.out.size ?_; intro a7 n7 c7 w7 hn7 o7 g7; clear hn7; have B7 := Lib.hid (own_bel O6.out B6.out (Nat.le_refl _) g7); have O7 := Lib.hid o7; have k9 := Lib.hid (ss2 (MV.out.below B7.out) hkl); rw [HNM.out] at k9; clear o7 g7))
                | ((refine step_texts (P := Tryd.prog) rfl (base := V.heap.size) (w := w7) (v := .slice a7 n7 c7) (l := ([] ++ ([] : List Txt).take 0) ++ [nm]) rfl (.tmp 62) (.tmp 65) rfl (by simp [Act.eval]) O7.out none (0 - (0)) (0 - 0) (([] : List Txt).drop 0) HLD.out (by simp [Act.eval]) (R2.out.below B7.out) (by have := s1.out; have := s2.out; simp only [List.nil_append, List.length_append, List.length_cons, List.length_nil]; omega) B7.out.size ?_; intro a8 n8 c8 w8 hn8 o8 g8; clear hn8; have B8 := Lib.hid (own_bel O7.out B7.out (Nat.le_refl _) g8); have O8 := Lib.hid o8; have k10 := Lib.hid (ss2 (MV.out.below B8.out) hkl); rw [HNM.out] at k10; clear o8 g8))
                | fail)
            all_goals go_wp2
            all_goals go_roundw
            all_goals first | (case rel => exact ⟨k + 1, 0 + 1, _, by omega, by go_num, by omega, by have := HL1.out; have := HLD.out; simp only [List.nil_append, List.length_append, List.length_cons, List.length_nil]; omega, HC', own_txt_base O8.out HVS.out, bel2 BV.out B8.out⟩) | (simp [intOf]; omega)
          · cases e9
            have PV : Hid (PRow V.drew (some ⟨g5, 0, none⟩) cp5 qs) := Lib.hid (prow_of OV.out)
            have hcp : qs.length ≤ cp5 := PV.out.1.1
            by_cases hcj : cp5 = 0
            · have hq0 : qs = [] := List.eq_nil_of_length_eq_zero (by omega)
              subst hq0
              subst hcj
              have R2 : Hid (PRow V.drew (some ⟨g5, 0, none⟩) (0 - 0) (([] : List Txt).drop 0)) := Lib.hid PV.out
              have R1 : Hid (PRow V.drew (some ⟨g5, 0, none⟩) 0 (([] : List Txt).take 0)) := Lib.hid (prow_take PV.out 0)
              have R1a : Hid (PRow (World.drew (World.alloc V (.cells #[.string (bs nm)] 9))) (some ⟨g5, 0, none⟩) 0 (([] : List Txt).take 0)) := Lib.hid (R1.out.below (show Below V.drew.heap.size V.drew (World.drew (World.alloc V (.cells #[.string (bs nm)] 9))) from one_new V.drew _))
              have X2 : Hid (PRow (World.drew (World.alloc V (.cells #[.string (bs nm)] 9))) (some ⟨V.heap.size, 0, none⟩) 1 [nm]) := Lib.hid (prow_one V.drew nm)
              have hlt1 : (([] : List Txt).take 0).length = 0 := by rw [List.length_take]; omega
              have HL1 := Lib.hid hlt1
              have hld : (([] : List Txt).drop 0).length = 0 - 0 := by rw [List.length_drop] <;> omega
              have HLD := Lib.hid hld
              have s1 : Hid ((([] : List Txt).take 0).length ≤ 1000) := Lib.hid (by omega)
              have s2 : Hid ((([] : List Txt).drop 0).length ≤ 1000) := Lib.hid (by omega)
              have k7 := Lib.hid (ss2 MV.out hkl)
              have k7a := Lib.hid (ss2 (MV.out.below (show Below V.drew.heap.size V.drew (World.drew (World.alloc V (.cells #[.string (bs nm)] 9))) from one_new V.drew _)) hkl)
              rw [HNM.out] at k7 k7a
              clear hlt1 hld
              go_region_held3 (fun W => W.cell? ⟨b, 1, none⟩ = some (.slice (some ⟨g, 0, none⟩) m.E.length capE) ∧ W.cell? ⟨g, k * 3 + 2, none⟩ = some (.string (bs nm)))
                (first | (with_reducible exact k7.out) | (with_reducible exact k7a.out) | (with_reducible exact k8.out) | (with_reducible exact k8a.out) | (with_reducible exact k9.out) | (with_reducible exact k10.out) | fail)
                (first
                  | ((refine step_texts (P := Tryd.prog) rfl (base := V.heap.size) (w := V.drew) (v := .slice none 0 0) (l := []) rfl (.const (.slice none 0 0)) (.tmp 51) rfl rfl (N.Own.nil _ _) (some ⟨g5, 0, none⟩) 0 (0) (([] : List Txt).take 0) HL1.out (by simp [Act.eval]) R1.out (by have := s1.out; simp only [List.length_nil]; omega) (Nat.le_refl _) ?_; intro a6 n6 c6 w6 hn6 o6 g6; clear hn6; have B6 := Lib.hid (own_bel (N.Own.nil V.heap.size V.drew) (Below.refl _ _) (Nat.le_refl _) g6); have O6 := Lib.hid o6; have k8 := Lib.hid (ss2 (MV.out.below B6.out) hkl); have k8a := Lib.hid (ss2 (MV.out.below (bel2 B6.out (one_new w6 (.cells #[.string (bs nm)] 9)))) hkl); rw [HNM.out] at k8 k8a; clear o6 g6))
                  | ((refine step_texts (P := Tryd.prog) rfl (base := V.heap.size) (w := (World.drew (World.alloc V (.cells #[.string (bs nm)] 9)))) (v := .slice none 0 0) (l := []) rfl (.const (.slice none 0 0)) (.tmp 51) rfl rfl (N.Own.nil _ _) (some ⟨g5, 0, none⟩) 0 (0) (([] : List Txt).take 0) HL1.out (by simp [Act.eval]) R1a.out (by have := s1.out; simp only [List.length_nil]; omega) (by simp) ?_; intro a6 n6 c6 w6 hn6 o6 g6; clear hn6; have B6 := Lib.hid (own_bel (N.Own.nil V.heap.size (World.drew (World.alloc V (.cells #[.string (bs nm)] 9)))) (show Below V.drew.heap.size V.drew (World.drew (World.alloc V (.cells #[.string (bs nm)] 9))) from one_new V.drew _) (Nat.le_refl _) g6); have X6 := Lib.hid (X2.out.below (own_bel (N.Own.nil (World.drew (World.alloc V (.cells #[.string (bs nm)] 9))).heap.size (World.drew (World.alloc V (.cells #[.string (bs nm)] 9)))) (Below.refl _ _) (Nat.le_refl _) g6)); have O6 := Lib.hid o6; have k8 := Lib.hid (ss2 (MV.out.below B6.out) hkl); have k8a := Lib.hid (ss2 (MV.out.below (bel2 B6.out (one_new w6 (.cells #[.string (bs nm)] 9)))) hkl); rw [HNM.out] at k8 k8a; clear o6 g6))
                  | ((refine step_texts (P := Tryd.prog) rfl (base := V.heap.size) (w := w6.alloc (.cells #[.string (bs nm)] 9)) (v := .slice a6 n6 c6) (l := [] ++ ([] : List Txt).take 0) rfl (.tmp 52) (.tmp 61) rfl (by simp [Act.eval]) (own_alloc O6.out _) (some ⟨w6.heap.size, 0, none⟩) 1 1 [nm] rfl (by simp [Act.eval]) (prow_one w6 nm) (by have := s1.out; simp only [List.nil_append, List.length_cons, List.length_nil]; omega) (Nat.le_trans B6.out.size (by simp)) ?_; intro a7 n7 c7 w7 hn7 o7 g7; clear hn7; have B7 := Lib.hid (own_bel (own_alloc O6.out (.cells #[.string (bs nm)] 9)) (bel2 B6.out (one_new _ _)) (Nat.le_refl _) g7); have O7 := Lib.hid o7; have k9 := Lib.hid (ss2 (MV.out.below B7.out) hkl); rw [HNM.out] at k9; clear o7 g7))
                  | ((refine step_texts (P := Tryd.prog) rfl (base := V.heap.size) (w := w6) (v := .slice a6 n6 c6) (l := [] ++ ([] : List Txt).take 0) rfl (.tmp 52) (.tmp 61) rfl (by simp [Act.eval]) O6.out (some ⟨V.heap.size, 0, none⟩) 1 1 [nm] rfl (by simp [Act.eval]) X6.out (by have := s1.out; simp only [List.nil_append, List.length_cons, List.length_nil]; omega) B6.out.size ?_; intro a7 n7 c7 w7 hn7 o7 g7; clear hn7; have B7 := Lib.hid (own_bel O6.out B6.out (Nat.le_refl _) g7); have O7 := Lib.hid o7; have k9 := Lib.hid (ss2 (MV.out.below B7.out) hkl); rw [HNM.out] at k9; clear o7 g7))
                  | ((refine step_texts (P := Tryd.prog) rfl (base := V.heap.size) (w := w7) (v := .slice a7 n7 c7) (l := ([] ++ ([] : List Txt).take 0) ++ [nm]) rfl (.tmp 62) (.tmp 65) rfl (by simp [Act.eval]) O7.out (some ⟨g5, 0, none⟩) (0 - (0)) (0 - 0) (([] : List Txt).drop 0) HLD.out (by simp [Act.eval]) (R2.out.below B7.out) (by have := s1.out; have := s2.out; simp only [List.nil_append, List.length_append, List.length_cons, List.length_nil]; omega) B7.out.size ?_; intro a8 n8 c8 w8 hn8 o8 g8; clear hn8; have B8 := Lib.hid (own_bel O7.out B7.out (Nat.le_refl _) g8); have O8 := Lib.hid o8; have k10 := Lib.hid (ss2 (MV.out.below B8.out) hkl); rw [HNM.out] at k10; clear o8 g8))
                  | fail)
              all_goals go_wp2
              all_goals go_roundw
              all_goals first | (case rel => exact ⟨k + 1, 0 + 1, _, by omega, by go_num, by omega, by have := HL1.out; have := HLD.out; simp only [List.nil_append, List.length_append, List.length_cons, List.length_nil]; omega, HC', own_txt_base O8.out HVS.out, bel2 BV.out B8.out⟩) | (simp [intOf]; omega)
            · have R2 : Hid (PRow V.drew (some ⟨g5, 0, none⟩) (cp5 - (0)) (qs.drop (0))) := Lib.hid (by have := (prow_drop PV.out (0) (by omega)).1; rwa [Nat.zero_add] at this)
              have R1 : Hid (PRow V.drew (some ⟨g5, 0, none⟩) cp5 (qs.take (0))) := Lib.hid (prow_take PV.out (0))
              have R1a : Hid (PRow (World.drew (World.alloc V (.cells #[.string (bs nm)] 9))) (some ⟨g5, 0, none⟩) cp5 (qs.take (0))) := Lib.hid (R1.out.below (show Below V.drew.heap.size V.drew (World.drew (World.alloc V (.cells #[.string (bs nm)] 9))) from one_new V.drew _))
              have X2 : Hid (PRow (World.drew (World.alloc V (.cells #[.string (bs nm)] 9))) (some ⟨V.heap.size, 0, none⟩) 1 [nm]) := Lib.hid (prow_one V.drew nm)
              have hlt1 : (qs.take (0)).length = (0) := by rw [List.length_take]; omega
              have HL1 := Lib.hid hlt1
              have hld : (qs.drop (0)).length = qs.length - (0) := by rw [List.length_drop] <;> omega
              have HLD := Lib.hid hld
              have s1 : Hid ((qs.take (0)).length ≤ 1000) := Lib.hid (by omega)
              have s2 : Hid ((qs.drop (0)).length ≤ 1000) := Lib.hid (by omega)
              have k7 := Lib.hid (ss2 MV.out hkl)
              have k7a := Lib.hid (ss2 (MV.out.below (show Below V.drew.heap.size V.drew (World.drew (World.alloc V (.cells #[.string (bs nm)] 9))) from one_new V.drew _)) hkl)
              rw [HNM.out] at k7 k7a
              clear hlt1 hld
              go_region_held3 (fun W => W.cell? ⟨b, 1, none⟩ = some (.slice (some ⟨g, 0, none⟩) m.E.length capE) ∧ W.cell? ⟨g, k * 3 + 2, none⟩ = some (.string (bs nm)))
                (first | (with_reducible exact k7.out) | (with_reducible exact k7a.out) | (with_reducible exact k8.out) | (with_reducible exact k8a.out) | (with_reducible exact k9.out) | (with_reducible exact k10.out) | fail)
                (first
                  | ((refine step_texts (P := Tryd.prog) rfl (base := V.heap.size) (w := V.drew) (v := .slice none 0 0) (l := []) rfl (.const (.slice none 0 0)) (.tmp 51) rfl rfl (N.Own.nil _ _) (some ⟨g5, 0, none⟩) cp5 ((0)) (qs.take (0)) HL1.out (by simp [Act.eval]) R1.out (by have := s1.out; simp only [List.length_nil]; omega) (Nat.le_refl _) ?_; intro a6 n6 c6 w6 hn6 o6 g6; clear hn6; have B6 := Lib.hid (own_bel (N.Own.nil V.heap.size V.drew) (Below.refl _ _) (Nat.le_refl _) g6); have O6 := Lib.hid o6; have k8 := Lib.hid (ss2 (MV.out.below B6.out) hkl); have k8a := Lib.hid (ss2 (MV.out.below (bel2 B6.out (one_new w6 (.cells #[.string (bs nm)] 9)))) hkl); rw [HNM.out] at k8 k8a; clear o6 g6))
                  | ((refine step_texts (P := Tryd.prog) rfl (base := V.heap.size) (w := (World.drew (World.alloc V (.cells #[.string (bs nm)] 9)))) (v := .slice none 0 0) (l := []) rfl (.const (.slice none 0 0)) (.tmp 51) rfl rfl (N.Own.nil _ _) (some ⟨g5, 0, none⟩) cp5 ((0)) (qs.take (0)) HL1.out (by simp [Act.eval]) R1a.out (by have := s1.out; simp only [List.length_nil]; omega) (by simp) ?_; intro a6 n6 c6 w6 hn6 o6 g6; clear hn6; have B6 := Lib.hid (own_bel (N.Own.nil V.heap.size (World.drew (World.alloc V (.cells #[.string (bs nm)] 9)))) (show Below V.drew.heap.size V.drew (World.drew (World.alloc V (.cells #[.string (bs nm)] 9))) from one_new V.drew _) (Nat.le_refl _) g6); have X6 := Lib.hid (X2.out.below (own_bel (N.Own.nil (World.drew (World.alloc V (.cells #[.string (bs nm)] 9))).heap.size (World.drew (World.alloc V (.cells #[.string (bs nm)] 9)))) (Below.refl _ _) (Nat.le_refl _) g6)); have O6 := Lib.hid o6; have k8 := Lib.hid (ss2 (MV.out.below B6.out) hkl); have k8a := Lib.hid (ss2 (MV.out.below (bel2 B6.out (one_new w6 (.cells #[.string (bs nm)] 9)))) hkl); rw [HNM.out] at k8 k8a; clear o6 g6))
                  | ((refine step_texts (P := Tryd.prog) rfl (base := V.heap.size) (w := w6.alloc (.cells #[.string (bs nm)] 9)) (v := .slice a6 n6 c6) (l := [] ++ qs.take (0)) rfl (.tmp 52) (.tmp 61) rfl (by simp [Act.eval]) (own_alloc O6.out _) (some ⟨w6.heap.size, 0, none⟩) 1 1 [nm] rfl (by simp [Act.eval]) (prow_one w6 nm) (by have := s1.out; simp only [List.nil_append, List.length_cons, List.length_nil]; omega) (Nat.le_trans B6.out.size (by simp)) ?_; intro a7 n7 c7 w7 hn7 o7 g7; clear hn7; have B7 := Lib.hid (own_bel (own_alloc O6.out (.cells #[.string (bs nm)] 9)) (bel2 B6.out (one_new _ _)) (Nat.le_refl _) g7); have O7 := Lib.hid o7; have k9 := Lib.hid (ss2 (MV.out.below B7.out) hkl); rw [HNM.out] at k9; clear o7 g7))
                  | ((refine step_texts (P := Tryd.prog) rfl (base := V.heap.size) (w := w6) (v := .slice a6 n6 c6) (l := [] ++ qs.take (0)) rfl (.tmp 52) (.tmp 61) rfl (by simp [Act.eval]) O6.out (some ⟨V.heap.size, 0, none⟩) 1 1 [nm] rfl (by simp [Act.eval]) X6.out (by have := s1.out; simp only [List.nil_append, List.length_cons, List.length_nil]; omega) B6.out.size ?_; intro a7 n7 c7 w7 hn7 o7 g7; clear hn7; have B7 := Lib.hid (own_bel O6.out B6.out (Nat.le_refl _) g7); have O7 := Lib.hid o7; have k9 := Lib.hid (ss2 (MV.out.below B7.out) hkl); rw [HNM.out] at k9; clear o7 g7))
                  | ((refine step_texts (P := Tryd.prog) rfl (base := V.heap.size) (w := w7) (v := .slice a7 n7 c7) (l := ([] ++ qs.take (0)) ++ [nm]) rfl (.tmp 62) (.tmp 65) rfl (by simp [Act.eval]) O7.out (some ⟨g5, 0, none⟩) (cp5 - ((0))) (qs.length - (0)) (qs.drop (0)) HLD.out (by simp [Act.eval]) (R2.out.below B7.out) (by have := s1.out; have := s2.out; simp only [List.nil_append, List.length_append, List.length_cons, List.length_nil]; omega) B7.out.size ?_; intro a8 n8 c8 w8 hn8 o8 g8; clear hn8; have B8 := Lib.hid (own_bel O7.out B7.out (Nat.le_refl _) g8); have O8 := Lib.hid o8; have k10 := Lib.hid (ss2 (MV.out.below B8.out) hkl); rw [HNM.out] at k10; clear o8 g8))
                  | fail)
              all_goals go_wp2
              all_goals go_roundw
              all_goals first | (case rel => exact ⟨k + 1, qs.length + 1, _, by omega, by go_num, by omega, by have := HL1.out; have := HLD.out; simp only [List.nil_append, List.length_append, List.length_cons, List.length_nil]; omega, HC', own_txt_base O8.out HVS.out, bel2 BV.out B8.out⟩) | (simp [intOf]; omega)
        · obtain ⟨i, rfl⟩ : ∃ i, j = i + 1 := ⟨j - 1, by omega⟩
          have hil : i < qs.length := by omega
          obtain ⟨bk, o, e5, hbl, hcell⟩ := HP.out.1.at_ hil
          have i1 : IntKind.i64.wrap (i : Int) = (i : Int) := IntWalk.i64_in _ (by omega)
          have i2 : ((i + 1 : Nat) : Int) = (i : Int) + 1 := by omega
          have i3 : (i : Int) + 1 - 1 = (i : Int) := by omega
          have i4 : (i : Int) < (qs.length : Int) := by omega
          have i5 : (0 : Int) ≤ (i : Int) := by omega
          have i6 : decide ((0 : Int) < (i : Int) + 1) = true := by simp
          rw [i2]
          clear i2
          subst e5
          go_wp2
          go_quiet (fail)
          go_wp2
          · go_roundw
            case rel => exact ⟨i, n + nq, by omega, rfl, by first | rfl | rw [World.drewN_drewN]⟩
            case measure => simp [intOf]
          · clear hcell hbl i1 i3 i4 i5 i6
            have v1 : (0 : Int) ≤ (i : Int) + 1 := by omega
            have v2 : (i : Int) + 1 ≤ (qs.length : Int) := by omega
            have v3 : ((i : Int) + 1).toNat = i + 1 := by omega
            have v4 : (i : Int) + 1 ≤ (cp5 : Int) := by have := HP.out.1.1; omega
            have HV := Lib.hid (bel2 (bel_drewN wr n) (bel_drewN (wr.drewN n) nq))
            have hVV : (wr.drewN n).drewN nq = wr.drewN (n + nq) := by first | rfl | rw [World.drewN_drewN]
            try rw [← hVV]
            clear hVV
            generalize (wr.drewN n).drewN nq = V at HV ⊢
            have MV : Hid (ML V.drew b F bl m.E m.D vB (.slice (some ⟨g, 0, none⟩) m.E.length capE) vD) := Lib.hid ((M.out.below HV.out).below (Below.refl _ _).drew)
            have BV : Hid (Below w.heap.size w V.drew) := Lib.hid (bel2 HBL.out HV.out.drew)
            have HVS : Hid (w.heap.size ≤ V.heap.size) := Lib.hid BV.out.size
            have OV : Hid (N.Own w.heap.size V.drew (.slice (some ⟨bk, o, none⟩) qs.length cp5) qs) := Lib.hid (own_below HO.out HV.out.drew)
            generalize hnm : m.E[k].2.2 = nm at e2
            have HNM := Lib.hid hnm
            clear hnm M HO HP HBL HV c1' e0 e1 e2 hlt'
            rcases OV.out.2 with ⟨e9, e8⟩ | ⟨g5, cp, cur, e9, _⟩
            · cases e9
            · cases e9
              have PV : Hid (PRow V.drew (some ⟨bk, 0, none⟩) cp5 qs) := Lib.hid (prow_of OV.out)
              have hcp : qs.length ≤ cp5 := PV.out.1.1
              by_cases hcj : cp5 = i + 1
              · have R2 : Hid (PRow V.drew (some ⟨bk, 0, none⟩) (cp5 - (i + 1)) (qs.drop (i + 1))) := Lib.hid ((prow_drop PV.out (i + 1) (by omega)).2 (by omega))
                subst hcj
                have R1 : Hid (PRow V.drew (some ⟨bk, 0, none⟩) (i + 1) (qs.take (i + 1))) := Lib.hid (prow_take PV.out (i + 1))
                have R1a : Hid (PRow (World.drew (World.alloc V (.cells #[.string (bs nm)] 9))) (some ⟨bk, 0, none⟩) (i + 1) (qs.take (i + 1))) := Lib.hid (R1.out.below (show Below V.drew.heap.size V.drew (World.drew (World.alloc V (.cells #[.string (bs nm)] 9))) from one_new V.drew _))
                have X2 : Hid (PRow (World.drew (World.alloc V (.cells #[.string (bs nm)] 9))) (some ⟨V.heap.size, 0, none⟩) 1 [nm]) := Lib.hid (prow_one V.drew nm)
                have hlt1 : (qs.take (i + 1)).length = (i + 1) := by rw [List.length_take]; omega
                have HL1 := Lib.hid hlt1
                have hld : (qs.drop (i + 1)).length = 0 := by rw [List.length_drop] <;> omega
                have HLD := Lib.hid hld
                have s1 : Hid ((qs.take (i + 1)).length ≤ 1000) := Lib.hid (by omega)
                have s2 : Hid ((qs.drop (i + 1)).length ≤ 1000) := Lib.hid (by omega)
                have k7 := Lib.hid (ss2 MV.out hkl)
                have k7a := Lib.hid (ss2 (MV.out.below (show Below V.drew.heap.size V.drew (World.drew (World.alloc V (.cells #[.string (bs nm)] 9))) from one_new V.drew _)) hkl)
                rw [HNM.out] at k7 k7a
                clear hlt1 hld
                go_region_held3 (fun W => W.cell? ⟨b, 1, none⟩ = some (.slice (some ⟨g, 0, none⟩) m.E.length capE) ∧ W.cell? ⟨g, k * 3 + 2, none⟩ = some (.string (bs nm)))
                  (first | (with_reducible exact k7.out) | (with_reducible exact k7a.out) | (with_reducible exact k8.out) | (with_reducible exact k8a.out) | (with_reducible exact k9.out) | (with_reducible exact k10.out) | fail)
                  (first
                    | ((refine step_texts (P := Tryd.prog) rfl (base := V.heap.size) (w := V.drew) (v := .slice none 0 0) (l := []) rfl (.const (.slice none 0 0)) (.tmp 51) rfl rfl (N.Own.nil _ _) (some ⟨bk, 0, none⟩) (i + 1) ((i + 1)) (qs.take (i + 1)) HL1.out (by simp [Act.eval]) R1.out (by have := s1.out; simp only [List.length_nil]; omega) (Nat.le_refl _) ?_; intro a6 n6 c6 w6 hn6 o6 g6; clear hn6; have B6 := Lib.hid (own_bel (N.Own.nil V.heap.size V.drew) (Below.refl _ _) (Nat.le_refl _) g6); have O6 := Lib.hid o6; have k8 := Lib.hid (ss2 (MV.out.below B6.out) hkl); have k8a := Lib.hid (ss2 (MV.out.below (bel2 B6.out (one_new w6 (.cells #[.string (bs nm)] 9)))) hkl); rw [HNM.out] at k8 k8a; clear o6 g6))
                    | ((refine step_texts (P := Tryd.prog) rfl (base := V.heap.size) (w := (World.drew (World.alloc V (.cells #[.string (bs nm)] 9)))) (v := .slice none 0 0) (l := []) rfl (.const (.slice none 0 0)) (.tmp 51) rfl rfl (N.Own.nil _ _) (some ⟨bk, 0, none⟩) (i + 1) ((i + 1)) (qs.take (i + 1)) HL1.out (by simp [Act.eval]) R1a.out (by have := s1.out; simp only [List.length_nil]; omega) (by simp) ?_; intro a6 n6 c6 w6 hn6 o6 g6; clear hn6; have B6 := Lib.hid (own_bel (N.Own.nil V.heap.size (World.drew (World.alloc V (.cells #[.string (bs nm)] 9)))) (show Below V.drew.heap.size V.drew (World.drew (World.alloc V (.cells #[.string (bs nm)] 9))) from one_new V.drew _) (Nat.le_refl _) g6); have X6 := Lib.hid (X2.out.below (own_bel (N.Own.nil (World.drew (World.alloc V (.cells #[.string (bs nm)] 9))).heap.size (World.drew (World.alloc V (.cells #[.string (bs nm)] 9)))) (Below.refl _ _) (Nat.le_refl _) g6)); have O6 := Lib.hid o6; have k8 := Lib.hid (ss2 (MV.out.below B6.out) hkl); have k8a := Lib.hid (ss2 (MV.out.below (bel2 B6.out (one_new w6 (.cells #[.string (bs nm)] 9)))) hkl); rw [HNM.out] at k8 k8a; clear o6 g6))
                    | ((refine step_texts (P := Tryd.prog) rfl (base := V.heap.size) (w := w6.alloc (.cells #[.string (bs nm)] 9)) (v := .slice a6 n6 c6) (l := [] ++ qs.take (i + 1)) rfl (.tmp 52) (.tmp 61) rfl (by simp [Act.eval]) (own_alloc O6.out _) (some ⟨w6.heap.size, 0, none⟩) 1 1 [nm] rfl (by simp [Act.eval]) (prow_one w6 nm) (by have := s1.out; simp only [List.nil_append, List.length_cons, List.length_nil]; omega) (Nat.le_trans B6.out.size (by simp)) ?_; intro a7 n7 c7 w7 hn7 o7 g7; clear hn7; have B7 := Lib.hid (own_bel (own_alloc O6.out (.cells #[.string (bs nm)] 9)) (bel2 B6.out (one_new _ _)) (Nat.le_refl _) g7); have O7 := Lib.hid o7; have k9 := Lib.hid (ss2 (MV.out.below B7.out) hkl); rw [HNM.out] at k9; clear o7 g7))
                    | ((refine step_texts (P := Tryd.prog) rfl (base := V.heap.size) (w := w6) (v := .slice a6 n6 c6) (l := [] ++ qs.take (i + 1)) rfl (.tmp 52) (.tmp 61) rfl (by simp [Act.eval]) O6.out (some ⟨V.heap.size, 0, none⟩) 1 1 [nm] rfl (by simp [Act.eval]) X6.out (by have := s1.out; simp only [List.nil_append, List.length_cons, List.length_nil]; omega) B6.out.size ?_; intro a7 n7 c7 w7 hn7 o7 g7; clear hn7; have B7 := Lib.hid (own_bel O6.out B6.out (Nat.le_refl _) g7); have O7 := Lib.hid o7; have k9 := Lib.hid (ss2 (MV.out.below B7.out) hkl); rw [HNM.out] at k9; clear o7 g7))
                    | ((refine step_texts (P := Tryd.prog) rfl (base := V.heap.size) (w := w7) (v := .slice a7 n7 c7) (l := ([] ++ qs.take (i + 1)) ++ [nm]) rfl (.tmp 62) (.tmp 65) rfl (by simp [Act.eval]) O7.out (some ⟨bk, 0, none⟩) ((i + 1) - ((i + 1))) (0) (qs.drop (i + 1)) HLD.out (by simp [Act.eval]) (R2.out.below B7.out) (by have := s1.out; have := s2.out; simp only [List.nil_append, List.length_append, List.length_cons, List.length_nil]; omega) B7.out.size ?_; intro a8 n8 c8 w8 hn8 o8 g8; clear hn8; have B8 := Lib.hid (own_bel O7.out B7.out (Nat.le_refl _) g8); have O8 := Lib.hid o8; have k10 := Lib.hid (ss2 (MV.out.below B8.out) hkl); rw [HNM.out] at k10; clear o8 g8))
                    | fail)
                all_goals go_wp2
                all_goals go_roundw
                all_goals first | (case rel => exact ⟨k + 1, qs.length + 1, _, by omega, by go_num, by omega, by have := HL1.out; have := HLD.out; simp only [List.nil_append, List.length_append, List.length_cons, List.length_nil]; omega, HC', own_txt_base O8.out HVS.out, bel2 BV.out B8.out⟩) | (simp [intOf]; omega)
              · have R2 : Hid (PRow V.drew (some ⟨bk, i + 1, none⟩) (cp5 - (i + 1)) (qs.drop (i + 1))) := Lib.hid (by have := (prow_drop PV.out (i + 1) (by omega)).1; rwa [Nat.zero_add] at this)
                have R1 : Hid (PRow V.drew (some ⟨bk, 0, none⟩) cp5 (qs.take (i + 1))) := Lib.hid (prow_take PV.out (i + 1))
                have R1a : Hid (PRow (World.drew (World.alloc V (.cells #[.string (bs nm)] 9))) (some ⟨bk, 0, none⟩) cp5 (qs.take (i + 1))) := Lib.hid (R1.out.below (show Below V.drew.heap.size V.drew (World.drew (World.alloc V (.cells #[.string (bs nm)] 9))) from one_new V.drew _))
                have X2 : Hid (PRow (World.drew (World.alloc V (.cells #[.string (bs nm)] 9))) (some ⟨V.heap.size, 0, none⟩) 1 [nm]) := Lib.hid (prow_one V.drew nm)
                have hlt1 : (qs.take (i + 1)).length = (i + 1) := by rw [List.length_take]; omega
                have HL1 := Lib.hid hlt1
                have hld : (qs.drop (i + 1)).length = qs.length - (i + 1) := by rw [List.length_drop] <;> omega
                have HLD := Lib.hid hld
                have s1 : Hid ((qs.take (i + 1)).length ≤ 1000) := Lib.hid (by omega)
                have s2 : Hid ((qs.drop (i + 1)).length ≤ 1000) := Lib.hid (by omega)
                have k7 := Lib.hid (ss2 MV.out hkl)
                have k7a := Lib.hid (ss2 (MV.out.below (show Below V.drew.heap.size V.drew (World.drew (World.alloc V (.cells #[.string (bs nm)] 9))) from one_new V.drew _)) hkl)
                rw [HNM.out] at k7 k7a
                clear hlt1 hld
                go_region_held3 (fun W => W.cell? ⟨b, 1, none⟩ = some (.slice (some ⟨g, 0, none⟩) m.E.length capE) ∧ W.cell? ⟨g, k * 3 + 2, none⟩ = some (.string (bs nm)))
                  (first | (with_reducible exact k7.out) | (with_reducible exact k7a.out) | (with_reducible exact k8.out) | (with_reducible exact k8a.out) | (with_reducible exact k9.out) | (with_reducible exact k10.out) | fail)
                  (first
                    | ((refine step_texts (P := Tryd.prog) rfl (base := V.heap.size) (w := V.drew) (v := .slice none 0 0) (l := []) rfl (.const (.slice none 0 0)) (.tmp 51) rfl rfl (N.Own.nil _ _) (some ⟨bk, 0, none⟩) cp5 ((i + 1)) (qs.take (i + 1)) HL1.out (by simp [Act.eval]) R1.out (by have := s1.out; simp only [List.length_nil]; omega) (Nat.le_refl _) ?_; intro a6 n6 c6 w6 hn6 o6 g6; clear hn6; have B6 := Lib.hid (own_bel (N.Own.nil V.heap.size V.drew) (Below.refl _ _) (Nat.le_refl _) g6); have O6 := Lib.hid o6; have k8 := Lib.hid (ss2 (MV.out.below B6.out) hkl); have k8a := Lib.hid (ss2 (MV.out.below (bel2 B6.out (one_new w6 (.cells #[.string (bs nm)] 9)))) hkl); rw [HNM.out] at k8 k8a; clear o6 g6))
                    | ((refine step_texts (P := Tryd.prog) rfl (base := V.heap.size) (w := (World.drew (World.alloc V (.cells #[.string (bs nm)] 9)))) (v := .slice none 0 0) (l := []) rfl (.const (.slice none 0 0)) (.tmp 51) rfl rfl (N.Own.nil _ _) (some ⟨bk, 0, none⟩) cp5 ((i + 1)) (qs.take (i + 1)) HL1.out (by simp [Act.eval]) R1a.out (by have := s1.out; simp only [List.length_nil]; omega) (by simp) ?_; intro a6 n6 c6 w6 hn6 o6 g6; clear hn6; have B6 := Lib.hid (own_bel (N.Own.nil V.heap.size (World.drew (World.alloc V (.cells #[.string (bs nm)] 9)))) (show Below V.drew.heap.size V.drew (World.drew (World.alloc V (.cells #[.string (bs nm)] 9))) from one_new V.drew _) (Nat.le_refl _) g6); have X6 := Lib.hid (X2.out.below (own_bel (N.Own.nil (World.drew (World.alloc V (.cells #[.string (bs nm)] 9))).heap.size (World.drew (World.alloc V (.cells #[.string (bs nm)] 9)))) (Below.refl _ _) (Nat.le_refl _) g6)); have O6 := Lib.hid o6; have k8 := Lib.hid (ss2 (MV.out.below B6.out) hkl); have k8a := Lib.hid (ss2 (MV.out.below (bel2 B6.out (one_new w6 (.cells #[.string (bs nm)] 9)))) hkl); rw [HNM.out] at k8 k8a; clear o6 g6))
                    | ((refine step_texts (P := Tryd.prog) rfl (base := V.heap.size) (w := w6.alloc (.cells #[.string (bs nm)] 9)) (v := .slice a6 n6 c6) (l := [] ++ qs.take (i + 1)) rfl (.tmp 52) (.tmp 61) rfl (by simp [Act.eval]) (own_alloc O6.out _) (some ⟨w6.heap.size, 0, none⟩) 1 1 [nm] rfl (by simp [Act.eval]) (prow_one w6 nm) (by have := s1.out; simp only [List.nil_append, List.length_cons, List.length_nil]; omega) (Nat.le_trans B6.out.size (by simp)) ?_; intro a7 n7 c7 w7 hn7 o7 g7; clear hn7; have B7 := Lib.hid (own_bel (own_alloc O6.out (.cells #[.string (bs nm)] 9)) (bel2 B6.out (one_new _ _)) (Nat.le_refl _) g7); have O7 := Lib.hid o7; have k9 := Lib.hid (ss2 (MV.out.below B7.out) hkl); rw [HNM.out] at k9; clear o7 g7))
                    | ((refine step_texts (P := Tryd.prog) rfl (base := V.heap.size) (w := w6) (v := .slice a6 n6 c6) (l := [] ++ qs.take (i + 1)) rfl (.tmp 52) (.tmp 61) rfl (by simp [Act.eval]) O6.out (some ⟨V.heap.size, 0, none⟩) 1 1 [nm] rfl (by simp [Act.eval]) X6.out (by have := s1.out; simp only [List.nil_append, List.length_cons, List.length_nil]; omega) B6.out.size ?_; intro a7 n7 c7 w7 hn7 o7 g7; clear hn7; have B7 := Lib.hid (own_bel O6.out B6.out (Nat.le_refl _) g7); have O7 := Lib.hid o7; have k9 := Lib.hid (ss2 (MV.out.below B7.out) hkl); rw [HNM.out] at k9; clear o7 g7))
                    | ((refine step_texts (P := Tryd.prog) rfl (base := V.heap.size) (w := w7) (v := .slice a7 n7 c7) (l := ([] ++ qs.take (i + 1)) ++ [nm]) rfl (.tmp 62) (.tmp 65) rfl (by simp [Act.eval]) O7.out (some ⟨bk, i + 1, none⟩) (cp5 - ((i + 1))) (qs.length - (i + 1)) (qs.drop (i + 1)) HLD.out (by simp [Act.eval]) (R2.out.below B7.out) (by have := s1.out; have := s2.out; simp only [List.nil_append, List.length_append, List.length_cons, List.length_nil]; omega) B7.out.size ?_; intro a8 n8 c8 w8 hn8 o8 g8; clear hn8; have B8 := Lib.hid (own_bel O7.out B7.out (Nat.le_refl _) g8); have O8 := Lib.hid o8; have k10 := Lib.hid (ss2 (MV.out.below B8.out) hkl); rw [HNM.out] at k10; clear o8 g8))
                    | fail)
                all_goals go_wp2
                all_goals go_roundw
                all_goals first | (case rel => exact ⟨k + 1, qs.length + 1, _, by omega, by go_num, by omega, by have := HL1.out; have := HLD.out; simp only [List.nil_append, List.length_append, List.length_cons, List.length_nil]; omega, HC', own_txt_base O8.out HVS.out, bel2 BV.out B8.out⟩) | (simp [intOf]; omega)
    · obtain rfl : k = m.E.length := by omega
      have HR : Hid (cntD m.E d = qs.length) := Lib.hid (by have := HC.out; rw [List.take_length] at this; exact this)
      go_wp2
      go_ret
      exact ⟨a5, cp5, by rw [HR.out]; rfl, HBL.out⟩

end

end Go.Proofs.YtpcdcmoapenbdaaDoor.T
