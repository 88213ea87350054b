/-
  ReferPlays, a deed that forgets a segment.
-/
import Derived.Test.YtglbemdeboaheaaRfSwBind
namespace Go.Proofs.Ytglbemdeboaheaa.Rf
open Go.ChangeShapes Go.WideShapes Go.ChangeAt Go.RowKit
open Go.Proofs.Ytglbemdeboaheaa.N (bs bs_data bs_size bs_inj bs_of may retB)
open Go.Proofs.Ytglbemdeboaheaa.G (El Row flat kT goodT)
set_option linter.unusedVariables false

section
variable {X V : World} {b : Nat} {s0 : Value} {k db : Nat} {d : Dd} {F : Nat → Prop} {c : Nat} {m : List Dd} {va : Option Addr} {vc : Nat} {A : Int} {a : Act} {J K' : Act → World → Prop} {Q' : Exit → Act → World → Prop}

set_option maxHeartbeats 16000000 in
set_option maxRecDepth 8000 in
theorem sw_forget (hf : Fr a) (h0 : slot a 0 = s0) (h3 : slot a 3 = RP b) (h4 : slot a 4 = .slice va m.length vc) (h5 : slot a 5 = .int .i64 k) (h6 : slot a 6 = .pointer (some ⟨db, 0, none⟩)) (h7 : slot a 7 = .int .i64 A)
    (hP : PS X V b F c (Lm m) (.slice va m.length vc) m db d) (hA : AtOf m d.ring d.name m.length A) (hk : k ≤ 1000) (hc : c ≤ k) (hm : m.length ≤ k) (hq : ∀ x ∈ m, x.name.length ≤ 100 ∧ x.Ok) (hd : d.Ok) (h100 : d.name.length ≤ 100) (hop : ¬ d.op ≤ 4 ∧ ¬ d.op = 5)
    (hJ : ∀ a' w', SwI X b s0 k db d a' w' → J a' w') (hK : ∀ a' w', Met J a' w' → K' a' w') : Code.wp Try.prog swCode (Exit.then K' Q') a V := by
  obtain ⟨g, hg, rfl⟩ := hf.opens
  have e0 := (hg 0).trans h0
  have e3 := (hg 3).trans h3
  have e4 := (hg 4).trans h4
  have e5 := (hg 5).trans h5
  have e6 := (hg 6).trans h6
  have e7 := (hg 7).trans h7
  rw [e0, e3, e4, e5, e6, e7]
  clear e0 e3 e4 e5 e6 e7 hg h0 h3 h4 h5 h6 h7 hf
  conv => arg 2; whnf
  have P1 := Lib.hid hP
  have HA := Lib.hid hA
  have HQ := Lib.hid hq
  have HD := Lib.hid hd
  have HJ := Lib.hid hJ
  obtain ⟨q0, q1, q2, q3⟩ := hP.at_
  have hl : d.name.length ≤ maxLen := hd.2.2.2
  have o1 : decide (d.op ≤ 4) = false := by simpa using hop.1
  have o2 : (d.op == 5) = false := by simpa using hop.2
  obtain ⟨va', vc', ev, hrow, hform⟩ := P1.out.pm.row
  cases ev
  have HRW := Lib.hid hrow
  clear hP hA hq hd hJ hop hl hrow hform
  go_wp2
  have HP := Lib.hid P1.out.pm.tab.at_.le
  clear q0 q1 q2 q3
  go_loopw [12, 13] (fun v i W => ∃ (kn : Nat) (ys : List Dd), kn ≤ m.length ∧ i = .int .i64 kn ∧ Hid ((m.take kn).filter (fun x => !decide (x.seg = d.seg)) = ys) ∧ ys.length ≤ kn ∧ Hid (G.Own kD V.heap.size W v ys) ∧ Hid (Below V.heap.size V W)) (fun _ i _ => m.length - (intOf i).toNat)
  case atStart => exact ⟨0, [], Nat.zero_le _, rfl, Lib.hid (by simp), Nat.zero_le _, Lib.hid (G.Own.nil V.heap.size V), Lib.hid (Below.refl _ _)⟩
  case round =>
    obtain ⟨kn, ys, hkn, rfl, HYS, hys, HO, HB⟩ := hrel
    obtain ⟨ra, rc, rfl, _, _⟩ := HO.out.row goodD
    by_cases hlt : kn < m.length
    · obtain ⟨bk, o, rfl, hbk, hr0⟩ := row_deed HRW.out hlt
      obtain ⟨r0, r1, r2, r3⟩ := hr0.below hbk HB.out
      obtain ⟨q0, q1, q2, q3⟩ := (P1.out.bel HB.out).at_
      have HT : Hid (m.take (kn + 1) = m.take kn ++ [m[kn]]) := Lib.hid (List.take_succ_eq_append_getElem hlt)
      clear hbk hr0
      by_cases hs : m[kn].seg = d.seg
      · have t1 : (m[kn].seg != d.seg) = false := by simpa using hs
        have HF : Hid ((m.take (kn + 1)).filter (fun x => !decide (x.seg = d.seg)) = ys) := Lib.hid (by rw [HT.out, List.filter_append, HYS.out]; simp [hs])
        clear hs
        go_wp2
        go_quiet (fail)
        go_wp2
        go_roundw
        case rel => exact ⟨kn + 1, ys, by omega, by go_num, HF, by omega, Lib.hid (HO.out.below (below_drewN _ _)), Lib.hid (HB.out.trans ((below_drewN _ _).mono HB.out.size))⟩
        case measure => simp [intOf]; omega
      · have t1 : (m[kn].seg != d.seg) = true := by simpa using hs
        have HF : Hid ((m.take (kn + 1)).filter (fun x => !decide (x.seg = d.seg)) = ys ++ [m[kn]]) := Lib.hid (by rw [HT.out, List.filter_append, HYS.out]; simp [hs])
        have hmx := Lib.hid (HQ.out m[kn] (List.getElem_mem hlt))
        clear hs
        go_wp2
        go_quiet (fail)
        have c0 : (wr.drewN nq).cell? ⟨bk, o + kn * 4, none⟩ = some (.int .i64 m[kn].op) := r0
        have c1 : (wr.drewN nq).cell? ⟨bk, o + kn * 4 + 1, none⟩ = some (.int .i64 m[kn].ring) := r1
        have c2 : (wr.drewN nq).cell? ⟨bk, o + kn * 4 + 2, none⟩ = some (.int .i64 m[kn].seg) := r2
        have c3 : (wr.drewN nq).cell? ⟨bk, o + kn * 4 + 3, none⟩ = some (.string (bs m[kn].name)) := r3
        have HO2 := Lib.hid (HO.out.below (below_drewN wr nq))
        have HB2 := Lib.hid (HB.out.trans ((below_drewN wr nq).mono HB.out.size))
        clear r0 r1 r2 r3 q0 q1 q2 q3 HO HB
        generalize wr.drewN nq = W at c0 c1 c2 c3 HO2 HB2 ⊢
        go_wp2_with (at_builtin; refine G.wpList_g (s := kD) goodD rfl (.tmp 84) (.tmp 89) rfl rfl (HO2.out.alloc _) (some ⟨W.heap.size, 0, none⟩) 1 1 [m[kn]] rfl rfl (one_deed W m[kn]) (ys.length + 1) (ys ++ [m[kn]]) rfl (by simp) (by omega) (by have := HB2.out.size; simp; omega) ?_; intro a' c' w' o1' g1' v1'; have O3 := Lib.hid o1'; have B3 := Lib.hid ((HO2.out.alloc (DdO m[kn])).grown (HB2.out.alloc HB2.out.size _) (Nat.le_refl _) g1'); clear o1' g1' v1')
        go_roundw
        case rel => exact ⟨kn + 1, ys ++ [m[kn]], by omega, by go_num, HF, by simp; omega, O3, B3⟩
        case measure => simp [intOf]; omega
    · obtain rfl : kn = m.length := by omega
      have HYS2 : Hid (m.filter (fun x => !decide (x.seg = d.seg)) = ys) := Lib.hid (by have := HYS.out; rw [List.take_length] at this; exact this)
      have P2 := Lib.hid (P1.out.swap HB.out HO.out)
      obtain ⟨q0, q1, q2, q3⟩ := P2.out.at_
      have hLf : Hid (forget (Lm m) d.seg = Lm ys) := Lib.hid (by rw [Lm_forget, HYS2.out])
      have hmem : Hid (∀ x ∈ ys, x ∈ m) := Lib.hid (fun x hx => by rw [← HYS2.out] at hx; exact (List.mem_filter.1 hx).1)
      have CG := Lib.hid (y_forget P2.out.pm.tab d.seg (k := (m.length : Int) - (ys.length : Int)) (by unfold maxLen; have := HP.out; omega) (by rw [hLf.out, Lm_len, Lm_len]) hLf.out)
      go_wp2_with (go_at_call 12; (with_reducible refine CG.out.mono ?_); rintro e w2 ⟨rfl, y, gg⟩; have P4 := Lib.hid (P2.out.went gg y); clear y gg)
      exact Met.intro (HJ.out _ _ ⟨⟨rfl, rfl⟩, rfl, rfl, rfl, rfl, F, c, ys, by omega, by omega, fun x hx => HQ.out x (hmem.out x hx), P4.out⟩)

end

end Go.Proofs.Ytglbemdeboaheaa.Rf
