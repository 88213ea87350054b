/-
  The law AclDrops answers true: one that is set and dropped leaves the list as it was without; dropped twice it is not there.
-/
import Derived.Test.YtjgheccnakngpaaASteps
namespace Go.Proofs.Ytjgheccnakngpaa.A
open Go.ChangeShapes Go.WideShapes Go.ChangeAt Go.RowKit
open Go.Proofs.Ytjgheccnakngpaa.N

theorem drop_facts {l : List Tm} {t : Tm} (h : setE l t = 0) : dropE (setL l t) t.1 = 0 ∧ dropL (setL l t) t.1 = dropL l t.1 ∧ dropE (dropL l t.1) t.1 = 4 :=
  ⟨dropE_yes (setL_may h) (setL_there l t), dropL_setL (lmay_parts (setE_zero h).1).2.2, dropE_none (dropL_may (setE_zero h).1) (dropL_there l t.1)⟩

set_option maxHeartbeats 4000000 in
theorem drops_walk (a : Option Addr) (c : Nat) (l : List Tm) (t : Tm) (w : World) (hr : TRow w a c l) (hm : l.length ≤ maxLen) (hl : ∀ t ∈ l, t.1.length ≤ maxLen) (ht : t.1.length ≤ maxLen) :
    Calls Try.prog 6 #[.slice a l.length c, TV t] w fun e w' => e = .returned (.bool true) ∧ Below w.heap.size w w' := by
  have HL := Lib.hid hl
  have HR := Lib.hid (hr.alloc (TO t))
  have HT := Lib.hid (Box.new w t)
  have HM := Lib.hid hm
  clear hl hr hm
  cases hs : small l with
  | false =>
    have HS := Lib.hid hs
    clear hs
    go_enter Try.func6, Try.ntmps6
    go_wp2_with (first
      | (go_at_call 8; refine (awake_any _).mono ?_; rintro e w0 ⟨rfl, h0⟩)
      | (go_at_call 9; refine (small_is _ _ l _ (HR.out.below h0) HM.out HS.out).mono ?_; rintro e w1 ⟨rfl, rfl⟩))
    go_ret
    exact ⟨rfl, bel2 (one_new _ _) h0⟩
  | true =>
    have HS := Lib.hid hs
    have h100 := small_le hs
    clear hs
    by_cases hE : setE l t = 0
    case neg =>
      have HE := Lib.hid hE
      clear hE
      go_enter Try.func6, Try.ntmps6
      go_wp2_with (first
        | (go_at_call 8; refine (awake_any _).mono ?_; rintro e w0 ⟨rfl, h0⟩; obtain ⟨y0, k0, k1, k2, k3⟩ := (HT.out.go h0).facts)
        | (go_at_call 9; refine (small_is _ _ l _ (HR.out.below h0) HM.out HS.out).mono ?_; rintro e w1 ⟨rfl, rfl⟩)
        | (go_at_call 10; refine (set_bad _ _ l t _ (HR.out.below h0) HL.out ht HE.out).mono ?_; rintro e w2 ⟨a2, c2, n2, rfl, hn2, h2⟩))
      go_ret
      exact ⟨rfl, bel2 (bel2 (one_new _ _) h0) h2⟩
    obtain ⟨d1, d2, d3⟩ := drop_facts hE
    have HE := Lib.hid hE
    have D1 := Lib.hid d1
    have D2 := Lib.hid d2
    have D3 := Lib.hid d3
    have SZ := Lib.hid (setL_sz HL.out ht)
    have DZ := Lib.hid (dropL_sz (u := t.1) HL.out)
    clear hE d1 d2 d3
    go_enter Try.func6, Try.ntmps6
    go_wp2_with (first
      | (go_at_call 8; refine (awake_any _).mono ?_; rintro e w0 ⟨rfl, h0⟩; have HT0 := Lib.hid (HT.out.go h0); have HR0 := Lib.hid (HR.out.below h0); obtain ⟨y0, k0, k1, k2, k3⟩ := HT0.out.facts)
      | (go_at_call 9; refine (small_is _ _ l _ HR0.out HM.out HS.out).mono ?_; rintro e w1 ⟨rfl, rfl⟩)
      | (go_at_call 10; refine (set_ok _ _ l t _ HR0.out HL.out ht HE.out).mono ?_; rintro e w2 ⟨a2, c2, rfl, hx, h2⟩; have HX := Lib.hid hx; have HT2 := Lib.hid (HT0.out.go h2); have HR2 := Lib.hid (HR0.out.below h2); clear hx; obtain ⟨y2, p0, p1, p2, p3⟩ := HT2.out.facts)
      | (go_at_call 17; with_reducible refine (drop_ok _ _ (setL l t) t.1 _ HX.out SZ.out D1.out D2.out).mono ?_; rintro e w3 ⟨a3, c3, rfl, hx, h3⟩; have HY := Lib.hid hx; have HT3 := Lib.hid (HT2.out.go h3); have HR3 := Lib.hid (HR2.out.below h3); clear hx; obtain ⟨y3, q0, q1, q2, q3⟩ := HT3.out.facts)
      | (go_at_call 17; with_reducible refine (drop_bad _ _ (dropL l t.1) t.1 _ HY.out DZ.out D3.out (by decide)).mono ?_; rintro e w4 ⟨a4, c4, rfl, h4⟩; have HT4 := Lib.hid (HT3.out.go h4); have HR4 := Lib.hid (HR3.out.below h4); have HY4 := Lib.hid (HY.out.below h4)))
    have hB := Lib.hid HT4.out.1
    clear HT HT0 HT2 HT3 HR HR0 HR2 HR3 k0 k1 k2 k3 p0 p1 p2 p3 q0 q1 q2 q3 HX HY h0 h2 h3 h4
    go_loopw [11, 12] (fun v i W => ∃ k : Nat, k ≤ l.length ∧ i = .int .i64 k ∧ Hid (SetL w4 W v (dropL (l.take k) t.1))) (fun _ i _ => l.length - (intOf i).toNat)
    case atStart => exact ⟨0, Nat.zero_le _, rfl, Lib.hid ⟨Below.refl _ _, by rw [dropL_zero]; exact Own.nil _ _⟩⟩
    case round =>
      obtain ⟨k, hk, rfl, hS⟩ := hrel
      obtain ⟨y5, m0, m1, m2, m3⟩ := (HT4.out.go hS.out.bel).facts
      have hlen := dropL_le l t.1 k
      by_cases hlt : k < l.length
      · obtain ⟨bk, o, rfl, hbk, c0, c1, c2, c3⟩ := (HR4.out.below hS.out.bel).at_ hlt
        by_cases hu : l[k].1 = t.1
        · have e1 := txt_same hu
          have P := Lib.hid (dropL_skip hlt hu)
          clear hu
          go_wp2
          go_quiet (fail)
          go_wp2
          go_roundw
          case rel => exact ⟨k + 1, by omega, by go_num, Lib.hid (by rw [P.out]; exact hS.out.drewN _)⟩
          case measure => simp [intOf]; omega
        · have e1 := txt_other hu
          have P := Lib.hid (dropL_step hlt hu)
          clear hu
          go_wp2
          go_quiet (fail)
          go_wp2_with (at_builtin; refine wpList_terms rfl (.tmp 54) (.tmp 59) rfl rfl ((hS.out.own.drewN _).alloc _) _ _ [l[k]] rfl (TRow.one _ l[k]) (by simp; omega) (by have := hS.out.bel.size; simp; omega) ?_; intro v' w' h1 h2; have H1 := Lib.hid ((hS.out.drewN _).put0 h1 h2); clear h1 h2)
          go_roundw
          case rel => exact ⟨k + 1, by omega, by go_num, Lib.hid (by rw [P.out]; exact H1.out)⟩
          case measure => simp [intOf]; omega
      · obtain rfl : k = l.length := by omega
        rw [List.take_length] at hS hlen
        obtain ⟨av, cv, rfl, hrow⟩ := hS.out.own.row
        have HV := Lib.hid hrow
        have HY5 := Lib.hid (HY4.out.below hS.out.bel)
        clear hrow
        go_wp2_with (go_at_call 14; refine (same_is _ _ _ _ _ _ _ HY5.out HV.out (by omega) rfl).mono ?_; rintro e w6 ⟨rfl, n6, rfl⟩)
        go_ret
        exact ⟨rfl, bel2 (bel2 hB.out hS.out.bel) (below_drewN _ _)⟩

end Go.Proofs.Ytjgheccnakngpaa.A
