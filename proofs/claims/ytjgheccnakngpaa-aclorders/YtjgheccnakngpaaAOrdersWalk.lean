/-
  The law AclOrders answers true: in whatever order terms of unlike users are set, the list is one.
-/
import Derived.Test.YtjgheccnakngpaaAOrdersMath
namespace Go.Proofs.Ytjgheccnakngpaa.A
open Go.ChangeShapes Go.WideShapes Go.ChangeAt Go.RowKit
open Go.Proofs.Ytjgheccnakngpaa.N

theorem userMay_is {b : Bool} (u : List UInt8) (w : World) (hs : u.length ≤ maxLen) (hb : may 16 u = b) :
    Calls Try.prog 18 #[.string (bs u)] w fun e w' => e = .returned (.bool b) ∧ w' = w := by
  have := userMay_any (bs u) w (by rw [bs_size]; exact hs)
  rw [bs_data, hb] at this
  exact this

theorem user_three (u : List UInt8) : (((bs u).toList == [42]) = true ∧ may 16 u = true) ∨ (((bs u).toList == [42]) = false ∧ may 16 u = true) ∨ (((bs u).toList == [42]) = false ∧ may 16 u = false) := by
  rcases user_ways u with h | ⟨h, _⟩
  · exact Or.inl h
  · cases k : may 16 u with
    | true => exact Or.inr (Or.inl ⟨h, rfl⟩)
    | false => exact Or.inr (Or.inr ⟨h, rfl⟩)

theorem may_yes (a : Option Addr) (c : Nat) (l : List Tm) (w : World) (hr : TRow w a c l) (hl : ∀ t ∈ l, t.1.length ≤ maxLen) (hb : lmay l = true) :
    Calls Try.prog 12 #[.slice a l.length c] w fun e w' => e = .returned (.bool true) ∧ Below w.heap.size w w' := by
  rw [← hb]; exact may_any a c l w hr hl
theorem setAll_sz {r : List Tm} (hr : Unlike r) (h16 : r.length ≤ 16) (hz : ∀ t ∈ r, t.1.length ≤ maxLen) {k : Nat} (hk : k ≤ r.length) : ∀ t ∈ setAll (r.take k), t.1.length ≤ maxLen := fun t ht => hz t (List.mem_of_mem_take (((laid_take hr h16 k hk).mem t).1 ht))
theorem set_turn {r : List Tm} (hr : Unlike r) (h16 : r.length ≤ 16) (hz : ∀ t ∈ r, t.1.length ≤ maxLen) {k : Nat} (hk : k < r.length) {t : Tm} (ht : r[k] = t) (a : Option Addr) (c : Nat) (w : World) (h : TRow w a c (setAll (r.take k))) :
    Calls Try.prog 10 #[.slice a (setAll (r.take k)).length c, TV t] w fun e w' => ∃ a' c', e = .returned (.tuple #[.slice a' (setAll (r.take (k + 1))).length c', .int .i64 0]) ∧ TRow w' a' c' (setAll (r.take (k + 1))) ∧ Below w.heap.size w w' := by
  subst ht
  obtain ⟨s1, s2⟩ := set_next hr h16 hk
  have := set_ok a c _ r[k] w h (setAll_sz hr h16 hz (by omega)) (hz _ (List.getElem_mem _)) s1
  rw [s2] at this
  exact this

set_option maxRecDepth 4000 in
set_option maxHeartbeats 4000000 in
theorem orders_walk (a : Option Addr) (c : Nat) (l : List Tm) (n : Nat) (w : World) (hr : TRow w a c l) (hm : l.length ≤ maxLen) (hl : ∀ t ∈ l, t.1.length ≤ maxLen) (hn : n < 256) :
    Calls Try.prog 7 #[.slice a l.length c, .int .u8 n] w fun e w' => e = .returned (.bool true) ∧ Below w.heap.size w w' := by
  have HL := Lib.hid hl
  have HR := Lib.hid hr
  have HM := Lib.hid hm
  clear hl hr
  unfold maxLen at hm
  by_cases h0 : l.length = 0
  · go_enter Try.func7, Try.ntmps7
    go_wp2_with (go_at_call 8; refine (awake_any _).mono ?_; rintro e w0 ⟨rfl, hb0⟩)
    go_ret
    exact ⟨rfl, hb0⟩
  by_cases h16 : 16 < l.length
  · go_enter Try.func7, Try.ntmps7
    go_wp2_with (go_at_call 8; refine (awake_any _).mono ?_; rintro e w0 ⟨rfl, hb0⟩)
    go_ret
    exact ⟨rfl, hb0⟩
  cases hs : small l with
  | false =>
    have HS := Lib.hid hs
    clear hs
    go_enter Try.func7, Try.ntmps7
    go_wp2_with (first
      | (go_at_call 8; refine (awake_any _).mono ?_; rintro e w0 ⟨rfl, hb0⟩)
      | (go_at_call 9; refine (small_is _ _ l _ (HR.out.below hb0) HM.out HS.out).mono ?_; rintro e w1 ⟨rfl, rfl⟩))
    go_ret
    exact ⟨rfl, hb0⟩
  | true =>
    have HS := Lib.hid hs
    have e0 : ((l.length : Int) == 0) = false := beq_eq_false_iff_ne.2 (by omega)
    clear hs
    go_enter Try.func7, Try.ntmps7
    go_wp2_with (first
      | (go_at_call 8; refine (awake_any _).mono ?_; rintro e w0 ⟨rfl, hb0⟩; have HR0 := Lib.hid (HR.out.below hb0))
      | (go_at_call 9; refine (small_is _ _ l _ HR0.out HM.out HS.out).mono ?_; rintro e w1 ⟨rfl, rfl⟩))
    go_loopw [5, 6] (fun v i V => ∃ k : Nat, k ≤ l.length ∧ i = .int .i64 k ∧ Hid (SetL w1 V v (kept l k))) (fun _ i _ => l.length - (intOf i).toNat)
    case atStart => exact ⟨0, Nat.zero_le _, rfl, Lib.hid ⟨Below.refl _ _, Own.nil _ _⟩⟩
    case round =>
      obtain ⟨k, hk, rfl, hS⟩ := hrel
      have hlen := kept_len l k
      by_cases hlt : k < l.length
      · obtain ⟨bk, o, rfl, hbk, c0, c1, c2, c3⟩ := (HR0.out.below hS.out.bel).at_ hlt
        have HW := Lib.hid (HR0.out.below hS.out.bel)
        have hsz : l[k].1.length ≤ maxLen := HL.out _ (List.getElem_mem _)
        rcases user_three l[k].1 with ⟨s1, s2⟩ | ⟨s1, s2⟩ | ⟨s1, s2⟩
        all_goals
          have HB := Lib.hid s2
          clear s2
          go_wp2_with (go_at_call 18; refine (userMay_is _ _ hsz HB.out).mono ?_; rintro e w2 ⟨rfl, e2⟩; subst w2)
          go_loopw [7, 8] (fun b j V => ∃ m q : Nat, m ≤ k ∧ j = .int .i64 m ∧ b = .bool (tw l l[k].1 m) ∧ V = wr.drewN q) (fun _ j _ => k - (intOf j).toNat)
          case atStart => exact ⟨0, 0, Nat.zero_le _, rfl, by rw [tw_zero, HB.out]; rfl, rfl⟩
          case round =>
            obtain ⟨m, q, hmk, rfl, rfl, rfl⟩ := hrel
            by_cases hml : m < k
            · have hml' : m < l.length := by omega
              obtain ⟨bk', o', e', hbk', d0, d1, d2, d3⟩ := HW.out.at_ hml'
              cases e'
              have e1 := bs_beq l[m].1 l[k].1
              have P := Lib.hid (tw_step (u := l[k].1) hml')
              cases hp : tw l l[k].1 m with
              | true =>
                have HP := Lib.hid hp
                clear hp
                go_wp2
                go_quiet (fail)
                go_wp2
                go_roundw
                case rel => exact ⟨m + 1, q + nq, by omega, by go_num, by rw [P.out, HP.out]; rfl, by first | rfl | rw [World.drewN_drewN]⟩
                case measure => simp [intOf]; omega
              | false =>
                have HP := Lib.hid hp
                clear hp
                go_wp2
                go_quiet (fail)
                go_wp2
                go_roundw
                case rel => exact ⟨m + 1, q + nq, by omega, by go_num, by rw [P.out, HP.out]; rfl, by first | rfl | rw [World.drewN_drewN]⟩
                case measure => simp [intOf]; omega
            · have e3 : m = k := by omega
              subst m
              clear hmk hml
              cases hp : tw l l[k].1 k with
              | true =>
                have P := Lib.hid (kept_no hlt hp)
                clear hp
                go_wp2
                go_roundw
                case rel => exact ⟨k + 1, by omega, by go_num, Lib.hid (by rw [P.out]; exact hS.out.drewN _)⟩
                case measure => simp [intOf]; omega
              | false =>
                have P := Lib.hid (kept_yes hlt hp)
                clear hp
                go_wp2_with (at_builtin; refine wpList_terms rfl (.tmp 73) (.tmp 78) rfl rfl ((hS.out.own.drewN _).alloc _) _ _ [l[k]] rfl (TRow.one _ l[k]) (by simp; omega) (by have := hS.out.bel.size; simp; omega) ?_; intro v' w' h1 h2; have H1 := Lib.hid ((hS.out.drewN _).put0 h1 h2); clear h1 h2)
                go_roundw
                case rel => exact ⟨k + 1, by omega, by go_num, Lib.hid (by rw [P.out]; exact H1.out)⟩
                case measure => simp [intOf]; omega
      · obtain rfl : k = l.length := by omega
        obtain ⟨av, cv, rfl, hrow⟩ := hS.out.own.row
        have hU := (kept_unlike l l.length (Nat.le_refl _)).1
        have hU2 := (kept_unlike l l.length (Nat.le_refl _)).2
        obtain ⟨r, hr⟩ : ∃ r, kept l l.length = r := ⟨_, rfl⟩
        rw [hr] at hrow hU hU2 hlen
        rw [hr]
        have hr16 : r.length ≤ 16 := by omega
        have HV := Lib.hid hrow
        have HU := Lib.hid hU
        have HZ := Lib.hid (show ∀ t ∈ r, t.1.length ≤ maxLen from fun t ht => HL.out t (hU2 t ht).2)
        have HB := Lib.hid (bel2 hb0 hS.out.bel)
        clear hr hrow hU hU2 hS HR HR0 hb0
        have HT := Lib.hid (turned_unlike (t := n) HU.out)
        have HY := Lib.hid (show ∀ t ∈ turned r n, t.1.length ≤ maxLen from fun t ht => HZ.out t ((turned_mem t).1 ht))
        have hql := turned_len r n
        go_wp2
        go_loopw [9, 10, 11] (fun x y i V => ∃ (k : Nat) (a1 a2 : Option Addr) (c1 c2 : Nat), k ≤ r.length ∧ i = .int .i64 k ∧ x = .slice a1 (setAll (r.take k)).length c1 ∧ y = .slice a2 (setAll ((turned r n).take k)).length c2 ∧ Hid (TRow V a1 c1 (setAll (r.take k))) ∧ Hid (TRow V a2 c2 (setAll ((turned r n).take k))) ∧ Hid (Below wr.heap.size wr V)) (fun _ _ i _ => r.length - (intOf i).toNat)
        case atStart => exact ⟨0, none, none, 0, 0, Nat.zero_le _, rfl, rfl, rfl, Lib.hid (TRow.nil _), Lib.hid (TRow.nil _), Lib.hid (Below.refl _ _)⟩
        case round =>
          obtain ⟨k, a1, a2, c1, c2, hk, rfl, rfl, rfl, h1, h2, h3⟩ := hrel
          by_cases hlt : k < r.length
          · have hlt' : k < (turned r n).length := by omega
            have hq : (r.length - 1 - k + n) % r.length < r.length := Nat.mod_lt _ (by omega)
            have hq0 : 0 ≤ ((r.length : Int) - 1 - k + n) % r.length := Int.emod_nonneg _ (by omega)
            have hq1 : ((r.length : Int) - 1 - k + n) % r.length < r.length := Int.emod_lt_of_pos _ (by omega)
            have TA := Lib.hid (show (turned r n)[k] = r[(r.length - 1 - k + n) % r.length] by
              rw [turned_at (t := n) hlt]
              congr 1
              unfold tau
              rw [show r.length - 1 + n - k = r.length - 1 - k + n by omega])
            have HVk := Lib.hid (HV.out.below h3.out)
            obtain ⟨bk, o, rfl, hbk, g0, g1, g2, g3⟩ := HVk.out.at_ hlt
            go_wp2_with (first
              | (go_at_call 10; ((with_reducible refine (set_turn HU.out hr16 HZ.out hlt rfl _ _ _ h1.out).mono ?_); rintro e w5 ⟨a5, c5, rfl, x5, b5⟩; have X5 := Lib.hid x5; have Y5 := Lib.hid (h2.out.below b5); clear x5; obtain ⟨_, _, e', hbk', q0, q1, q2, q3⟩ := (HVk.out.below b5).at_ hq; cases e'))
              | (go_at_call 10; ((with_reducible refine (set_turn HT.out (by omega) HY.out hlt' TA.out _ _ _ Y5.out).mono ?_); rintro e w6 ⟨a6, c6, rfl, x6, b6⟩; have X6 := Lib.hid (X5.out.below b6); have Y6 := Lib.hid x6; clear x6)))
            go_roundw
            case rel => exact ⟨k + 1, a5, a6, c5, c6, by omega, by go_num, rfl, rfl, X6, Y6, Lib.hid (bel2 (bel2 h3.out b5) b6)⟩
            case measure => simp [intOf]; omega
          · obtain rfl : k = r.length := by omega
            obtain ⟨o1, o2, o3⟩ := orders_one HU.out hr16 n
            have O1 := Lib.hid (o1.symm)
            have O2 := Lib.hid o2
            have O4 := Lib.hid (show ∀ t ∈ setAll r, t.1.length ≤ maxLen by have := setAll_sz HU.out hr16 HZ.out (Nat.le_refl _); rwa [List.take_length] at this)
            have ht1 : r.take r.length = r := List.take_length
            have ht2 : (turned r n).take r.length = turned r n := by rw [← hql, List.take_length]
            rw [ht1] at h1 ⊢
            rw [ht2] at h2 ⊢
            have O3 := Lib.hid (show (setAll r).length ≤ 1000000 by omega)
            have e9 : (((setAll r).length : Int) == (r.length : Int)) = true := by rw [o3]; exact beq_self_eq_true _
            clear o1 o2 o3 ht1 ht2
            go_wp2_with (first
              | (go_at_call 14; with_reducible refine (same_is a1 a2 c1 c2 (setAll r) (setAll (turned r n)) _ h1.out h2.out O3.out O1.out).mono ?_; rintro e w6 ⟨rfl, n6, rfl⟩)
              | (go_at_call 12; refine (may_yes _ _ (setAll r) _ (h1.out.drewN _) O4.out O2.out).mono ?_; rintro e w7 ⟨rfl, b7⟩))
            go_ret
            exact ⟨rfl, bel2 (bel2 (bel2 HB.out h3.out) (below_drewN _ _)) b7⟩

end Go.Proofs.Ytjgheccnakngpaa.A
