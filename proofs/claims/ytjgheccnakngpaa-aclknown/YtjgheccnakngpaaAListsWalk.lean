/-
  The law AclLists answers true: any list, any term, any user: the list with it, without it, what a user may, or why not.
-/
import Derived.Test.YtjgheccnakngpaaASteps
namespace Go.Proofs.Ytjgheccnakngpaa.A
open Go.ChangeShapes Go.WideShapes Go.ChangeAt Go.RowKit
open Go.Proofs.Ytjgheccnakngpaa.N

theorem may_is {b : Bool} (a : Option Addr) (c : Nat) (l : List Tm) (w : World) (hr : TRow w a c l) (hl : ∀ t ∈ l, t.1.length ≤ maxLen) (hb : lmay l = b) :
    Calls Try.prog 12 #[.slice a l.length c] w fun e w' => e = .returned (.bool b) ∧ Below w.heap.size w w' := by
  subst hb; exact may_any a c l w hr hl
theorem listMay_is {b : Bool} (a : Option Addr) (c : Nat) (l : List Tm) (w : World) (hr : TRow w a c l) (hl : ∀ t ∈ l, t.1.length ≤ maxLen) (hb : lmay l = b) :
    Calls Try.prog 13 #[.slice a l.length c] w fun e w' => e = .returned (.bool b) ∧ ∃ n, w' = w.drewN n := by
  subst hb; exact listMay_any a c l w hr hl
theorem set_is {n : Int} {m : List Tm} (a : Option Addr) (c : Nat) (l : List Tm) (t : Tm) (w : World) (hr : TRow w a c l) (hl : ∀ t ∈ l, t.1.length ≤ maxLen) (ht : t.1.length ≤ maxLen) (hn : setE l t = n) (hm : setR l t = m) :
    Calls Try.prog 10 #[.slice a l.length c, TV t] w fun e w' => ∃ a' c', e = .returned (.tuple #[.slice a' m.length c', .int .i64 n]) ∧ TRow w' a' c' m ∧ Below w.heap.size w w' := by
  subst hn hm; exact set_any a c l t w hr hl ht
theorem refSet_is {n : Int} {m : List Tm} (a : Option Addr) (c : Nat) (l : List Tm) (t : Tm) (w : World) (hr : TRow w a c l) (hl : ∀ t ∈ l, t.1.length ≤ maxLen) (ht : t.1.length ≤ maxLen) (hn : setE l t = n) (hm : setR l t = m) :
    Calls Try.prog 11 #[.slice a l.length c, TV t] w fun e w' => ∃ a' c', e = .returned (.tuple #[.slice a' m.length c', .int .i64 n]) ∧ TRow w' a' c' m ∧ Below w.heap.size w w' := by
  subst hn hm; exact refSet_any a c l t w hr hl ht
theorem drop_is {n : Int} {m : List Tm} (a : Option Addr) (c : Nat) (l : List Tm) (u : List UInt8) (w : World) (hr : TRow w a c l) (hl : ∀ t ∈ l, t.1.length ≤ maxLen) (hn : dropE l u = n) (hm : dropR l u = m) :
    Calls Try.prog 17 #[.slice a l.length c, .string (bs u)] w fun e w' => ∃ a' c', e = .returned (.tuple #[.slice a' m.length c', .int .i64 n]) ∧ TRow w' a' c' m ∧ Below w.heap.size w w' := by
  subst hn hm; exact drop_any a c l u w hr hl
theorem find_is {f : Fl} (a : Option Addr) (c : Nat) (l : List Tm) (u : List UInt8) (w : World) (hr : TRow w a c l) (hl : ∀ t ∈ l, t.1.length ≤ maxLen) (hf : findR l u = f) :
    Calls Try.prog 15 #[.slice a l.length c, .string (bs u)] w fun e w' => e = .returned (.agg #[.bool f.1, .bool f.2.1, .bool f.2.2]) ∧ Below w.heap.size w w' := by
  subst hf; exact find_any a c l u w hr hl
theorem refFind_is {f : Fl} (a : Option Addr) (c : Nat) (l : List Tm) (u : List UInt8) (w : World) (hr : TRow w a c l) (hl : ∀ t ∈ l, t.1.length ≤ maxLen) (hf : findR l u = f) :
    Calls Try.prog 16 #[.slice a l.length c, .string (bs u)] w fun e w' => e = .returned (.agg #[.bool f.1, .bool f.2.1, .bool f.2.2]) ∧ Below w.heap.size w w' := by
  subst hf; exact refFind_any a c l u w hr hl
theorem neq_own (f : Fl) (w : World) : (binOp .neq 24 (.agg #[.bool f.1, .bool f.2.1, .bool f.2.2]) (.agg #[.bool f.1, .bool f.2.1, .bool f.2.2])).run Try.prog w = .ok (.bool false) w := by
  rw [neq_flags]; simp

theorem as_bs {s : ByteArray} (h : s.size ≤ maxLen) : ∃ u, s = bs u ∧ u.length ≤ maxLen := ⟨s.data.toList, (bs_of s).symm, by rw [size_len]; exact h⟩

theorem drop_ways (l : List Tm) (u : List UInt8) : (lmay l = false ∧ dropE l u = 1 ∧ dropR l u = []) ∨ (lmay l = true ∧ dropE l u = 4 ∧ dropR l u = [] ∧ (dropL l u).length = l.length) ∨ (lmay l = true ∧ dropE l u = 0 ∧ dropR l u = dropL l u ∧ ¬ (dropL l u).length = l.length) := by
  cases h : lmay l with
  | false => exact Or.inl ⟨rfl, dropE_may h, dropR_may h⟩
  | true =>
    cases h1 : there l u with
    | false => exact Or.inr (Or.inl ⟨rfl, dropE_none h h1, dropR_none h h1, dropL_len.2 h1⟩)
    | true => exact Or.inr (Or.inr ⟨rfl, dropE_yes h h1, dropR_yes h h1, fun e => by rw [dropL_len.1 e] at h1; cases h1⟩)

set_option maxHeartbeats 1000000 in
theorem lists_small (a : Option Addr) (c : Nat) (l : List Tm) (t : Tm) (u : List UInt8) (w : World) (hr : TRow w a c l) (hm : l.length ≤ maxLen) (ht : t.1.length ≤ maxLen) (hu : u.length ≤ maxLen) (h : small l = false ∨ 100 < t.1.length ∨ 100 < u.length) :
    Calls Try.prog 3 #[.slice a l.length c, TV t, .string (bs u)] w fun e w' => e = .returned (.bool true) ∧ Below w.heap.size w w' := by
  have HR := Lib.hid (hr.alloc (TO t))
  have HT := Lib.hid (Box.new w t)
  have HM := Lib.hid hm
  have z1 := bs_size t.1
  have z2 := bs_size u
  clear hr hm
  unfold maxLen at ht hu
  cases hs : small l with
  | false =>
    have HS := Lib.hid hs
    clear hs h
    go_enter Try.func3, Try.ntmps3
    go_wp2_with (first
      | (go_at_call 8; refine (awake_any _).mono ?_; rintro e w0 ⟨rfl, h0⟩)
      | (go_at_call 9; refine (small_is _ _ l _ (HR.out.below h0) HM.out HS.out).mono ?_; rintro e w1 ⟨rfl, rfl⟩))
    go_ret
    exact ⟨rfl, bel2 (one_new _ _) h0⟩
  | true =>
    have HS := Lib.hid hs
    rw [hs] at h
    clear hs
    by_cases h1 : 100 < t.1.length
    · clear h
      go_enter Try.func3, Try.ntmps3
      go_wp2_with (first
        | (go_at_call 8; refine (awake_any _).mono ?_; rintro e w0 ⟨rfl, h0⟩; obtain ⟨y0, k0, k1, k2, k3⟩ := (HT.out.go h0).facts)
        | (go_at_call 9; refine (small_is _ _ l _ (HR.out.below h0) HM.out HS.out).mono ?_; rintro e w1 ⟨rfl, rfl⟩))
      go_ret
      exact ⟨rfl, bel2 (one_new _ _) h0⟩
    · have h2 : 100 < u.length := by
        rcases h with h | h | h
        · cases h
        · exact absurd h h1
        · exact h
      clear h
      go_enter Try.func3, Try.ntmps3
      go_wp2_with (first
        | (go_at_call 8; refine (awake_any _).mono ?_; rintro e w0 ⟨rfl, h0⟩; obtain ⟨y0, k0, k1, k2, k3⟩ := (HT.out.go h0).facts)
        | (go_at_call 9; refine (small_is _ _ l _ (HR.out.below h0) HM.out HS.out).mono ?_; rintro e w1 ⟨rfl, rfl⟩))
      go_ret
      exact ⟨rfl, bel2 (one_new _ _) h0⟩

set_option maxHeartbeats 4000000 in
theorem lists_walk (a : Option Addr) (c : Nat) (l : List Tm) (t : Tm) (u : List UInt8) (w : World) (hr : TRow w a c l) (hm : l.length ≤ maxLen) (hl : ∀ t ∈ l, t.1.length ≤ maxLen) (ht : t.1.length ≤ maxLen) (hu : u.length ≤ maxLen) :
    Calls Try.prog 3 #[.slice a l.length c, TV t, .string (bs u)] w fun e w' => e = .returned (.bool true) ∧ Below w.heap.size w w' := by
  by_cases hsm : small l = false ∨ 100 < t.1.length ∨ 100 < u.length
  · exact lists_small a c l t u w hr hm ht hu hsm
  have hs : small l = true := by cases h : small l with | true => rfl | false => exact absurd (Or.inl h) hsm
  have hT : ¬ 100 < t.1.length := fun h => hsm (Or.inr (Or.inl h))
  have hU : ¬ 100 < u.length := fun h => hsm (Or.inr (Or.inr h))
  clear hsm
  have HL := Lib.hid hl
  have HR := Lib.hid (hr.alloc (TO t))
  have HB := Lib.hid (Box.new w t)
  have HM := Lib.hid hm
  have HS := Lib.hid hs
  have HX := Lib.hid ht
  have h100 := small_le hs
  have z1 := bs_size t.1
  have z2 := bs_size u
  clear hl hr hm hs ht hu
  obtain ⟨n, hn⟩ : ∃ n, setE l t = n := ⟨_, rfl⟩
  obtain ⟨m, hmm⟩ : ∃ m, setR l t = m := ⟨_, rfl⟩
  have hmlen : m.length ≤ 16 := hmm ▸ (lmay_parts (setR_may (l := l) (t := t))).1
  obtain ⟨f, hf⟩ : ∃ f, findR l u = f := ⟨_, rfl⟩
  have hneq := neq_own f
  have gf := guard_flags
  have N1 := Lib.hid hn
  have M1 := Lib.hid hmm
  have F1 := Lib.hid hf
  have enn : (n == n) = true := beq_self_eq_true _
  clear hn hmm hf
  obtain ⟨b, dn, z, hb, hd, hz, W⟩ : ∃ b dn z, lmay l = b ∧ dropE l u = dn ∧ dropR l u = z ∧ Hid (b = false ∧ dn = 1 ∧ z = [] ∨ (b = true ∧ dn = 4 ∧ z = [] ∧ (((dropL l u).length : Int) == (l.length : Int)) = true) ∨ (b = true ∧ dn = 0 ∧ z = dropL l u ∧ (((dropL l u).length : Int) == (l.length : Int)) = false)) := by
    rcases drop_ways l u with ⟨h1, h2, h3⟩ | ⟨h1, h2, h3, h4⟩ | ⟨h1, h2, h3, h4⟩
    · exact ⟨_, _, _, h1, h2, h3, Lib.hid (Or.inl ⟨rfl, rfl, rfl⟩)⟩
    · exact ⟨_, _, _, h1, h2, h3, Lib.hid (Or.inr (Or.inl ⟨rfl, rfl, rfl, by simp; omega⟩))⟩
    · exact ⟨_, _, _, h1, h2, h3, Lib.hid (Or.inr (Or.inr ⟨rfl, rfl, rfl, by simp; omega⟩))⟩
  have B1 := Lib.hid hb
  have D1 := Lib.hid hd
  have Z1 := Lib.hid hz
  have ebb : (b == b) = true := beq_self_eq_true _
  clear hb hd hz
  go_enter Try.func3, Try.ntmps3
  go_wp2_with (first
    | (go_at_call 8; refine (awake_any _).mono ?_; rintro e w0 ⟨rfl, h0⟩; have HB0 := Lib.hid (HB.out.go h0); have HR0 := Lib.hid (HR.out.below h0); obtain ⟨y0, k0, k1, k2, k3⟩ := HB0.out.facts)
    | (go_at_call 9; refine (small_is _ _ l _ HR0.out HM.out HS.out).mono ?_; rintro e w1 ⟨rfl, rfl⟩)
    | (go_at_call 10; refine (set_is _ _ l t _ HR0.out HL.out HX.out N1.out M1.out).mono ?_; rintro e w2 ⟨a2, c2, rfl, hx, h2⟩; have HX2 := Lib.hid hx; have HB2 := Lib.hid (HB0.out.go h2); have HR2 := Lib.hid (HR0.out.below h2); clear hx; obtain ⟨y2, p0, p1, p2, p3⟩ := HB2.out.facts)
    | (go_at_call 11; refine (refSet_is _ _ l t _ HR2.out HL.out HX.out N1.out M1.out).mono ?_; rintro e w3 ⟨a3, c3, rfl, hx, h3⟩; have HY3 := Lib.hid hx; have HX3 := Lib.hid (HX2.out.below h3); have HB3 := Lib.hid (HB2.out.go h3); have HR3 := Lib.hid (HR2.out.below h3); clear hx)
    | (go_at_call 12; refine (may_is _ _ l _ HR3.out HL.out B1.out).mono ?_; rintro e w4 ⟨rfl, h4⟩; have HY4 := Lib.hid (HY3.out.below h4); have HX4 := Lib.hid (HX3.out.below h4); have HB4 := Lib.hid (HB3.out.go h4); have HR4 := Lib.hid (HR3.out.below h4))
    | (go_at_call 13; refine (listMay_is _ _ l _ HR4.out HL.out B1.out).mono ?_; rintro e w5 ⟨rfl, n5, rfl⟩)
    | (go_at_call 14; refine (same_is _ _ _ _ _ _ _ (HX4.out.drewN _) (HY4.out.drewN _) (by omega) rfl).mono ?_; rintro e w6 ⟨rfl, n6, rfl⟩)
    | (go_at_call 15; refine (find_is _ _ l u _ (HR4.out.drewN _) HL.out F1.out).mono ?_; rintro e w7 ⟨rfl, h7⟩; have HB7 := Lib.hid (HB4.out.go (bel2 (below_drewN _ _) h7)); have HR7 := Lib.hid ((HR4.out.drewN _).below h7))
    | (go_at_call 16; refine (refFind_is _ _ l u _ HR7.out HL.out F1.out).mono ?_; rintro e w8 ⟨rfl, h8⟩; have HB8 := Lib.hid (HB7.out.go h8); have HR8 := Lib.hid (HR7.out.below h8))
    | (go_at_call 17; refine (drop_is _ _ l u _ HR8.out HL.out D1.out Z1.out).mono ?_; rintro e w9 ⟨a9, c9, rfl, hx, h9⟩; have HZ9 := Lib.hid hx; have HB9 := Lib.hid (HB8.out.go h9); have HR9 := Lib.hid (HR8.out.below h9); clear hx))
  have hB := Lib.hid HB9.out.1
  clear HB HB0 HB2 HB3 HB4 HB7 HB8 HR HR0 HR2 HR3 HR4 HR7 HR8 k0 k1 k2 k3 p0 p1 p2 p3 HX2 HX3 HX4 HY3 HY4 h0 h2 h3 h4 h7 h8 h9 HB9
  go_loopw [13, 14] (fun v i V => ∃ k : Nat, k ≤ l.length ∧ i = .int .i64 k ∧ Hid (SetL w9 V v (dropL (l.take k) u))) (fun _ i _ => l.length - (intOf i).toNat)
  case atStart => exact ⟨0, Nat.zero_le _, rfl, Lib.hid ⟨Below.refl _ _, by rw [dropL_zero]; exact Own.nil _ _⟩⟩
  case round =>
    obtain ⟨k, hk, rfl, hS⟩ := hrel
    have hlen := dropL_le l u k
    by_cases hlt : k < l.length
    · obtain ⟨bk, o, rfl, hbk, c0, c1, c2, c3⟩ := (HR9.out.below hS.out.bel).at_ hlt
      by_cases hu : l[k].1 = u
      · have e1 := txt_same hu
        have P := Lib.hid (dropL_skip hlt hu)
        clear hu
        go_wp2
        go_roundw
        case rel => exact ⟨k + 1, by omega, by go_num, Lib.hid (by rw [P.out]; exact hS.out)⟩
        case measure => simp [intOf]; omega
      · have e1 := txt_other hu
        have P := Lib.hid (dropL_step hlt hu)
        clear hu
        go_wp2_with (at_builtin; refine wpList_terms rfl (.tmp 88) (.tmp 93) rfl rfl (hS.out.own.alloc _) _ _ [l[k]] rfl (TRow.one _ l[k]) (by simp; omega) (by have := hS.out.bel.size; simp; omega) ?_; intro v' w' h1 h2; have H1 := Lib.hid (hS.out.put0 h1 h2); clear h1 h2)
        go_roundw
        case rel => exact ⟨k + 1, by omega, by go_num, Lib.hid (by rw [P.out]; exact H1.out)⟩
        case measure => simp [intOf]; omega
    · obtain rfl : k = l.length := by omega
      rw [List.take_length] at hS hlen
      obtain ⟨av, cv, rfl, hrow⟩ := hS.out.own.row
      have HV := Lib.hid hrow
      have HR10 := Lib.hid (HR9.out.below hS.out.bel)
      have HZ10 := Lib.hid (HZ9.out.below hS.out.bel)
      clear hrow
      rcases W.out with ⟨rfl, rfl, rfl⟩ | ⟨rfl, rfl, rfl, e5⟩ | ⟨rfl, rfl, rfl, e5⟩
      all_goals
        clear W
        go_wp2_with (first
          | (go_at_call 13; refine (listMay_is _ _ l _ HR10.out HL.out B1.out).mono ?_; rintro e w11 ⟨rfl, n11, rfl⟩)
          | (go_at_call 14; refine (same_is _ _ _ _ _ _ _ (HZ10.out.drewN _) (HV.out.drewN _) (by omega) rfl).mono ?_; rintro e w12 ⟨rfl, n12, rfl⟩))
        go_ret
        exact ⟨rfl, bel2 (bel2 hB.out hS.out.bel) (below_drewN _ _)⟩

end Go.Proofs.Ytjgheccnakngpaa.A
