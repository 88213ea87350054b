/-
  The law AclSets answers true: whoever is set has just that; others have what they had; any is for those that are not named.
-/
import Derived.Test.YtjgheccnakngpaaAListsWalk
import Derived.Deep.RegionHeld3
namespace Go.Proofs.Ytjgheccnakngpaa.A
open Go.ChangeShapes Go.WideShapes Go.ChangeAt Go.RowKit
open Go.Proofs.Ytjgheccnakngpaa.N

theorem eql_own (f : Fl) (w : World) : (binOp .eql 24 (.agg #[.bool f.1, .bool f.2.1, .bool f.2.2]) (.agg #[.bool f.1, .bool f.2.1, .bool f.2.2])).run Try.prog w = .ok (.bool true) w := by
  rw [eql_flags]; simp

theorem there_zero (l : List Tm) (u : List UInt8) : there (l.take 0) u = false := by simp [there]
theorem there_step {l : List Tm} {u : List UInt8} {k : Nat} (hk : k < l.length) : there (l.take (k + 1)) u = (there (l.take k) u || decide (l[k].1 = u)) := by
  rw [List.take_succ_eq_append_getElem hk, there, List.any_append]
  simp [there]

theorem find_own {l : List Tm} {t : Tm} (h : setE l t = 0) : findR (setL l t) t.1 = t.2 := by
  simp [findR, setL_may h, look_setL (lmay_parts (setE_zero h).1).2.2]
theorem find_named {l : List Tm} {t : Tm} {u : List UInt8} (h : setE l t = 0) (hu : ¬ u = t.1) (hn : there l u = true) : findR (setL l t) u = findR l u := by
  have h1 := (setE_zero h).1
  have h2 := (lmay_parts h1).2.2
  simp only [findR, setL_may h, h1, look_setL h2, if_neg hu, look_at h2 hn]
  rfl
theorem find_other {l : List Tm} {t : Tm} {u : List UInt8} (h : setE l t = 0) (hu : ¬ u = t.1) (ht : ¬ t.1 = [42]) : findR (setL l t) u = findR l u := by
  have h1 := (setE_zero h).1
  have h2 := (lmay_parts h1).2.2
  simp only [findR, setL_may h, h1, look_setL h2, if_neg hu, if_neg (fun e => ht (Eq.symm e))]
theorem find_any_one {l : List Tm} {t : Tm} {u : List UInt8} (h : setE l t = 0) (hu : ¬ u = t.1) (ht : t.1 = [42]) (hn : there l u = false) : findR (setL l t) u = t.2 := by
  have h1 := (setE_zero h).1
  have h2 := (lmay_parts h1).2.2
  rw [ht] at hu
  simp [findR, setL_may h, look_setL h2, look_none hn, ht, hu]

/-- the ways of the law's last two questions -/
theorem set_ways {l : List Tm} {t : Tm} {u : List UInt8} (h : setE l t = 0) :
    (((bs u).toList == (bs t.1).toList) = true) ∨
    (((bs u).toList == (bs t.1).toList) = false ∧ ((bs t.1).toList == [42]) = false ∧ findR (setL l t) u = findR l u) ∨
    (((bs u).toList == (bs t.1).toList) = false ∧ ((bs t.1).toList == [42]) = true ∧ there l u = true ∧ findR (setL l t) u = findR l u) ∨
    (((bs u).toList == (bs t.1).toList) = false ∧ ((bs t.1).toList == [42]) = true ∧ there l u = false ∧ findR (setL l t) u = t.2) := by
  by_cases hu : u = t.1
  · exact Or.inl (txt_same hu)
  · by_cases ht : t.1 = [42]
    · have e : ((bs t.1).toList == [42]) = true := by rw [bs_toList, ht]; rfl
      cases hn : there l u with
      | true => exact Or.inr (Or.inr (Or.inl ⟨txt_other hu, e, rfl, find_named h hu hn⟩))
      | false => exact Or.inr (Or.inr (Or.inr ⟨txt_other hu, e, rfl, find_any_one h hu ht hn⟩))
    · exact Or.inr (Or.inl ⟨txt_other hu, by rw [bs_toList]; simpa using ht, find_other h hu ht⟩)

/-- what the law holds on to -/
@[reducible] def Sets (w : World) (a : Option Addr) (c : Nat) (l : List Tm) (a2 : Option Addr) (c2 : Nat) (x : List Tm) (t : Tm) (W : World) : Prop :=
  w.heap.size < W.heap.size ∧ W.cell? ⟨w.heap.size, 0, none⟩ = some (.string (bs t.1)) ∧ W.cell? ⟨w.heap.size, 1, none⟩ = some (.bool t.2.1) ∧ W.cell? ⟨w.heap.size, 2, none⟩ = some (.bool t.2.2.1) ∧ W.cell? ⟨w.heap.size, 3, none⟩ = some (.bool t.2.2.2) ∧ Box w W t ∧ TRow W a c l ∧ TRow W a2 c2 x
section
variable {w : World} {a : Option Addr} {c : Nat} {l : List Tm} {a2 : Option Addr} {c2 : Nat} {x : List Tm} {t : Tm} {W V : World}
theorem Sets.mk' (h : Box w W t) (h1 : TRow W a c l) (h2 : TRow W a2 c2 x) : Sets w a c l a2 c2 x t W := ⟨h.facts.1, h.facts.2.1, h.facts.2.2.1, h.facts.2.2.2.1, h.facts.2.2.2.2, h, h1, h2⟩
theorem Sets.go (h : Sets w a c l a2 c2 x t W) (hb : Below W.heap.size W V) : Sets w a c l a2 c2 x t V := Sets.mk' (h.2.2.2.2.2.1.go hb) (h.2.2.2.2.2.2.1.below hb) (h.2.2.2.2.2.2.2.below hb)
theorem Sets.drew (h : Sets w a c l a2 c2 x t W) : Sets w a c l a2 c2 x t W.drew := h.go (Below.refl _ _).drew
theorem Sets.bel (h : Sets w a c l a2 c2 x t W) : Below w.heap.size w W := h.2.2.2.2.2.1.1
end

set_option maxHeartbeats 4000000 in
theorem sets_walk (a : Option Addr) (c : Nat) (l : List Tm) (t : Tm) (u : List UInt8) (w : World) (hr : TRow w a c l) (hm : l.length ≤ maxLen) (hl : ∀ t ∈ l, t.1.length ≤ maxLen) (ht : t.1.length ≤ maxLen) (hu : u.length ≤ maxLen) :
    Calls Try.prog 4 #[.slice a l.length c, TV t, .string (bs u)] w fun e w' => e = .returned (.bool true) ∧ Below w.heap.size w w' := by
  have HL := Lib.hid hl
  have HR := Lib.hid (hr.alloc (TO t))
  have HT := Lib.hid (Box.new w t)
  have HM := Lib.hid hm
  have HX := Lib.hid ht
  have z2 := bs_size u
  clear hl hr hm
  unfold maxLen at hu
  cases hs : small l with
  | false =>
    have HS := Lib.hid hs
    clear hs
    go_enter Try.func4, Try.ntmps4
    go_wp2_with (first
      | (go_at_call 8; refine (awake_any _).mono ?_; rintro e w0 ⟨rfl, h0⟩)
      | (go_at_call 9; refine (small_is _ _ l _ (HR.out.below h0) HM.out HS.out).mono ?_; rintro e w1 ⟨rfl, rfl⟩))
    go_ret
    exact ⟨rfl, bel2 (one_new _ _) h0⟩
  | true =>
    have HS := Lib.hid hs
    have h100 := small_le hs
    clear hs
    by_cases hU : 100 < u.length
    · go_enter Try.func4, Try.ntmps4
      go_wp2_with (first
        | (go_at_call 8; refine (awake_any _).mono ?_; rintro e w0 ⟨rfl, h0⟩; obtain ⟨y0, k0, k1, k2, k3⟩ := (HT.out.go h0).facts)
        | (go_at_call 9; refine (small_is _ _ l _ (HR.out.below h0) HM.out HS.out).mono ?_; rintro e w1 ⟨rfl, rfl⟩))
      go_ret
      exact ⟨rfl, bel2 (one_new _ _) h0⟩
    by_cases hE : setE l t = 0
    case neg =>
      have HE := Lib.hid hE
      clear hE
      go_enter Try.func4, Try.ntmps4
      go_wp2_with (first
        | (go_at_call 8; refine (awake_any _).mono ?_; rintro e w0 ⟨rfl, h0⟩; obtain ⟨y0, k0, k1, k2, k3⟩ := (HT.out.go h0).facts)
        | (go_at_call 9; refine (small_is _ _ l _ (HR.out.below h0) HM.out HS.out).mono ?_; rintro e w1 ⟨rfl, rfl⟩)
        | (go_at_call 10; refine (set_bad _ _ l t _ (HR.out.below h0) HL.out HX.out HE.out).mono ?_; rintro e w2 ⟨a2, c2, n2, rfl, hn2, h2⟩))
      go_ret
      exact ⟨rfl, bel2 (bel2 (one_new _ _) h0) h2⟩
    have HE := Lib.hid hE
    have SZ := Lib.hid (setL_sz HL.out ht)
    have FO1 := Lib.hid (find_own hE)
    have SM := Lib.hid (setL_may hE)
    have gf := guard_flags
    have hneq := neq_own t.2
    clear hE
    go_enter Try.func4, Try.ntmps4
    go_wp2_with (first
      | (go_at_call 8; refine (awake_any _).mono ?_; rintro e w0 ⟨rfl, h0⟩; have HT0 := Lib.hid (HT.out.go h0); have HR0 := Lib.hid (HR.out.below h0); obtain ⟨y0, k0, k1, k2, k3⟩ := HT0.out.facts)
      | (go_at_call 9; refine (small_is _ _ l _ HR0.out HM.out HS.out).mono ?_; rintro e w1 ⟨rfl, rfl⟩)
      | (go_at_call 10; refine (set_ok _ _ l t _ HR0.out HL.out HX.out HE.out).mono ?_; rintro e w2 ⟨a2, c2, rfl, hx, h2⟩; have HX2 := Lib.hid hx; have HT2 := Lib.hid (HT0.out.go h2); have HR2 := Lib.hid (HR0.out.below h2); clear hx; obtain ⟨y2, p0, p1, p2, p3⟩ := HT2.out.facts))
    have H : Sets w a c l a2 c2 (setL l t) t w2.drew := (Sets.mk' HT2.out HR2.out HX2.out).drew
    clear k0 k1 k2 k3 y0 p0 p1 p2 p3 y2 HT HT0 HT2 HR HR0 HR2 HX2
    go_region_held3 (Sets w a c l a2 c2 (setL l t) t)
      (first
        | exact H
        | exact Sets.drew H)
      (first
        | (go_at_call 15; ((with_reducible refine (find_is _ _ (setL l t) t.1 _ H.2.2.2.2.2.2.2 SZ.out FO1.out).mono ?_); rintro e w4 ⟨rfl, h4⟩; have H := Sets.go H h4))
        | (go_at_call 12; ((with_reducible refine (may_is _ _ (setL l t) _ H.2.2.2.2.2.2.2 SZ.out SM.out).mono ?_); rintro e w4 ⟨rfl, h4⟩; have H := Sets.go H h4)))
    have HH := Lib.hid H
    obtain ⟨y5, m0, m1, m2, m3, _, _, _⟩ := H
    go_wp2
    go_loop [9, 10] (fun b i => ∃ k : Nat, k ≤ l.length ∧ i = .int .i64 k ∧ b = .bool (there (l.take k) u)) (fun _ i => l.length - (intOf i).toNat)
    case atStart => exact ⟨0, Nat.zero_le _, rfl, by rw [there_zero]⟩
    case round =>
      obtain ⟨k, hk, rfl, rfl⟩ := hrel
      by_cases hlt : k < l.length
      · obtain ⟨bk, o, rfl, hbk, c0, c1, c2, c3⟩ := HH.out.2.2.2.2.2.2.1.at_ hlt
        have e1 := bs_beq l[k].1 u
        have P := Lib.hid (there_step (u := u) hlt)
        cases hp : there (l.take k) u with
        | true =>
          have HP := Lib.hid hp
          clear hp
          go_wp2
          go_round
          case rel => exact ⟨k + 1, by omega, by go_num, by rw [P.out, HP.out]; rfl⟩
          case measure => simp [intOf]; omega
        | false =>
          have HP := Lib.hid hp
          clear hp
          go_wp2
          go_round
          case rel => exact ⟨k + 1, by omega, by go_num, by rw [P.out, HP.out]; rfl⟩
          case measure => simp [intOf]; omega
      · obtain rfl : k = l.length := by omega
        rw [List.take_length]
        rcases set_ways (u := u) HE.out with s1 | ⟨s1, s2, s3⟩ | ⟨s1, s2, s3, s4⟩ | ⟨s1, s2, s3, s4⟩
        · go_wp2
          go_quiet (fail)
          go_wp2
          go_ret
          exact ⟨rfl, bel2 HH.out.bel (below_drewN _ _)⟩
        · obtain ⟨f, hf⟩ : ∃ f, findR l u = f := ⟨_, rfl⟩
          rw [hf] at s3
          have F1 := Lib.hid hf
          have F2 := Lib.hid s3
          have hnf := neq_own f
          clear hf s3
          go_wp2_with (first
            | (go_at_call 15; ((with_reducible refine (find_is _ _ (setL l t) u _ HH.out.2.2.2.2.2.2.2 SZ.out F2.out).mono ?_); rintro e w6 ⟨rfl, h6⟩; have H6 := Lib.hid (Sets.go HH.out h6)))
            | (go_at_call 15; ((with_reducible refine (find_is _ _ l u _ H6.out.2.2.2.2.2.2.1 HL.out F1.out).mono ?_); rintro e w7 ⟨rfl, h7⟩; have H7 := Lib.hid (Sets.go H6.out h7); obtain ⟨y7, r0, r1, r2, r3, _, _, _⟩ := H7.out)))
          go_quiet (fail)
          go_wp2
          go_ret
          exact ⟨rfl, bel2 H7.out.bel (below_drewN _ _)⟩
        · obtain ⟨f, hf⟩ : ∃ f, findR l u = f := ⟨_, rfl⟩
          rw [hf] at s4
          have F1 := Lib.hid hf
          have F2 := Lib.hid s4
          have hnf := neq_own f
          clear hf s4
          go_wp2_with (first
            | (go_at_call 15; ((with_reducible refine (find_is _ _ (setL l t) u _ HH.out.2.2.2.2.2.2.2 SZ.out F2.out).mono ?_); rintro e w6 ⟨rfl, h6⟩; have H6 := Lib.hid (Sets.go HH.out h6)))
            | (go_at_call 15; ((with_reducible refine (find_is _ _ l u _ H6.out.2.2.2.2.2.2.1 HL.out F1.out).mono ?_); rintro e w7 ⟨rfl, h7⟩; have H7 := Lib.hid (Sets.go H6.out h7); obtain ⟨y7, r0, r1, r2, r3, _, _, _⟩ := H7.out)))
          go_quiet (fail)
          go_wp2
          go_ret
          exact ⟨rfl, bel2 H7.out.bel (below_drewN _ _)⟩
        · have F2 := Lib.hid s4
          have heq := eql_own t.2
          have H : Sets w a c l a2 c2 (setL l t) t w4.drew := Sets.drew HH.out
          clear s4
          go_wp2
          go_region_held3 (Sets w a c l a2 c2 (setL l t) t)
            (first
              | exact H
              | exact Sets.drew H)
            (first
              | (go_at_call 15; ((with_reducible refine (find_is _ _ (setL l t) u _ H.2.2.2.2.2.2.2 SZ.out F2.out).mono ?_); rintro e w6 ⟨rfl, h6⟩; have H := Sets.go H h6)))
          go_wp2
          go_ret
          exact ⟨rfl, H.bel⟩

end Go.Proofs.Ytjgheccnakngpaa.A
