/-
  The law KnownFull answers true: as many as may be known, and one more; the least number that was freed is the next.
-/
import Derived.Test.YtmkapleliholkaaKArr
import Derived.Deep.RegionHeld3
namespace Go.Proofs.Ytmkapleliholkaa.K
open Go.ChangeShapes Go.WideShapes Go.ChangeAt Go.RowKit

abbrev bv : Bool → Value := Value.bool

/-- the table filled up to i -/
structure AS (w0 : World) (b : Nat) (w : World) (i : Int) (U : Int → Int) (C : Int → Int → Int) : Prop where
  ky : KY w0 w b U C
  u : ∀ j, 1 ≤ j → j ≤ 63 → U j = if j < i then 1000 + j else 0
  z : ∀ j r, i ≤ j → 0 ≤ r → r ≤ 7 → C j r = 0
  c1 : ∀ r, 0 ≤ r → r ≤ 7 → 0 ≤ C 1 r ∧ C 1 r ≤ 1

/-- the table with F freed, of which those below i are known anew, and F's row beside it -/
structure FS (w0 : World) (b c : Nat) (w : World) (i : Int) (F : Int → Bool) (U : Int → Int) (C : Int → Int → Int) : Prop where
  ky : KY w0 w b U C
  arr : ArrB bv w c 29 64 F
  ne : c ≠ b
  ge : w0.heap.size ≤ c
  u : ∀ j, 1 ≤ j → j ≤ 63 → U j = if F j then (if j < i then 5000 + j else 0) else 1000 + j
  z : ∀ j r, i ≤ j → F j = true → 0 ≤ r → r ≤ 7 → C j r = 0

section
variable {w0 w : World} {b c : Nat} {i : Int} {F : Int → Bool} {U : Int → Int} {C : Int → Int → Int}

theorem AS.add (h : AS w0 b w i U C) (i0 : 1 ≤ i) (i1 : i ≤ 63) {x r : Int} (hx : x = 1000 + i) (hr : r = i % 8) :
    Calls Try.prog 9 #[KP b, .int .i64 x, .int .i64 r] w fun e w' => e = .returned (.tuple #[.int .i64 i, .bool true, .int .i64 0]) ∧ ∃ U' C', AS w0 b w' (i + 1) U' C' := by
  subst hx hr
  refine (add_new h.ky.at_ (x := 1000 + i) (r := i % 8) (n := i) (by omega) (by omega) (by omega) (Or.inr ⟨rfl, fun j j0 j1 => ?_⟩) (Or.inl ⟨i0, i1, ?_, fun j j0 j1 => ?_⟩) (by omega) (h.z i _ (by omega) (by omega) (by omega))).mono fun _ X hp => ?_
  · rw [h.u j j0 j1]
    split <;> omega
  · rw [h.u i i0 i1, if_neg (by omega)]
  · rw [h.u j j0 (by omega), if_pos j1]
    omega
  · obtain ⟨rfl, k, o⟩ := hp
    refine ⟨rfl, _, _, h.ky.only k o, fun j j0 j1 => ?_, fun j r j0 r0 r1 => ?_, fun r r0 r1 => ?_⟩
    · by_cases e : j = i
      · subst e
        rw [upU_same, if_pos (by omega)]
      · rw [upU_other _ _ e, h.u j j0 j1]
        by_cases e2 : j < i
        · rw [if_pos e2, if_pos (by omega)]
        · rw [if_neg e2, if_neg (by omega)]
    · rw [upC_other _ _ _ _ (by omega)]
      exact h.z j r (by omega) r0 r1
    · by_cases e : 1 = i
      · subst e
        have := h.z 1 r (by omega) r0 r1
        unfold upC
        split <;> omega
      · rw [upC_other _ _ _ _ e]
        exact h.c1 r r0 r1

theorem AS.full (h : AS w0 b w 64 U C) : Calls Try.prog 9 #[KP b, .int .i64 5, .int .i64 0] w fun e w' => e = .returned (.tuple #[.int .i64 0, .bool false, .int .i64 7]) ∧ w = w' :=
  add_full h.ky.at_ (x := 5) (r := 0) (by omega) (by omega) (by omega) (Or.inr ⟨rfl, fun j j0 j1 => by rw [h.u j j0 j1, if_pos (by omega)]; omega⟩) (Or.inr ⟨rfl, fun j j0 j1 => by rw [h.u j j0 j1, if_pos (by omega)]; omega⟩)

theorem AS.again (h : AS w0 b w 64 U C) : Calls Try.prog 9 #[KP b, .int .i64 1001, .int .i64 0] w fun e w' => e = .returned (.tuple #[.int .i64 1, .bool false, .int .i64 0]) ∧ ∃ C', KY w0 w' b U C' := by
  have hc := h.c1 0 (by omega) (by omega)
  refine (add_known h.ky.at_ (x := 1001) (r := 0) (n := 1) (by omega) (by omega) (by omega) (Or.inl ⟨by omega, by omega, by rw [h.u 1 (by omega) (by omega)]; rfl, fun j _ _ => by omega⟩) (by omega) (by omega) (by omega)).mono fun _ X hp => ?_
  obtain ⟨rfl, k, o⟩ := hp
  exact ⟨rfl, _, h.ky.only k o⟩

theorem FS.drewN (h : FS w0 b c w i F U C) (m : Nat) : FS w0 b c (w.drewN m) i F U C := ⟨h.ky.drewN m, h.arr.drewN m, h.ne, h.ge, h.u, h.z⟩

theorem FS.gone (h : FS w0 b c w 1 F U C) {n : Int} (n0 : 1 ≤ n) (n1 : n ≤ 63) (hF : F n = true) : Calls Try.prog 10 #[KP b, .int .i64 n] w fun e w' => e = .returned (.bool false) ∧ w = w' :=
  forget_no h.ky.at_ (Or.inr (Or.inr (by rw [h.u n n0 n1, if_pos hF, if_neg (by omega)])))

/-- a number that is freed: U and C with it, and F's row behind the store -/
theorem FS.forget (h : FS w0 b c w 1 F U C) {n : Int} (n0 : 1 ≤ n) (n1 : n ≤ 63) (hF : F n = false) : Calls Try.prog 10 #[KP b, .int .i64 n] w fun e w' => e = .returned (.bool true) ∧ Only b w w' ∧ KnAt w' b (upU U n 0) (clC C n) :=
  (forget_yes h.ky.at_ n0 n1 (by rw [h.u n n0 n1, hF]; simp; omega)).mono fun _ _ h => ⟨h.1, h.2.2, h.2.1⟩

theorem FS.freed (h : FS w0 b c w 1 F U C) {n : Int} (n0 : 1 ≤ n) {X : World} (o : Only b w X) (k : KnAt X b (upU U n 0) (clC C n)) :
    FS w0 b c (X.setCell ⟨c, n.toNat, none⟩ (.bool true)) 1 (upA F n true) (upU U n 0) (clC C n) where
  ky := (h.ky.only k o).other _ _ h.ne h.ge
  arr := (h.arr.only o h.ne).set (by omega) true
  ne := h.ne
  ge := h.ge
  u := fun j j0 j1 => by
    by_cases e : j = n
    · subst e
      rw [upU_same, upA_same, if_pos rfl, if_neg (by omega)]
    · rw [upU_other _ _ e, upA_other _ _ e]
      exact h.u j j0 j1
  z := fun j r j0 hj r0 r1 => by
    by_cases e : j = n
    · subst e
      rw [clC_same]
    · rw [clC_other _ _ e]
      rw [upA_other _ _ e] at hj
      exact h.z j r j0 hj r0 r1

theorem FS.again (h : FS w0 b c w 1 F U C) {n : Int} (n0 : 1 ≤ n) (hF : F n = true) : FS w0 b c (w.setCell ⟨c, n.toNat, none⟩ (.bool true)) 1 F U C where
  ky := h.ky.other _ _ h.ne h.ge
  arr := by
    have := h.arr.set (show 0 ≤ n by omega) true
    rw [show upA F n true = F from funext fun j => by
      by_cases e : j = n
      · subst e
        rw [upA_same, hF]
      · rw [upA_other _ _ e]] at this
    exact this
  ne := h.ne
  ge := h.ge
  u := h.u
  z := h.z

/-- a freed number is known anew -/
theorem FS.add (h : FS w0 b c w i F U C) (i0 : 1 ≤ i) (i1 : i ≤ 63) (hF : F i = true) {x : Int} (hx : x = 5000 + i) :
    Calls Try.prog 9 #[KP b, .int .i64 x, .int .i64 3] w fun e w' => e = .returned (.tuple #[.int .i64 i, .bool true, .int .i64 0]) ∧ ∃ U' C', FS w0 b c w' (i + 1) F U' C' := by
  subst hx
  refine (add_new h.ky.at_ (x := 5000 + i) (r := 3) (n := i) (by omega) (by omega) (by omega) (Or.inr ⟨rfl, fun j j0 j1 => ?_⟩) (Or.inl ⟨i0, i1, ?_, fun j j0 j1 => ?_⟩) (by omega) (h.z i _ (by omega) hF (by omega) (by omega))).mono fun _ X hp => ?_
  · rw [h.u j j0 j1]
    split
    · split <;> omega
    · omega
  · rw [h.u i i0 i1, if_pos hF, if_neg (by omega)]
  · rw [h.u j j0 (by omega), if_pos j1]
    split <;> omega
  · obtain ⟨rfl, k, o⟩ := hp
    refine ⟨rfl, _, _, h.ky.only k o, h.arr.only o h.ne, h.ne, h.ge, fun j j0 j1 => ?_, fun j r j0 hj r0 r1 => ?_⟩
    · by_cases e : j = i
      · subst e
        rw [upU_same, if_pos hF, if_pos (by omega)]
      · rw [upU_other _ _ e, h.u j j0 j1]
        by_cases e2 : j < i
        · rw [if_pos e2, if_pos (show j < i + 1 by omega)]
        · rw [if_neg e2, if_neg (show ¬ j < i + 1 by omega)]
    · rw [upC_other _ _ _ _ (by omega)]
      exact h.z j r (by omega) hj r0 r1

theorem FS.skip (h : FS w0 b c w i F U C) (hF : F i = false) : FS w0 b c w (i + 1) F U C :=
  ⟨h.ky, h.arr, h.ne, h.ge, fun j j0 j1 => by
    rw [h.u j j0 j1]
    by_cases e : j = i
    · subst e
      rw [hF]
      rfl
    · by_cases e2 : j < i
      · rw [if_pos e2, if_pos (show j < i + 1 by omega)]
      · rw [if_neg e2, if_neg (show ¬ j < i + 1 by omega)], fun j r j0 => h.z j r (by omega)⟩

theorem FS.all (h : FS w0 b c w 64 F U C) : Calls Try.prog 11 #[KP b] w fun e w' => ∃ p c, e = .returned (.slice p 63 c) ∧ Below w.heap.size w w' :=
  all_len h.ky.at_ (n := 63) (by
    rw [lst_full U (fun j j0 j1 => by
      rw [h.u j j0 j1, if_pos (show j < 64 by omega)]
      split <;> omega) 64 (by omega)])
end

theorem nums_at {k : IntKind} {w X : World} {b o : Nat} {zs : List Int} (hc : ∀ i, i < zs.length → w.cell? ⟨b, o + i, none⟩ = some (.int k (zs.getD i 0))) (hb : Below w.heap.size w X) {i : Nat} (hi : i < zs.length) : X.cell? ⟨b, o + i, none⟩ = some (.int k (zs.getD i 0)) :=
  (hb.cell (p := ⟨b, o + i, none⟩) (World.block_lt_of_cell? w _ (hc i hi))).trans (hc i hi)

set_option maxRecDepth 20000 in
set_option maxHeartbeats 4000000 in
theorem full_walk (p : Option Addr) (cap : Nat) (zs : List Int) (w : World) (hN : W.NumsIn .u8 w p zs) (hm : zs.length ≤ 9223372036854775807) (hz : ∀ n ∈ zs, 0 ≤ n ∧ n ≤ 255) :
    Calls Try.prog 3 #[.slice p zs.length cap] w fun e w' => e = .returned (.bool true) ∧ Below w.heap.size w w' := by
  have HN := Lib.hid hN
  have HZ := Lib.hid hz
  clear hN hz
  by_cases h100 : 100 < zs.length
  · go_enter Try.func3, Try.ntmps3
    go_wp2_with (first
      | (go_at_call 7; ((with_reducible refine (awake_any w).mono ?_); rintro e wa ⟨rfl, ba⟩))
      | (go_at_call 8; ((with_reducible refine (new_any wa).mono ?_); rintro e wb ⟨rfl, rfl⟩; have K0 := Lib.hid (ky_new ba))))
    go_ret
    exact ⟨rfl, K0.out.bel⟩
  go_enter Try.func3, Try.ntmps3
  go_wp2_with (first
    | (go_at_call 7; ((with_reducible refine (awake_any w).mono ?_); rintro e wa ⟨rfl, ba⟩))
    | (go_at_call 8; ((with_reducible refine (new_any wa).mono ?_); rintro e wb ⟨rfl, hwb⟩; have K0 := ky_new ba; rw [← hwb] at K0; have S0 := Lib.hid (show wb.heap.size = wa.heap.size + 1 by rw [hwb]; simp); clear hwb)))
  have hlen : zs.length ≤ 100 := by omega
  clear h100 S0
  have hstart : AS w wa.heap.size wb 1 U0 C0 := ⟨K0, fun j j0 _ => by rw [if_neg (by omega)]; rfl, fun _ _ _ _ _ => rfl, fun _ _ _ => ⟨by simp [C0], by simp [C0]⟩⟩
  clear K0
  generalize wa.heap.size = b at *
  go_loopw [4] (fun v X => ∃ (i : Int) (U : Int → Int) (C : Int → Int → Int), 1 ≤ i ∧ i ≤ 64 ∧ v = .int .i64 i ∧ AS w b X i U C) (fun v _ => 64 - (intOf v).toNat)
  case atStart => exact ⟨1, _, _, by omega, by omega, rfl, hstart⟩
  case round =>
    clear hstart
    obtain ⟨i, U, C, i0, i1, rfl, H⟩ := hrel
    by_cases hlt : i ≤ 63
    · have d : decide (i ≤ 63) = true := decide_eq_true hlt
      have HA := Lib.hid (H.add i0 hlt rfl rfl)
      clear H
      go_wp2_with (first
        | (go_at_call 9; ((with_reducible refine HA.out.mono ?_); rintro e w1 ⟨rfl, U1, C1, r1⟩)))
      go_roundw
      case rel => exact ⟨i + 1, _, _, by omega, by omega, rfl, r1⟩
      case measure => simp [intOf]; omega
    · obtain rfl : i = 64 := by omega
      have HF := Lib.hid H.full
      have HA := Lib.hid H.again
      have HU := Lib.hid H.u
      clear H
      go_wp2_with (first
        | (go_at_call 9; ((with_reducible refine HF.out.mono ?_); rintro e w1 ⟨rfl, rfl⟩))
        | (go_at_call 9; ((with_reducible refine HA.out.mono ?_); rintro e w1 ⟨rfl, C1, k1⟩)))
      have hstart : FS w b w1.heap.size (w1.alloc (.cells #[.bool false, .bool false, .bool false, .bool false, .bool false, .bool false, .bool false, .bool false, .bool false, .bool false, .bool false, .bool false, .bool false, .bool false, .bool false, .bool false, .bool false, .bool false, .bool false, .bool false, .bool false, .bool false, .bool false, .bool false, .bool false, .bool false, .bool false, .bool false, .bool false, .bool false, .bool false, .bool false, .bool false, .bool false, .bool false, .bool false, .bool false, .bool false, .bool false, .bool false, .bool false, .bool false, .bool false, .bool false, .bool false, .bool false, .bool false, .bool false, .bool false, .bool false, .bool false, .bool false, .bool false, .bool false, .bool false, .bool false, .bool false, .bool false, .bool false, .bool false, .bool false, .bool false, .bool false, .bool false] 29)) 1 (fun _ => false) U C1 := {
        ky := k1.below ((Below.refl _ _).alloc (Nat.le_refl _) _)
        arr := arr_new bv w1 _ 64 false _ rfl
        ne := by have := k1.at_.lt; omega
        ge := k1.bel.size
        u := fun j j0 j1 => by rw [HU.out j j0 j1, if_pos (by omega)]; rfl
        z := fun j r _ hj => by cases hj }
      clear HF HA HU k1
      generalize w1.heap.size = c at *
      go_loopw [15] (fun v X => ∃ (k : Nat) (F : Int → Bool) (U : Int → Int) (C : Int → Int → Int), k ≤ zs.length ∧ v = .int .i64 k ∧ FS w b c X 1 F U C) (fun v _ => zs.length - (intOf v).toNat)
      case atStart => exact ⟨0, _, _, _, by omega, rfl, hstart⟩
      case round =>
        clear hstart
        obtain ⟨k, F, U, C, hk, rfl, H⟩ := hrel
        by_cases hlt : k < zs.length
        · obtain ⟨g, off, rfl, hc⟩ := HN.out (by omega)
          have hc0 := nums_at hc H.ky.bel (i := k) hlt
          obtain ⟨x0, x1⟩ := HZ.out (zs.getD k 0) (by simp [List.getD, hlt])
          generalize zs.getD k 0 = x at *
          have j1 : (k : Int) < (zs.length : Int) := by omega
          have j0 : (0 : Int) ≤ (k : Int) := by omega
          have n0 : 0 ≤ 1 + x % 63 := by omega
          have n1 : 1 + x % 63 < 64 := by omega
          have HG := Lib.hid (show 1 ≤ 1 + x % 63 by omega)
          have a1 := H.arr.cell n0 n1
          have a2 := H.arr.fz (1 + x % 63).toNat
          have H1 := Lib.hid H
          clear hc H
          go_wp2
          generalize 1 + x % 63 = n at *
          cases hF : F n with
          | true =>
            rw [hF] at a1
            have HF := Lib.hid hF
            have hcall : ∀ m, Calls Try.prog 10 #[KP b, .int .i64 n] (wr.drewN m) fun e w' => e = .returned (.bool false) ∧ w' = wr.drewN m := fun m =>
              ((H1.out.drewN m).gone HG.out (by omega) hF).mono fun _ _ h => ⟨h.1, h.2.symm⟩
            have HC := Lib.hid hcall
            clear hF hcall
            go_quiet ((go_at_call 10; exact Calls.quiet_of_same (HC.out _)))
            have H2 := Lib.hid ((H1.out.drewN nq).again HG.out HF.out)
            have a3 := (H1.out.drewN nq).arr.cell n0 n1
            have a4 := (H1.out.drewN nq).arr.fz n.toNat
            clear HC a1 a2 H1 hc0
            generalize wr.drewN nq = V at *
            go_wp2
            go_roundw
            case rel => exact ⟨k + 1, _, _, _, by omega, by go_num, H2.out⟩
            case measure => simp [intOf]; omega
          | false =>
            rw [hF] at a1
            have HF := Lib.hid hF
            have hd : FS w b c wr.drew 1 F U C := H1.out.drewN 1
            have HD := Lib.hid hd
            have HC := Lib.hid (hd.forget HG.out (by omega) hF)
            have h0 : wr.drew.cell? ⟨c, n.toNat, none⟩ = some (bv false) := a1
            clear hF hd hc0
            go_region_held3 (fun X => X.cell? ⟨c, n.toNat, none⟩ = some (bv false))
              (first | exact a1 | exact h0 | exact h3)
              (first | (go_at_call 10; ((with_reducible refine HC.out.mono ?_); rintro e w2 ⟨rfl, o2, k2⟩; have h3 := (ArrB.cell (HD.out.arr.only o2 H1.out.ne) n0 n1); rw [HF.out] at h3)))
            have h4 := ArrB.fz (HD.out.arr.only o2 H1.out.ne) n.toNat
            have H2 := Lib.hid (HD.out.freed HG.out o2 k2)
            clear HC HF HD h0 a1 a2 H1 o2 k2
            go_wp2
            go_roundw
            case rel => exact ⟨k + 1, _, _, _, by omega, by go_num, H2.out⟩
            case measure => simp [intOf]; omega
        · have hk' : k = zs.length := by omega
          have d : decide ((k : Int) < (zs.length : Int)) = false := decide_eq_false (by omega)
          subst hk'
          have H1 := Lib.hid H
          clear H
          go_wp2
          clear d
          go_loopw [17] (fun v X => ∃ (i : Int) (U : Int → Int) (C : Int → Int → Int), 1 ≤ i ∧ i ≤ 64 ∧ v = .int .i64 i ∧ FS w b c X i F U C) (fun v _ => 64 - (intOf v).toNat)
          case atStart => exact ⟨1, _, _, by omega, by omega, rfl, H1.out⟩
          case round =>
            clear H1
            obtain ⟨i, U, C, i0, i1, rfl, H⟩ := hrel
            by_cases hlt : i ≤ 63
            · have d : decide (i ≤ 63) = true := decide_eq_true hlt
              have j0 : 0 ≤ i := by omega
              have j1 : i < 64 := by omega
              have a1 := H.arr.cell j0 j1
              cases hF : F i with
              | true =>
                rw [hF] at a1
                have HA := Lib.hid (H.add i0 hlt hF rfl)
                clear H hF
                go_wp2_with (first
                  | (go_at_call 9; ((with_reducible refine HA.out.mono ?_); rintro e w2 ⟨rfl, U1, C1, r1⟩)))
                go_roundw
                case rel => exact ⟨i + 1, _, _, by omega, by omega, rfl, r1⟩
                case measure => simp [intOf]; omega
              | false =>
                rw [hF] at a1
                have H2 := Lib.hid (H.skip hF)
                clear H hF
                go_wp2
                go_roundw
                case rel => exact ⟨i + 1, _, _, by omega, by omega, rfl, H2.out⟩
                case measure => simp [intOf]; omega
            · obtain rfl : i = 64 := by omega
              have HL := Lib.hid H.all
              have HB := Lib.hid H.ky.bel
              clear H
              go_wp2_with (first
                | (go_at_call 11; ((with_reducible refine HL.out.mono ?_); rintro e w2 ⟨p2, c2, rfl, b2⟩)))
              go_ret
              exact ⟨rfl, HB.out.trans (b2.mono HB.out.size)⟩

end Go.Proofs.Ytmkapleliholkaa.K
