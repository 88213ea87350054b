/-
  The law KnownRings answers true: known as long as one ring has a use, gone with the last, whatever the order.
-/
import Derived.Test.YtmkapleliholkaaKArr
namespace Go.Proofs.Ytmkapleliholkaa.K
open Go.ChangeShapes Go.WideShapes Go.ChangeAt Go.RowKit

abbrev iv : Int → Value := Value.int .i64

/-- the uses of all rings together -/
def sum8 (N : Int → Int) : Int := N 0 + N 1 + N 2 + N 3 + N 4 + N 5 + N 6 + N 7
theorem eight (P : Int → Prop) (h0 : P 0) (h1 : P 1) (h2 : P 2) (h3 : P 3) (h4 : P 4) (h5 : P 5) (h6 : P 6) (h7 : P 7) (r : Int) (r0 : 0 ≤ r) (r1 : r ≤ 7) : P r := by
  have : r = 0 ∨ r = 1 ∨ r = 2 ∨ r = 3 ∨ r = 4 ∨ r = 5 ∨ r = 6 ∨ r = 7 := by omega
  rcases this with rfl | rfl | rfl | rfl | rfl | rfl | rfl | rfl <;> assumption
theorem sum8_upd (N : Int → Int) (v : Int) (r : Int) (r0 : 0 ≤ r) (r1 : r ≤ 7) : sum8 (upA N r v) = sum8 N - N r + v := by
  revert r0 r1
  have : 0 ≤ r → r ≤ 7 → r = 0 ∨ r = 1 ∨ r = 2 ∨ r = 3 ∨ r = 4 ∨ r = 5 ∨ r = 6 ∨ r = 7 := by omega
  intro r0 r1
  rcases this r0 r1 with rfl | rfl | rfl | rfl | rfl | rfl | rfl | rfl <;> simp [sum8, upA] <;> omega
theorem sum8_one (N : Int → Int) (h : ∀ r, 0 ≤ r → r ≤ 7 → 0 ≤ N r) (r : Int) (r0 : 0 ≤ r) (r1 : r ≤ 7) : N r ≤ sum8 N := by
  have h0 := h 0 (by omega) (by omega)
  have h1 := h 1 (by omega) (by omega)
  have h2 := h 2 (by omega) (by omega)
  have h3 := h 3 (by omega) (by omega)
  have h4 := h 4 (by omega) (by omega)
  have h5 := h 5 (by omega) (by omega)
  have h6 := h 6 (by omega) (by omega)
  have h7 := h 7 (by omega) (by omega)
  refine eight (fun r => N r ≤ sum8 N) ?_ ?_ ?_ ?_ ?_ ?_ ?_ ?_ r r0 r1 <;> unfold sum8 <;> omega
theorem sum8_none (N : Int → Int) (h : ∀ r, 0 ≤ r → r ≤ 7 → N r = 0) : sum8 N = 0 := by
  unfold sum8
  rw [h 0 (by omega) (by omega), h 1 (by omega) (by omega), h 2 (by omega) (by omega), h 3 (by omega) (by omega), h 4 (by omega) (by omega), h 5 (by omega) (by omega), h 6 (by omega) (by omega), h 7 (by omega) (by omega)]
  rfl

/-- the law's memory: a table that knows 77 by N uses of each ring, s together, and the row of these numbers beside it -/
structure RS (w0 : World) (b c : Nat) (w : World) (N : Int → Int) (s : Int) (U : Int → Int) (C : Int → Int → Int) : Prop where
  ky : KY w0 w b U C
  arr : ArrB iv w c 34 8 N
  ne : c ≠ b
  ge : w0.heap.size ≤ c
  n0 : ∀ r, 0 ≤ r → r ≤ 7 → 0 ≤ N r
  sum : sum8 N = s
  bd : s ≤ 100
  u1 : U 1 = if s = 0 then 0 else 77
  uo : ∀ j, j ≠ 1 → U j = 0
  c1 : ∀ r, 0 ≤ r → r ≤ 7 → C 1 r = N r

section
variable {w0 w w' : World} {b c : Nat} {N : Int → Int} {s : Int} {U : Int → Int} {C : Int → Int → Int}

theorem RS.s0 (h : RS w0 b c w N s U C) : 0 ≤ s := by
  have := sum8_one N h.n0 0 (by omega) (by omega)
  have := h.n0 0 (by omega) (by omega)
  have := h.sum
  omega

theorem RS.drewN (h : RS w0 b c w N s U C) (m : Nat) : RS w0 b c (w.drewN m) N s U C :=
  ⟨h.ky.drewN m, h.arr.drewN m, h.ne, h.ge, h.n0, h.sum, h.bd, h.u1, h.uo, h.c1⟩

/-- one use more -/
theorem rs_add (h : RS w0 b c w N s U C) {r : Int} (r0 : 0 ≤ r) (r1 : r ≤ 7) (hs : s < 100) (z : Bool) (hz : z = decide (s = 0)) :
    Calls Try.prog 9 #[KP b, .int .i64 77, .int .i64 r] w fun e w' => e = .returned (.tuple #[.int .i64 1, .bool z, .int .i64 0]) ∧ Only b w w' ∧
      ∃ U' C', RS w0 b c (w'.setCell ⟨c, r.toNat, none⟩ (.int .i64 (N r + 1))) (upA N r (N r + 1)) (s + 1) U' C' := by
  have h0 := h.s0
  have hn := h.n0 r r0 r1
  have hl := sum8_one N h.n0 r r0 r1
  rw [h.sum] at hl
  have key : ∀ (U' : Int → Int) (C' : Int → Int → Int) (X : World), KnAt X b U' C' → Only b w X → U' 1 = 77 → (∀ j, j ≠ 1 → U' j = 0) → (∀ q, 0 ≤ q → q ≤ 7 → C' 1 q = upA N r (N r + 1) q) →
      RS w0 b c (X.setCell ⟨c, r.toNat, none⟩ (.int .i64 (N r + 1))) (upA N r (N r + 1)) (s + 1) U' C' := fun U' C' X k o u1 uo c1 =>
    { ky := (h.ky.only k o).other _ _ h.ne h.ge
      arr := (h.arr.only o h.ne).set r0 _
      ne := h.ne, ge := h.ge
      n0 := fun q q0 q1 => by
        by_cases e : q = r
        · rw [e, upA_same]; omega
        · rw [upA_other _ _ e]; exact h.n0 q q0 q1
      sum := by rw [sum8_upd N _ r r0 r1, h.sum]; omega
      bd := by omega
      u1 := by rw [if_neg (by omega)]; exact u1
      uo := uo
      c1 := c1 }
  by_cases e : s = 0
  · obtain rfl : z = true := by rw [hz]; exact decide_eq_true e
    have u1 := h.u1
    rw [if_pos e] at u1
    have all0 : ∀ j, U j = 0 := fun j => by
      by_cases e2 : j = 1
      · rw [e2]; exact u1
      · exact h.uo j e2
    have hc : C 1 r = 0 := by rw [h.c1 r r0 r1]; omega
    refine (add_new h.ky.at_ (x := 77) (r := r) (n := 1) (by omega) r0 r1 (Or.inr ⟨rfl, fun j _ _ => by rw [all0]; omega⟩) (Or.inl ⟨by omega, by omega, all0 1, fun j _ _ => by omega⟩) (by omega) hc).mono fun _ X hp => ?_
    obtain ⟨rfl, k, o⟩ := hp
    refine ⟨rfl, o, _, _, key _ _ X k o (upU_same _ _ _) (fun j hj => by rw [upU_other _ _ hj]; exact all0 j) (fun q q0 q1 => ?_)⟩
    by_cases e2 : q = r
    · subst e2
      have := h.c1 q q0 q1
      rw [upC_same, upA_same]
      omega
    · rw [upC_ring _ _ e2, upA_other _ _ e2]
      exact h.c1 q q0 q1
  · obtain rfl : z = false := by rw [hz]; exact decide_eq_false e
    have u1 := h.u1
    rw [if_neg e] at u1
    have hc := h.c1 r r0 r1
    refine (add_known h.ky.at_ (x := 77) (r := r) (n := 1) (by omega) r0 r1 (Or.inl ⟨by omega, by omega, u1, fun j _ _ => by omega⟩) (by omega) (by omega) (by have := h.bd; omega)).mono fun _ X hp => ?_
    obtain ⟨rfl, k, o⟩ := hp
    refine ⟨rfl, o, _, _, key _ _ X k o u1 h.uo (fun q q0 q1 => ?_)⟩
    by_cases e2 : q = r
    · subst e2
      rw [upC_same, upA_same, hc]
    · rw [upC_ring _ _ e2, upA_other _ _ e2]
      exact h.c1 q q0 q1

/-- one use less -/
theorem rs_drop (h : RS w0 b c w N s U C) {r : Int} (r0 : 0 ≤ r) (r1 : r ≤ 7) (hr : 0 < N r) (z : Bool) (hz : z = decide (s - 1 = 0)) :
    Calls Try.prog 13 #[KP b, .int .i64 1, .int .i64 r] w fun e w' => e = .returned (.tuple #[.bool z, .int .i64 0]) ∧ Only b w w' ∧
      ∃ U' C', RS w0 b c (w'.setCell ⟨c, r.toNat, none⟩ (.int .i64 (N r - 1))) (upA N r (N r - 1)) (s - 1) U' C' := by
  have hl := sum8_one N h.n0 r r0 r1
  rw [h.sum] at hl
  have hb := h.bd
  have u1 := h.u1
  rw [if_neg (by omega)] at u1
  have n0' : ∀ q, 0 ≤ q → q ≤ 7 → 0 ≤ upA N r (N r - 1) q := fun q q0 q1 => by
    by_cases e : q = r
    · rw [e, upA_same]; omega
    · rw [upA_other _ _ e]; exact h.n0 q q0 q1
  have sm : sum8 (upA N r (N r - 1)) = s - 1 := by rw [sum8_upd N _ r r0 r1, h.sum]; omega
  have key : ∀ (U' : Int → Int) (C' : Int → Int → Int) (X : World), KnAt X b U' C' → Only b w X → (U' 1 = if s - 1 = 0 then 0 else 77) → (∀ j, j ≠ 1 → U' j = 0) → (∀ q, 0 ≤ q → q ≤ 7 → C' 1 q = upA N r (N r - 1) q) →
      RS w0 b c (X.setCell ⟨c, r.toNat, none⟩ (.int .i64 (N r - 1))) (upA N r (N r - 1)) (s - 1) U' C' := fun U' C' X k o u1 uo c1 =>
    { ky := (h.ky.only k o).other _ _ h.ne h.ge
      arr := (h.arr.only o h.ne).set r0 _
      ne := h.ne, ge := h.ge
      n0 := n0'
      sum := sm
      bd := by omega
      u1 := u1
      uo := uo
      c1 := c1 }
  have hc := h.c1 r r0 r1
  have cc : ∀ q, 0 ≤ q → q ≤ 7 → upC C 1 r (C 1 r - 1) 1 q = upA N r (N r - 1) q := fun q q0 q1 => by
    by_cases e2 : q = r
    · subst e2
      rw [upC_same, upA_same, hc]
    · rw [upC_ring _ _ e2, upA_other _ _ e2]
      exact h.c1 q q0 q1
  by_cases e : s - 1 = 0
  · obtain rfl : z = true := by rw [hz]; exact decide_eq_true e
    have zz : ∀ q, 0 ≤ q → q ≤ 7 → upA N r (N r - 1) q = 0 := fun q q0 q1 => by
      have a1 := sum8_one _ n0' q q0 q1
      have a2 := n0' q q0 q1
      omega
    refine (drop_last h.ky.at_ (k := 1) (r := r) (by omega) (by omega) (by omega) r0 r1 (by omega) (by omega) (fun q q0 q1 => by rw [cc q q0 q1]; exact zz q q0 q1)).mono fun _ X hp => ?_
    obtain ⟨rfl, k, o⟩ := hp
    refine ⟨rfl, o, _, _, key _ _ X k o (by rw [if_pos e]; exact upU_same _ _ _) (fun j hj => by rw [upU_other _ _ hj]; exact h.uo j hj) (fun q q0 q1 => ?_)⟩
    rw [clC_same, zz q q0 q1]
  · obtain rfl : z = false := by rw [hz]; exact decide_eq_false e
    obtain ⟨q, q0, q1, hq⟩ : ∃ q, 0 ≤ q ∧ q ≤ 7 ∧ upA N r (N r - 1) q ≠ 0 := Classical.byContradiction fun H => e (by
      rw [← sm]
      exact sum8_none _ fun q q0 q1 => Classical.byContradiction fun H2 => H ⟨q, q0, q1, H2⟩)
    refine (drop_more h.ky.at_ (k := 1) (r := r) (by omega) (by omega) (by omega) r0 r1 (by omega) (by omega) q0 q1 (by rw [cc q q0 q1]; exact hq)).mono fun _ X hp => ?_
    obtain ⟨rfl, k, o⟩ := hp
    exact ⟨rfl, o, _, _, key _ _ X k o (by rw [if_neg e]; exact u1) h.uo cc⟩
end

theorem turn_all (o : Int) (N : Int → Int) (h : ∀ j, 0 ≤ j → j < 8 → N ((j * 3 + o) % 8) = 0) : ∀ r, 0 ≤ r → r ≤ 7 → N r = 0 := fun r r0 r1 => by
  have := h ((3 * (r - o + 256)) % 8) (by omega) (by omega)
  rw [show ((3 * (r - o + 256)) % 8 * 3 + o) % 8 = r by omega] at this
  exact this

theorem nums_at {k : IntKind} {w X : World} {b o : Nat} {zs : List Int} (hc : ∀ i, i < zs.length → w.cell? ⟨b, o + i, none⟩ = some (.int k (zs.getD i 0))) (hb : Below w.heap.size w X) {i : Nat} (hi : i < zs.length) : X.cell? ⟨b, o + i, none⟩ = some (.int k (zs.getD i 0)) :=
  (hb.cell (p := ⟨b, o + i, none⟩) (World.block_lt_of_cell? w _ (hc i hi))).trans (hc i hi)

set_option maxRecDepth 8000 in
set_option maxHeartbeats 4000000 in
theorem rings_walk (p : Option Addr) (cap : Nat) (zs : List Int) (o : Int) (w : World) (hN : W.NumsIn .u8 w p zs) (hm : zs.length ≤ 9223372036854775807) (hz : ∀ n ∈ zs, 0 ≤ n ∧ n ≤ 255) (o0 : 0 ≤ o) (o1 : o ≤ 255) :
    Calls Try.prog 4 #[.slice p zs.length cap, .int .u8 o] w fun e w' => e = .returned (.bool true) ∧ Below w.heap.size w w' := by
  have HN := Lib.hid hN
  have HZ := Lib.hid hz
  clear hN hz
  by_cases h100 : 100 < zs.length
  · go_enter Try.func4, Try.ntmps4
    go_wp2_with (first
      | (go_at_call 7; ((with_reducible refine (awake_any w).mono ?_); rintro e wa ⟨rfl, ba⟩))
      | (go_at_call 8; ((with_reducible refine (new_any wa).mono ?_); rintro e wb ⟨rfl, rfl⟩; have K0 := Lib.hid (ky_new ba))))
    go_ret
    exact ⟨rfl, K0.out.bel⟩
  go_enter Try.func4, Try.ntmps4
  go_wp2_with (first
    | (go_at_call 7; ((with_reducible refine (awake_any w).mono ?_); rintro e wa ⟨rfl, ba⟩))
    | (go_at_call 8; ((with_reducible refine (new_any wa).mono ?_); rintro e wb ⟨rfl, hwb⟩; have K0 := ky_new ba; rw [← hwb] at K0; have S0 := Lib.hid (show wb.heap.size = wa.heap.size + 1 by rw [hwb]; simp); clear hwb)))
  have hstart : ∃ U C, RS w wa.heap.size wb.heap.size (wb.alloc (.cells #[.int .i64 0, .int .i64 0, .int .i64 0, .int .i64 0, .int .i64 0, .int .i64 0, .int .i64 0, .int .i64 0] 34)) (fun _ => 0) 0 U C := ⟨_, _, {
    ky := K0.below ((Below.refl _ _).alloc (Nat.le_refl _) _)
    arr := arr_new iv wb _ 8 0 _ rfl
    ne := by have := S0.out; omega
    ge := by have := S0.out; have := ba.size; omega
    n0 := fun _ _ _ => Int.le_refl _
    sum := rfl
    bd := by omega
    u1 := rfl
    uo := fun _ _ => rfl
    c1 := fun _ _ _ => rfl }⟩
  clear K0 S0
  generalize wa.heap.size = b at *
  generalize wb.heap.size = c at *
  have hlen : zs.length ≤ 100 := by omega
  clear h100
  go_loopw [7] (fun i X => ∃ (k : Nat) (N : Int → Int) (U : Int → Int) (C : Int → Int → Int), k ≤ zs.length ∧ i = .int .i64 k ∧ RS w b c X N k U C) (fun i _ => zs.length - (intOf i).toNat)
  case atStart => 
    obtain ⟨U, C, hs⟩ := hstart
    exact ⟨0, _, U, C, by omega, rfl, hs⟩
  case round =>
    clear hstart
    obtain ⟨k, N, U, C, hk, rfl, H⟩ := hrel
    by_cases hlt : k < zs.length
    · obtain ⟨g, off, rfl, hc⟩ := HN.out (by omega)
      have hc0 := nums_at hc H.ky.bel (i := k) hlt
      obtain ⟨x0, x1⟩ := HZ.out (zs.getD k 0) (by simp [List.getD, hlt])
      generalize zs.getD k 0 = x at *
      have i1 : (k : Int) < (zs.length : Int) := by omega
      have i0 : (0 : Int) ≤ (k : Int) := by omega
      have i2 : 0 ≤ x % 8 := by omega
      have i3 : x % 8 < 8 := by omega
      obtain ⟨z, hz⟩ : ∃ z : Bool, z = decide ((k : Int) = 0) := ⟨_, rfl⟩
      have HA := Lib.hid (rs_add H i2 (by omega) (by omega) z hz)
      have hz2 : ((k : Int) == 0) = z := by rw [hz]; rfl
      have a1 := H.arr.cell i2 i3
      have a2 := H.arr.fz (x % 8).toNat
      have HR := Lib.hid H
      have hn0 := H.n0 (x % 8) i2 (by omega)
      have hn1 := sum8_one N H.n0 (x % 8) i2 (by omega)
      rw [H.sum] at hn1
      clear hc hz H
      cases z
      all_goals
        go_wp2_with (first
          | (go_at_call 9; ((with_reducible refine HA.out.mono ?_); rintro e w1 ⟨rfl, o1, U1, C1, r1⟩; have b1 := ArrB.cell (HR.out.arr.only o1 HR.out.ne) i2 i3; have b2 := ArrB.fz (HR.out.arr.only o1 HR.out.ne) (x % 8).toNat)))
        go_roundw
        case rel => exact ⟨k + 1, _, _, _, by omega, by go_num, r1⟩
        case measure => simp [intOf]; omega
    · have hk' : k = zs.length := by omega
      have d : decide ((k : Int) < (zs.length : Int)) = false := decide_eq_false (by omega)
      subst hk'
      have h0 : ∀ j, 0 ≤ j → j < 0 → N ((j * 3 + o) % 8) = 0 := fun j h1 h2 => by omega
      have HS := Lib.hid h0
      clear h0
      have H1 := Lib.hid H
      clear H
      go_wp2
      clear d
      go_loopw [12, 13] (fun l i X => ∃ (s A : Int) (N : Int → Int) (U : Int → Int) (C : Int → Int → Int), l = .int .i64 s ∧ i = .int .i64 A ∧ 0 ≤ A ∧ A ≤ 8 ∧ RS w b c X N s U C ∧ Hid (∀ j, 0 ≤ j → j < A → N ((j * 3 + o) % 8) = 0)) (fun _ i _ => 8 - (intOf i).toNat)
      case atStart => exact ⟨_, 0, _, _, _, rfl, rfl, by omega, by omega, H1.out, HS⟩
      case round =>
        clear H1 HS
        obtain ⟨s, A, N, U, C, rfl, rfl, A0, A8, H, HS⟩ := hrel
        by_cases hA : A < 8
        · have d : decide (A < 8) = true := decide_eq_true hA
          have q0 : 0 ≤ (A * 3 + o) % 8 := by omega
          have q1 : (A * 3 + o) % 8 < 8 := by omega
          have H1 := Lib.hid H
          clear H
          go_wp2
          generalize hq : (A * 3 + o) % 8 = q at *
          have HQ := Lib.hid hq
          clear hq
          go_loopw [12] (fun l X => ∃ (s : Int) (N : Int → Int) (U : Int → Int) (C : Int → Int → Int), l = .int .i64 s ∧ RS w b c X N s U C ∧ Hid (∀ j, 0 ≤ j → j < A → N ((j * 3 + o) % 8) = 0)) (fun l _ => (intOf l).toNat)
          case atStart => exact ⟨_, _, _, _, rfl, H1.out, HS⟩
          case round =>
            clear H1 HS
            obtain ⟨s, N, U, C, rfl, H, HS⟩ := hrel
            have a1 := H.arr.cell q0 q1
            have a2 := H.arr.fz q.toNat
            have hn1 := sum8_one N H.n0 q q0 (by omega)
            rw [H.sum] at hn1
            have hbd := H.bd
            by_cases hp : 0 < N q
            · have d1 : decide (0 < N q) = true := decide_eq_true hp
              have hu1 := H.u1
              rw [if_neg (by omega)] at hu1
              have hcall : ∀ m, Calls Try.prog 12 #[KP b, .int .i64 1, .int .i64 q] (wr.drewN m) fun e w' => e = .returned (.int .i64 (N q)) ∧ w' = wr.drewN m := fun m =>
                (count_is (H.drewN m).ky.at_ (k := 1) (r := q) (by omega) (by omega) (by omega) q0 (by omega) (H.c1 q q0 (by omega))).mono fun _ _ h => ⟨h.1, h.2.symm⟩
              have HC := Lib.hid hcall
              have H1 := Lib.hid H
              clear H hu1 hcall
              go_wp2
              go_quiet ((go_at_call 12; exact Calls.quiet_of_same (HC.out _)))
              have H2 := H1.out.drewN nq
              clear HC H1 a1 a2
              generalize wr.drewN nq = V at *
              obtain ⟨z, hz⟩ : ∃ z : Bool, z = decide (s - 1 = 0) := ⟨_, rfl⟩
              have HA := Lib.hid (rs_drop H2 q0 (by omega) hp z hz)
              have hz2 : (s - 1 == 0) = z := by rw [hz]; rfl
              have HR := Lib.hid H2
              clear hz H2
              cases z
              all_goals
                go_wp2_with (first
                  | (go_at_call 13; ((with_reducible refine HA.out.mono ?_); rintro e w1 ⟨rfl, o1, U1, C1, r1⟩; have b1 := ArrB.cell (HR.out.arr.only o1 HR.out.ne) q0 q1; have b2 := ArrB.fz (HR.out.arr.only o1 HR.out.ne) q.toNat)))
                go_roundw
                case rel => exact ⟨s - 1, _, _, _, rfl, r1, Lib.hid (fun j j0 j1 => by
                  rw [upA_other _ _ (fun e => by have := HS.out j j0 j1; rw [e] at this; omega)]
                  exact HS.out j j0 j1)⟩
                case measure => simp [intOf]; omega
            · have d1 : decide (0 < N q) = false := decide_eq_false hp
              have hz : N q = 0 := by have := H.n0 q q0 (by omega); omega
              have HZ2 := Lib.hid hz
              have H1 := Lib.hid H
              clear hz H
              go_wp2
              go_roundw
              case rel => exact ⟨s, A + 1, N, U, C, rfl, rfl, by omega, by omega, H1.out, Lib.hid (fun j j0 j1 => by
                by_cases e : j = A
                · subst e
                  rw [HQ.out]
                  exact HZ2.out
                · exact HS.out j j0 (by omega))⟩
              case measure => simp [intOf]; omega
        · obtain rfl : A = 8 := by omega
          have z := turn_all o N HS.out
          have hs : s = 0 := by rw [← H.sum]; exact sum8_none N z
          have u1 := H.u1
          rw [if_pos hs] at u1
          have all0 : ∀ j, U j = 0 := fun j => by
            by_cases e : j = 1
            · rw [e]; exact u1
            · exact H.uo j e
          have HM : Hid _ := Lib.hid (number_any H.ky.at_ (x := 77) (n := 0) (by omega) (Or.inr ⟨rfl, fun j _ _ => by rw [all0]; omega⟩))
          have HL : Hid _ := Lib.hid (all_len H.ky.at_ (n := 0) (by rw [lst_none U (fun j _ _ => all0 j) 64 (by omega)]; rfl))
          have HB := Lib.hid H.ky.bel
          clear H HS z u1 all0 hs
          go_wp2_with (first
            | (go_at_call 14; ((with_reducible refine HM.out.mono ?_); rintro e w1 ⟨rfl, rfl⟩))
            | (go_at_call 11; ((with_reducible refine HL.out.mono ?_); rintro e w2 ⟨p2, c2, rfl, b2⟩)))
          go_ret
          exact ⟨rfl, HB.out.trans (b2.mono HB.out.size)⟩

end Go.Proofs.Ytmkapleliholkaa.K
