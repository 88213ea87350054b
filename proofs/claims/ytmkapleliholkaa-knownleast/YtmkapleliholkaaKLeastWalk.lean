/-
  The law KnownLeast answers true: numbers that are free are given again, the least first; a number is never two segments.
-/
import Derived.Test.YtmkapleliholkaaKArr
namespace Go.Proofs.Ytmkapleliholkaa.K
open Go.ChangeShapes Go.WideShapes Go.ChangeAt Go.RowKit

abbrev iv : Int → Value := Value.int .i64

/-- the law's memory: the table has at each number what A says, by one use of ring 4; A's row beside it; m was given last -/
structure LS (w0 : World) (b c : Nat) (w : World) (A : Int → Int) (m : Int) (U : Int → Int) (C : Int → Int → Int) : Prop where
  ky : KY w0 w b U C
  arr : ArrB iv w c 41 64 A
  ne : c ≠ b
  ge : w0.heap.size ≤ c
  u : ∀ j, 1 ≤ j → j ≤ 63 → U j = A j
  cc : ∀ j r, 1 ≤ j → j ≤ 63 → 0 ≤ r → r ≤ 7 → C j r = if A j ≠ 0 ∧ r = 4 then 1 else 0
  a : ∀ j, A j = 0 ∨ (100 < A j ∧ A j ≤ m)
  m0 : 100 ≤ m

section
variable {w0 w : World} {b c : Nat} {A : Int → Int} {m : Int} {U : Int → Int} {C : Int → Int → Int}

theorem LS.full (h : LS w0 b c w A m U C) (hf : ∀ j, 1 ≤ j → j ≤ 63 → A j ≠ 0) {x : Int} (hx : x = m + 1) : Calls Try.prog 9 #[KP b, .int .i64 x, .int .i64 4] w fun e w' => e = .returned (.tuple #[.int .i64 0, .bool false, .int .i64 7]) ∧ w = w' := by
  subst hx
  have := h.m0
  exact add_full h.ky.at_ (x := m + 1) (r := 4) (by omega) (by omega) (by omega) (Or.inr ⟨rfl, fun j j0 j1 => by have := h.a j; rw [h.u j j0 j1]; omega⟩) (Or.inr ⟨rfl, fun j j0 j1 => by rw [h.u j j0 j1]; exact hf j j0 j1⟩)

theorem LS.more (h : LS w0 b c w A m U C) : LS w0 b c w A (m + 1) U C := ⟨h.ky, h.arr, h.ne, h.ge, h.u, h.cc, fun j => by have := h.a j; omega, by have := h.m0; omega⟩

theorem LS.add (h : LS w0 b c w A m U C) {n : Int} (n0 : 1 ≤ n) (n1 : n ≤ 63) (hn : A n = 0) (hl : ∀ j, 1 ≤ j → j < n → A j ≠ 0) {x : Int} (hx : x = m + 1) :
    Calls Try.prog 9 #[KP b, .int .i64 x, .int .i64 4] w fun e w' => e = .returned (.tuple #[.int .i64 n, .bool true, .int .i64 0]) ∧ Only b w w' ∧ ∃ U' C', LS w0 b c (w'.setCell ⟨c, n.toNat, none⟩ (.int .i64 x)) (upA A n x) x U' C' := by
  subst hx
  have hm := h.m0
  refine (add_new h.ky.at_ (x := m + 1) (r := 4) (n := n) (by omega) (by omega) (by omega) (Or.inr ⟨rfl, fun j j0 j1 => by have := h.a j; rw [h.u j j0 j1]; omega⟩) (Or.inl ⟨n0, n1, by rw [h.u n n0 n1, hn], fun j j0 j1 => by rw [h.u j j0 (by omega)]; exact hl j j0 j1⟩) (by omega) (by rw [h.cc n 4 n0 n1 (by omega) (by omega), if_neg (fun e => e.1 hn)])).mono fun _ X hp => ?_
  obtain ⟨rfl, k, o⟩ := hp
  refine ⟨rfl, o, _, _, {
    ky := (h.ky.only k o).other _ _ h.ne h.ge
    arr := (h.arr.only o h.ne).set (by omega) _
    ne := h.ne
    ge := h.ge
    u := fun j j0 j1 => ?_
    cc := fun j r j0 j1 r0 r1 => ?_
    a := fun j => ?_
    m0 := by omega }⟩
  · by_cases e : j = n
    · subst e
      rw [upU_same, upA_same]
    · rw [upU_other _ _ e, upA_other _ _ e]
      exact h.u j j0 j1
  · by_cases e : j = n
    · subst e
      rw [upA_same]
      by_cases e2 : r = 4
      · subst e2
        rw [upC_same, if_pos ⟨by omega, rfl⟩]
      · rw [upC_ring _ _ e2, h.cc j r j0 j1 r0 r1, if_neg (fun e => e.1 hn), if_neg (fun e => e2 e.2)]
    · rw [upC_other _ _ _ _ e, upA_other _ _ e]
      exact h.cc j r j0 j1 r0 r1
  · by_cases e : j = n
    · subst e
      rw [upA_same]
      omega
    · rw [upA_other _ _ e]
      have := h.a j
      omega

theorem LS.gone (h : LS w0 b c w A m U C) {n : Int} (n0 : 1 ≤ n) (n1 : n ≤ 63) (hn : A n = 0) : Calls Try.prog 13 #[KP b, .int .i64 n, .int .i64 4] w fun e w' => e = .returned (.tuple #[.bool false, .int .i64 4]) ∧ w = w' :=
  drop_none h.ky.at_ (by omega) (by omega) (Or.inr (Or.inr (by rw [h.u n n0 n1, hn])))

theorem LS.same (h : LS w0 b c w A m U C) {n : Int} (n0 : 1 ≤ n) (hn : A n = 0) : LS w0 b c (w.setCell ⟨c, n.toNat, none⟩ (.int .i64 0)) A m U C where
  ky := h.ky.other _ _ h.ne h.ge
  arr := by
    have := h.arr.set (show 0 ≤ n by omega) 0
    rw [show upA A n 0 = A from funext fun j => by
      by_cases e : j = n
      · subst e
        rw [upA_same, hn]
      · rw [upA_other _ _ e]] at this
    exact this
  ne := h.ne
  ge := h.ge
  u := h.u
  cc := h.cc
  a := h.a
  m0 := h.m0

theorem LS.drop (h : LS w0 b c w A m U C) {n : Int} (n0 : 1 ≤ n) (n1 : n ≤ 63) (hn : A n ≠ 0) :
    Calls Try.prog 13 #[KP b, .int .i64 n, .int .i64 4] w fun e w' => e = .returned (.tuple #[.bool true, .int .i64 0]) ∧ Only b w w' ∧ ∃ U' C', LS w0 b c (w'.setCell ⟨c, n.toNat, none⟩ (.int .i64 0)) (upA A n 0) m U' C' := by
  have hc : ∀ r, 0 ≤ r → r ≤ 7 → C n r = if r = 4 then 1 else 0 := fun r r0 r1 => by
    rw [h.cc n r n0 n1 r0 r1]
    by_cases e : r = 4
    · rw [if_pos ⟨hn, e⟩, if_pos e]
    · rw [if_neg (fun x => e x.2), if_neg e]
  have h4 : C n 4 = 1 := by rw [hc 4 (by omega) (by omega)]; rfl
  refine (drop_last h.ky.at_ (k := n) (r := 4) n0 n1 (by rw [h.u n n0 n1]; exact hn) (by omega) (by omega) (by omega) (by omega) (fun s s0 s1 => ?_)).mono fun _ X hp => ?_
  · by_cases e : s = 4
    · subst e
      rw [upC_same]
      omega
    · rw [upC_ring _ _ e, hc s s0 s1, if_neg e]
  · obtain ⟨rfl, k, o⟩ := hp
    refine ⟨rfl, o, _, _, {
      ky := (h.ky.only k o).other _ _ h.ne h.ge
      arr := (h.arr.only o h.ne).set (by omega) _
      ne := h.ne
      ge := h.ge
      u := fun j j0 j1 => ?_
      cc := fun j r j0 j1 r0 r1 => ?_
      a := fun j => ?_
      m0 := h.m0 }⟩
    · by_cases e : j = n
      · subst e
        rw [upU_same, upA_same]
      · rw [upU_other _ _ e, upA_other _ _ e]
        exact h.u j j0 j1
    · by_cases e : j = n
      · subst e
        rw [upA_same, clC_same, if_neg (fun e => e.1 rfl)]
      · rw [clC_other _ _ e, upA_other _ _ e]
        exact h.cc j r j0 j1 r0 r1
    · by_cases e : j = n
      · subst e
        rw [upA_same]
        exact Or.inl rfl
      · rw [upA_other _ _ e]
        exact h.a j

theorem LS.uid_yes (h : LS w0 b c w A m U C) {n : Int} (n0 : 1 ≤ n) (n1 : n ≤ 63) (hn : A n ≠ 0) : Calls Try.prog 15 #[KP b, .int .i64 n] w fun e w' => e = .returned (.tuple #[.int .i64 (A n), .bool true]) ∧ w = w' := by
  have := K.uid_yes h.ky.at_ n0 n1 (by rw [h.u n n0 n1]; exact hn)
  rw [h.u n n0 n1] at this
  exact this
theorem LS.uid_no (h : LS w0 b c w A m U C) {n : Int} (n0 : 1 ≤ n) (n1 : n ≤ 63) (hn : A n = 0) : Calls Try.prog 15 #[KP b, .int .i64 n] w fun e w' => e = .returned (.tuple #[.int .i64 0, .bool false]) ∧ w = w' :=
  K.uid_no h.ky.at_ (Or.inr (Or.inr (by rw [h.u n n0 n1, hn])))
end

/-- the least free number, looked for from 63 down to n -/
def Low (A : Int → Int) (n v : Int) : Prop := (v = 0 ∧ ∀ j, n < j → j ≤ 63 → A j ≠ 0) ∨ (n < v ∧ v ≤ 63 ∧ A v = 0 ∧ ∀ j, n < j → j < v → A j ≠ 0)
theorem Low.hit {A : Int → Int} {n : Int} (h1 : n ≤ 63) (hA : A n = 0) : Low A (n - 1) n := Or.inr ⟨by omega, h1, hA, fun j j0 j1 => by omega⟩
theorem Low.miss {A : Int → Int} {n v : Int} (h : Low A n v) (hA : A n ≠ 0) : Low A (n - 1) v := by
  rcases h with ⟨h, g⟩ | ⟨h0, h1, h2, g⟩
  · refine Or.inl ⟨h, fun j j0 j1 => ?_⟩
    by_cases e : j = n
    · rw [e]; exact hA
    · exact g j (by omega) j1
  · refine Or.inr ⟨by omega, h1, h2, fun j j0 j1 => ?_⟩
    by_cases e : j = n
    · rw [e]; exact hA
    · exact g j (by omega) j1

theorem nums_at {k : IntKind} {w X : World} {b o : Nat} {zs : List Int} (hc : ∀ i, i < zs.length → w.cell? ⟨b, o + i, none⟩ = some (.int k (zs.getD i 0))) (hb : Below w.heap.size w X) {i : Nat} (hi : i < zs.length) : X.cell? ⟨b, o + i, none⟩ = some (.int k (zs.getD i 0)) :=
  (hb.cell (p := ⟨b, o + i, none⟩) (World.block_lt_of_cell? w _ (hc i hi))).trans (hc i hi)

set_option maxRecDepth 20000 in
set_option maxHeartbeats 4000000 in
theorem least_walk (p : Option Addr) (cap : Nat) (zs : List Int) (w : World) (hN : W.NumsIn .u8 w p zs) (hm : zs.length ≤ 9223372036854775807) (hz : ∀ n ∈ zs, 0 ≤ n ∧ n ≤ 255) :
    Calls Try.prog 6 #[.slice p zs.length cap] w fun e w' => e = .returned (.bool true) ∧ Below w.heap.size w w' := by
  have HN := Lib.hid hN
  have HZ := Lib.hid hz
  clear hN hz
  by_cases h200 : 200 < zs.length
  · go_enter Try.func6, Try.ntmps6
    go_wp2_with (first
      | (go_at_call 7; ((with_reducible refine (awake_any w).mono ?_); rintro e wa ⟨rfl, ba⟩))
      | (go_at_call 8; ((with_reducible refine (new_any wa).mono ?_); rintro e wb ⟨rfl, rfl⟩; have K0 := Lib.hid (ky_new ba))))
    go_ret
    exact ⟨rfl, K0.out.bel⟩
  go_enter Try.func6, Try.ntmps6
  go_wp2_with (first
    | (go_at_call 7; ((with_reducible refine (awake_any w).mono ?_); rintro e wa ⟨rfl, ba⟩))
    | (go_at_call 8; ((with_reducible refine (new_any wa).mono ?_); rintro e wb ⟨rfl, hwb⟩; have K0 := ky_new ba; rw [← hwb] at K0; have S0 := Lib.hid (show wb.heap.size = wa.heap.size + 1 by rw [hwb]; simp); clear hwb)))
  have hlen : zs.length ≤ 200 := by omega
  have hstart : LS w wa.heap.size wb.heap.size (wb.alloc (.cells #[.int .i64 0, .int .i64 0, .int .i64 0, .int .i64 0, .int .i64 0, .int .i64 0, .int .i64 0, .int .i64 0, .int .i64 0, .int .i64 0, .int .i64 0, .int .i64 0, .int .i64 0, .int .i64 0, .int .i64 0, .int .i64 0, .int .i64 0, .int .i64 0, .int .i64 0, .int .i64 0, .int .i64 0, .int .i64 0, .int .i64 0, .int .i64 0, .int .i64 0, .int .i64 0, .int .i64 0, .int .i64 0, .int .i64 0, .int .i64 0, .int .i64 0, .int .i64 0, .int .i64 0, .int .i64 0, .int .i64 0, .int .i64 0, .int .i64 0, .int .i64 0, .int .i64 0, .int .i64 0, .int .i64 0, .int .i64 0, .int .i64 0, .int .i64 0, .int .i64 0, .int .i64 0, .int .i64 0, .int .i64 0, .int .i64 0, .int .i64 0, .int .i64 0, .int .i64 0, .int .i64 0, .int .i64 0, .int .i64 0, .int .i64 0, .int .i64 0, .int .i64 0, .int .i64 0, .int .i64 0, .int .i64 0, .int .i64 0, .int .i64 0, .int .i64 0] 41)) (fun _ => 0) 100 U0 C0 := {
    ky := K0.below ((Below.refl _ _).alloc (Nat.le_refl _) _)
    arr := arr_new iv wb _ 64 0 _ rfl
    ne := by have := S0.out; omega
    ge := by have := S0.out; have := ba.size; omega
    u := fun _ _ _ => rfl
    cc := fun _ _ _ _ _ _ => by rw [if_neg (fun e => e.1 rfl)]; rfl
    a := fun _ => Or.inl rfl
    m0 := by omega }
  clear K0 S0 h200
  generalize wa.heap.size = b at *
  generalize wb.heap.size = c at *
  go_loopw [5, 6] (fun q v X => ∃ (k : Nat) (m : Int) (A U : Int → Int) (C : Int → Int → Int), k ≤ zs.length ∧ m ≤ 100 + k ∧ q = .int .i64 m ∧ v = .int .i64 k ∧ LS w b c X A m U C) (fun _ v _ => zs.length - (intOf v).toNat)
  case atStart => exact ⟨0, 100, _, _, _, by omega, by omega, rfl, rfl, hstart⟩
  case round =>
    clear hstart
    obtain ⟨k, m, A, U, C, hk, hmk, rfl, rfl, H⟩ := hrel
    by_cases hlt : k < zs.length
    · obtain ⟨g, off, rfl, hc⟩ := HN.out (by omega)
      have hc0 := nums_at hc H.ky.bel (i := k) hlt
      obtain ⟨x0, x1⟩ := HZ.out (zs.getD k 0) (by simp [List.getD, hlt])
      generalize zs.getD k 0 = x at *
      have j1 : (k : Int) < (zs.length : Int) := by omega
      have j0 : (0 : Int) ≤ (k : Int) := by omega
      have m0 := H.m0
      have H1 := Lib.hid H
      clear hc H
      by_cases hodd : bits .and .u8 x 1 = 0
      · have hodd' : (bits .and .u8 x 1 == 0) = true := by simpa using hodd
        clear hodd
        go_wp2
        clear hodd' hc0
        go_loopw [7, 8] (fun q v X => ∃ n u : Int, 0 ≤ n ∧ n ≤ 63 ∧ q = .int .i64 u ∧ v = .int .i64 n ∧ X = wr ∧ Hid (Low A n u)) (fun _ v _ => (intOf v).toNat)
        case atStart => exact ⟨63, 0, by omega, by omega, rfl, rfl, rfl, Lib.hid (Or.inl ⟨rfl, fun j j0 j1 => by omega⟩)⟩
        case round =>
          obtain ⟨n, u, n0, n1, rfl, rfl, hW, HL⟩ := hrel
          have hW' := hW.symm
          subst hW'
          by_cases hn : 1 ≤ n
          · have d : decide (1 ≤ n) = true := decide_eq_true hn
            have i1 : n < 64 := by omega
            have a1 := H1.out.arr.cell n0 i1
            by_cases hA : A n = 0
            · rw [hA] at a1
              have HA := Lib.hid hA
              clear hA
              go_wp2
              go_roundw
              case rel => exact ⟨n - 1, n, by omega, by omega, rfl, rfl, trivial, Lib.hid (Low.hit n1 HA.out)⟩
              case measure => simp [intOf]; omega
            · have d2 : (A n == 0) = false := by simpa using hA
              have HM := Lib.hid (HL.out.miss hA)
              clear hA
              generalize A n = y at *
              go_wp2
              go_roundw
              case rel => exact ⟨n - 1, u, by omega, by omega, rfl, rfl, trivial, HM⟩
              case measure => simp [intOf]; omega
          · obtain rfl : n = 0 := by omega
            have i1 : IntKind.i64.wrap (m + 1) = m + 1 := IntWalk.i64_in _ (by omega)
            rcases HL.out with ⟨h0, hf⟩ | ⟨h0, h1, h2, hf⟩
            · subst h0
              have HA := Lib.hid (H1.out.full (fun j j0 j1 => hf j (by omega) j1) rfl)
              have H2 := Lib.hid H1.out.more
              clear hf HL H1
              go_wp2_with (first
                | (go_at_call 9; ((with_reducible refine HA.out.mono ?_); rintro e w2 ⟨rfl, rfl⟩)))
              go_roundw
              case rel => exact ⟨k + 1, m + 1, _, _, _, by omega, by omega, rfl, by go_num, H2.out⟩
              case measure => simp [intOf]; omega
            · have HA := Lib.hid (H1.out.add (by omega) h1 h2 (fun j j0 j1 => hf j (by omega) j1) rfl)
              have HR := Lib.hid H1.out
              have d1 : (u == 0) = false := by simp; omega
              have u0 : 0 ≤ u := by omega
              have u1 : u < 64 := by omega
              clear hf HL H1 h2
              go_wp2_with (first
                | (go_at_call 9; ((with_reducible refine HA.out.mono ?_); rintro e w2 ⟨rfl, o2, U2, C2, r2⟩; have b1 := ArrB.cell (HR.out.arr.only o2 HR.out.ne) u0 u1; have b2 := ArrB.fz (HR.out.arr.only o2 HR.out.ne) u.toNat)))
              go_roundw
              case rel => exact ⟨k + 1, m + 1, _, _, _, by omega, by omega, rfl, by go_num, r2⟩
              case measure => simp [intOf]; omega
      · have hodd' : (bits .and .u8 x 1 == 0) = false := by simpa using hodd
        clear hodd
        have n0 : 0 ≤ 1 + x / 2 % 8 := by omega
        have n1 : 1 + x / 2 % 8 < 64 := by omega
        have HG := Lib.hid (show 1 ≤ 1 + x / 2 % 8 by omega)
        have a1 := H1.out.arr.cell n0 n1
        have a2 := H1.out.arr.fz (1 + x / 2 % 8).toNat
        by_cases hA : A (1 + x / 2 % 8) = 0
        · have HC := Lib.hid (H1.out.gone HG.out (by omega) hA)
          have H2 := Lib.hid (H1.out.same HG.out hA)
          rw [hA] at a1
          clear hA H1
          go_wp2_with (first
            | (go_at_call 13; ((with_reducible refine HC.out.mono ?_); rintro e w2 ⟨rfl, rfl⟩)))
          go_roundw
          case rel => exact ⟨k + 1, m, _, _, _, by omega, by omega, rfl, by go_num, H2.out⟩
          case measure => simp [intOf]; omega
        · have HC := Lib.hid (H1.out.drop HG.out (by omega) hA)
          have d2 : (A (1 + x / 2 % 8) != 0) = true := by simpa using hA
          clear hA a1 a2
          go_wp2_with (first
            | (go_at_call 13; ((with_reducible refine HC.out.mono ?_); rintro e w2 ⟨rfl, o2, U2, C2, r2⟩; have b1 := ArrB.cell (H1.out.arr.only o2 H1.out.ne) n0 n1; have b2 := ArrB.fz (H1.out.arr.only o2 H1.out.ne) (1 + x / 2 % 8).toNat)))
          go_roundw
          case rel => exact ⟨k + 1, m, _, _, _, by omega, by omega, rfl, by go_num, r2⟩
          case measure => simp [intOf]; omega
    · have d : decide ((k : Int) < (zs.length : Int)) = false := decide_eq_false (by omega)
      have H1 := Lib.hid H
      clear H
      go_wp2
      clear d
      go_loopw [15] (fun v X => ∃ n : Int, 1 ≤ n ∧ n ≤ 64 ∧ v = .int .i64 n ∧ X = wr) (fun v _ => 64 - (intOf v).toNat)
      case atStart => exact ⟨1, by omega, by omega, rfl, rfl⟩
      case round =>
        obtain ⟨n, n0, n1, rfl, hW⟩ := hrel
        have hW' := hW.symm
        subst hW'
        by_cases hn : n ≤ 63
        · have d : decide (n ≤ 63) = true := decide_eq_true hn
          have i0 : 0 ≤ n := by omega
          have i1 : n < 64 := by omega
          have a1 := H1.out.arr.cell i0 i1
          by_cases hA : A n = 0
          · have HC := Lib.hid (H1.out.uid_no n0 hn hA)
            rw [hA] at a1
            clear hA
            go_wp2_with (first
              | (go_at_call 15; ((with_reducible refine HC.out.mono ?_); rintro e w2 ⟨rfl, rfl⟩)))
            go_roundw
            case rel => exact ⟨n + 1, by omega, by omega, rfl, trivial⟩
            case measure => simp [intOf]; omega
          · have HC := Lib.hid (H1.out.uid_yes n0 hn hA)
            have d2 : (A n != 0) = true := by simpa using hA
            clear hA
            generalize A n = y at *
            go_wp2_with (first
              | (go_at_call 15; ((with_reducible refine HC.out.mono ?_); rintro e w2 ⟨rfl, rfl⟩)))
            go_roundw
            case rel => exact ⟨n + 1, by omega, by omega, rfl, trivial⟩
            case measure => simp [intOf]; omega
        · obtain rfl : n = 64 := by omega
          go_wp2
          go_ret
          exact ⟨rfl, H1.out.ky.bel⟩

end Go.Proofs.Ytmkapleliholkaa.K
