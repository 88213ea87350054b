/-
  What the functions of package known that change nothing answer: one contract a function and a way.
-/
import Derived.Test.YtmkapleliholkaaKHeap
namespace Go.Proofs.Ytmkapleliholkaa.K
open Go.ChangeShapes Go.WideShapes Go.ChangeAt Go.RowKit

abbrev KP (b : Nat) : Value := .pointer (some ⟨b, 0, none⟩)
abbrev SP (b : Nat) (k : Int) : Value := .pointer (some ⟨b, k.toNat * 9, none⟩)

/-- n is the least number whose uid is x, or 0 where there is none -/
def Fst (U : Int → Int) (x n : Int) : Prop := (1 ≤ n ∧ n ≤ 63 ∧ U n = x ∧ ∀ j, 1 ≤ j → j < n → U j ≠ x) ∨ (n = 0 ∧ ∀ j, 1 ≤ j → j ≤ 63 → U j ≠ x)

theorem new_any (w : World) : Calls Try.prog 8 #[] w fun e w' => e = .returned (KP w.heap.size) ∧ w' = w.alloc (.cells kZ 47 (0, 0)) := by
  have hz := zero_known w
  go_enter Try.func8, Try.ntmps8
  go_wp2
  go_ret
  exact ⟨rfl, rfl⟩

theorem ring_yes (r : Int) (w : World) (h0 : 0 ≤ r) (h1 : r ≤ 7) : Calls Try.prog 16 #[.int .i64 r] w fun e w' => e = .returned (.bool true) ∧ w = w' := by
  have d0 : decide (0 ≤ r) = true := decide_eq_true h0
  have d1 : decide (r < 8) = true := decide_eq_true (by omega)
  clear h0 h1
  go_enter Try.func16, Try.ntmps16
  go_wp2
  go_ret
  exact ⟨rfl, rfl⟩

theorem ring_no (r : Int) (w : World) (h : r < 0 ∨ 7 < r) : Calls Try.prog 16 #[.int .i64 r] w fun e w' => e = .returned (.bool false) ∧ w = w' := by
  by_cases h0 : 0 ≤ r
  · have d0 : decide (0 ≤ r) = true := decide_eq_true h0
    have d1 : decide (r < 8) = false := decide_eq_false (by omega)
    clear h0 h
    go_enter Try.func16, Try.ntmps16
    go_wp2
    go_ret
    exact ⟨rfl, rfl⟩
  · have d0 : decide (0 ≤ r) = false := decide_eq_false h0
    clear h0 h
    go_enter Try.func16, Try.ntmps16
    go_wp2
    go_ret
    exact ⟨rfl, rfl⟩

section
variable {w : World} {b : Nat} {U : Int → Int} {C : Int → Int → Int}

theorem find_yes (h : KnAt w b U C) {k : Int} (k0 : 1 ≤ k) (k1 : k ≤ 63) (hU : U k ≠ 0) : Calls Try.prog 18 #[KP b, .int .i64 k] w fun e w' => e = .returned (SP b k) ∧ w = w' := by
  have c := h.uid (k := k) (by omega) k1
  have d0 : decide (k < 1) = false := decide_eq_false (by omega)
  have d1 : decide (63 < k) = false := decide_eq_false (by omega)
  have d2 : (U k == 0) = false := by simpa using hU
  have i0 : 0 ≤ k := by omega
  have i1 : k < 64 := by omega
  clear h hU k0 k1
  generalize U k = u at *
  go_enter Try.func18, Try.ntmps18
  go_wp2
  go_ret
  exact ⟨rfl, rfl⟩

theorem find_no (h : KnAt w b U C) {k : Int} (hk : k < 1 ∨ 63 < k ∨ U k = 0) : Calls Try.prog 18 #[KP b, .int .i64 k] w fun e w' => e = .returned (.pointer none) ∧ w = w' := by
  by_cases k0 : k < 1
  · have d0 : decide (k < 1) = true := decide_eq_true k0
    clear h hk k0
    go_enter Try.func18, Try.ntmps18
    go_wp2
    go_ret
    exact ⟨rfl, rfl⟩
  have d0 : decide (k < 1) = false := decide_eq_false k0
  by_cases k1 : 63 < k
  · have d1 : decide (63 < k) = true := decide_eq_true k1
    clear h hk k0 k1
    go_enter Try.func18, Try.ntmps18
    go_wp2
    go_ret
    exact ⟨rfl, rfl⟩
  have d1 : decide (63 < k) = false := decide_eq_false k1
  have c := h.uid (k := k) (by omega) (by omega)
  rw [show U k = 0 by omega] at c
  have i0 : 0 ≤ k := by omega
  have i1 : k < 64 := by omega
  clear h hk k0 k1
  go_enter Try.func18, Try.ntmps18
  go_wp2
  go_ret
  exact ⟨rfl, rfl⟩

theorem first_any (h : KnAt w b U C) {x n : Int} (hn : Fst U x n) : Calls Try.prog 17 #[KP b, .int .i64 x] w fun e w' => e = .returned (.int .i64 n) ∧ w = w' := by
  have HN := Lib.hid hn
  have HK := Lib.hid h
  clear hn h
  go_enter Try.func17, Try.ntmps17
  go_wp2
  go_loopw [5] (fun i W => ∃ k : Int, 1 ≤ k ∧ k ≤ 64 ∧ i = .int .i64 k ∧ W = w ∧ Hid (∀ j, 1 ≤ j → j < k → U j ≠ x)) (fun i _ => 64 - (intOf i).toNat)
  case atStart => exact ⟨1, by omega, by omega, rfl, rfl, Lib.hid (fun j h1 h2 => by omega)⟩
  case round =>
    obtain ⟨k, k0, k1, rfl, hW, hb⟩ := hrel
    have hW' := hW.symm
    subst hW'
    by_cases hlt : k ≤ 63
    · have d0 : decide (k ≤ 63) = true := decide_eq_true hlt
      have c := HK.out.uid (k := k) (by omega) hlt
      generalize hu : U k = u at *
      have HU := Lib.hid hu
      clear hu
      have i0 : 0 ≤ k := by omega
      have i1 : k < 64 := by omega
      by_cases e : u = x
      · have d1 : (u == x) = true := by simpa using e
        go_wp2
        go_ret
        refine ⟨?_, rfl⟩
        rcases HN.out with ⟨n0, n1, n2, n3⟩ | ⟨n0, n1⟩
        · by_cases e1 : k < n
          · exact absurd (HU.out.trans e) (n3 k k0 e1)
          · by_cases e2 : n < k
            · exact absurd n2 (hb.out n n0 e2)
            · obtain rfl : k = n := by omega
              rfl
        · exact absurd (HU.out.trans e) (n1 k k0 hlt)
      · have d1 : (u == x) = false := by simpa using e
        have E := Lib.hid e
        clear e
        go_wp2
        go_roundw
        case rel => exact ⟨k + 1, by omega, by omega, rfl, trivial, Lib.hid (fun j h1 h2 => by
          by_cases e3 : j = k
          · subst e3
            rw [HU.out]
            exact E.out
          · exact hb.out j h1 (by omega))⟩
        case measure => simp [intOf]; omega
    · have d0 : decide (k ≤ 63) = false := decide_eq_false hlt
      go_wp2
      go_ret
      refine ⟨?_, rfl⟩
      rcases HN.out with ⟨n0, n1, n2, n3⟩ | ⟨n0, n1⟩
      · exact absurd n2 (hb.out n n0 (by omega))
      · subst n0
        rfl

theorem number_any (h : KnAt w b U C) {x n : Int} (hx : x ≠ 0) (hn : Fst U x n) : Calls Try.prog 14 #[KP b, .int .i64 x] w fun e w' => e = .returned (.tuple #[.int .i64 n, .bool (n != 0)]) ∧ w = w' := by
  have d0 : (x == 0) = false := by simpa using hx
  have HN := Lib.hid (fun W => first_any (w := W) (b := b) (U := U) (C := C) (x := x) (n := n))
  have HK := Lib.hid h
  have HF := Lib.hid hn
  clear hx hn h
  go_enter Try.func14, Try.ntmps14
  go_wp2_with (first
    | (go_at_call 17; ((with_reducible refine (HN.out _ HK.out HF.out).mono ?_); rintro e w1 ⟨rfl, rfl⟩)))
  exact bodyPost_ret (v := .tuple #[.int .i64 n, .bool (n != 0)]) (by simp [results, Try.results14, go_sem]) rfl ⟨rfl, rfl⟩

theorem uid_yes (h : KnAt w b U C) {k : Int} (k0 : 1 ≤ k) (k1 : k ≤ 63) (hU : U k ≠ 0) : Calls Try.prog 15 #[KP b, .int .i64 k] w fun e w' => e = .returned (.tuple #[.int .i64 (U k), .bool true]) ∧ w = w' := by
  have c := h.uid (k := k) (by omega) k1
  have HF := Lib.hid (find_yes h k0 k1 hU)
  clear h k0 k1 hU
  generalize U k = u at *
  go_enter Try.func15, Try.ntmps15
  go_wp2_with (first
    | (go_at_call 18; ((with_reducible refine HF.out.mono ?_); rintro e w1 ⟨rfl, rfl⟩)))
  exact bodyPost_ret (v := .tuple #[.int .i64 u, .bool true]) (by simp [results, Try.results15, go_sem]) rfl ⟨rfl, rfl⟩

theorem uid_no (h : KnAt w b U C) {k : Int} (hk : k < 1 ∨ 63 < k ∨ U k = 0) : Calls Try.prog 15 #[KP b, .int .i64 k] w fun e w' => e = .returned (.tuple #[.int .i64 0, .bool false]) ∧ w = w' := by
  have HF := Lib.hid (find_no h hk)
  clear h hk
  go_enter Try.func15, Try.ntmps15
  go_wp2_with (first
    | (go_at_call 18; ((with_reducible refine HF.out.mono ?_); rintro e w1 ⟨rfl, rfl⟩)))
  exact bodyPost_ret (v := .tuple #[.int .i64 0, .bool false]) (by simp [results, Try.results15, go_sem]) rfl ⟨rfl, rfl⟩

theorem count_yes (h : KnAt w b U C) {k r : Int} (k0 : 1 ≤ k) (k1 : k ≤ 63) (hU : U k ≠ 0) (r0 : 0 ≤ r) (r1 : r ≤ 7) : Calls Try.prog 12 #[KP b, .int .i64 k, .int .i64 r] w fun e w' => e = .returned (.int .i64 (C k r)) ∧ w = w' := by
  have c := h.use (k := k) (by omega) k1 r0 r1
  have HF := Lib.hid (find_yes h k0 k1 hU)
  have HR := Lib.hid (ring_yes r w r0 r1)
  have i0 : 0 ≤ r := r0
  have i1 : r < 8 := by omega
  clear h k0 k1 hU r0 r1
  generalize C k r = u at *
  go_enter Try.func12, Try.ntmps12
  go_wp2_with (first
    | (go_at_call 18; ((with_reducible refine HF.out.mono ?_); rintro e w1 ⟨rfl, rfl⟩))
    | (go_at_call 16; ((with_reducible refine HR.out.mono ?_); rintro e w1 ⟨rfl, rfl⟩)))
  go_ret
  exact ⟨rfl, rfl⟩

theorem count_no (h : KnAt w b U C) {k : Int} (r : Int) (hk : k < 1 ∨ 63 < k ∨ U k = 0) : Calls Try.prog 12 #[KP b, .int .i64 k, .int .i64 r] w fun e w' => e = .returned (.int .i64 0) ∧ w = w' := by
  have HF := Lib.hid (find_no h hk)
  clear h hk
  go_enter Try.func12, Try.ntmps12
  go_wp2_with (first
    | (go_at_call 18; ((with_reducible refine HF.out.mono ?_); rintro e w1 ⟨rfl, rfl⟩)))
  go_ret
  exact ⟨rfl, rfl⟩

end

end Go.Proofs.Ytmkapleliholkaa.K
