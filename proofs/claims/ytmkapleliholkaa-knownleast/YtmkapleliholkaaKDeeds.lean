/-
  What Forget, Drop and Add answer and do to a table: one contract a way.
-/
import Derived.Test.YtmkapleliholkaaKCalls
import Derived.ChangeKeysEq
import Derived.RegionTactic
namespace Go.Proofs.Ytmkapleliholkaa.K
open Go.ChangeShapes Go.WideShapes Go.ChangeAt Go.RowKit

section
variable {w : World} {b : Nat} {U : Int → Int} {C : Int → Int → Int}

theorem forget_no (h : KnAt w b U C) {k : Int} (hk : k < 1 ∨ 63 < k ∨ U k = 0) : Calls Try.prog 10 #[KP b, .int .i64 k] w fun e w' => e = .returned (.bool false) ∧ w = w' := by
  have HF := Lib.hid (find_no h hk)
  clear h hk
  go_enter Try.func10, Try.ntmps10
  go_wp2_with (first
    | (go_at_call 18; ((with_reducible refine HF.out.mono ?_); rintro e w1 ⟨rfl, rfl⟩)))
  go_ret
  exact ⟨rfl, rfl⟩

theorem eight_eq (c0 c1 c2 c3 c4 c5 c6 c7 : Int) (t : Bool) (ht : t = true ↔ c0 = 0 ∧ c1 = 0 ∧ c2 = 0 ∧ c3 = 0 ∧ c4 = 0 ∧ c5 = 0 ∧ c6 = 0 ∧ c7 = 0) (W : World) :
    (Op.equalIn 10000 34 (.agg #[.int .i64 c0, .int .i64 c1, .int .i64 c2, .int .i64 c3, .int .i64 c4, .int .i64 c5, .int .i64 c6, .int .i64 c7]) (.agg #[.int .i64 0, .int .i64 0, .int .i64 0, .int .i64 0, .int .i64 0, .int .i64 0, .int .i64 0, .int .i64 0])).run Try.prog W = .ok t W := by
  have hu : Try.prog.underlying 34 = some (.array 8 3) := by kernel_rfl
  have hi : Try.prog.info? 3 = some ((Try.prog.info? 3).getD default) := by kernel_rfl
  have hc : Try.prog.cellsOf 3 = 1 := by kernel_rfl
  have hk : Try.prog.underlying 3 = some (.int .i64) := by kernel_rfl
  have hp : ∀ (xs : Array Value) (i : Nat) (x : Int), xs[i]? = some (.int .i64 x) → (part 3 xs i).run Try.prog W = .ok (.int .i64 x) W := fun xs i x hx => by
    simp [part, isAgg, run_underlying hk, hx]
  rw [run_equalIn_array W 9999 _ _ hu hi, hc]
  have e : t = (c0 == 0 && c1 == 0 && c2 == 0 && c3 == 0 && c4 == 0 && c5 == 0 && c6 == 0 && c7 == 0) := by
    rw [Bool.eq_iff_iff, ht]
    simp [and_assoc]
  rw [e]
  have he : ∀ (d : Nat) (x y : Int), (Op.equalIn (d + 1) 3 (.int .i64 x) (.int .i64 y)).run Try.prog W = .ok (x == y) W := fun d x y => run_equalIn_int W d _ .i64 .i64 x y hk
  have step : ∀ (X Y : Array Value) (i : Nat) (x y : Int) (is : List Nat) (q : Bool), X[i]? = some (.int .i64 x) → Y[i]? = some (.int .i64 y) → (Op.eqItems 9999 3 1 X Y is).run Try.prog W = .ok q W → (Op.eqItems 9999 3 1 X Y (i :: is)).run Try.prog W = .ok (x == y && q) W := fun X Y i x y is q hx hy hq => by
    simp only [Op.eqItems, Sem.run_bind, Nat.mul_one, hp X i x hx, hp Y i y hy, Result.andThen_ok, he 9998 x y]
    cases h : (x == y)
    · simp
    · simpa using hq
  simp only [Bool.and_assoc]
  rw [← Bool.and_true (c7 == 0)]
  exact step _ _ 0 c0 0 _ _ rfl rfl (step _ _ 1 c1 0 _ _ rfl rfl (step _ _ 2 c2 0 _ _ rfl rfl (step _ _ 3 c3 0 _ _ rfl rfl (step _ _ 4 c4 0 _ _ rfl rfl (step _ _ 5 c5 0 _ _ rfl rfl (step _ _ 6 c6 0 _ _ rfl rfl (step _ _ 7 c7 0 _ _ rfl rfl (by simp [Op.eqItems]))))))))

theorem forget_yes (h : KnAt w b U C) {k : Int} (k0 : 1 ≤ k) (k1 : k ≤ 63) (hU : U k ≠ 0) : Calls Try.prog 10 #[KP b, .int .i64 k] w fun e w' => e = .returned (.bool true) ∧ KnAt w' b (upU U k 0) (clC C k) ∧ Only b w w' := by
  have HF := Lib.hid (find_yes h k0 k1 hU)
  have k2 : 0 ≤ k := by omega
  have HK := Lib.hid h
  have HB := Lib.hid k1
  have f := fun i => h.fz i
  have g0 := h.uid k2 k1
  have g1 : w.cell? ⟨b, k.toNat * 9 + 1, none⟩ = _ := h.use_n k2 k1 0 (by omega)
  have g2 : w.cell? ⟨b, k.toNat * 9 + 2, none⟩ = _ := h.use_n k2 k1 1 (by omega)
  have g3 : w.cell? ⟨b, k.toNat * 9 + 3, none⟩ = _ := h.use_n k2 k1 2 (by omega)
  have g4 : w.cell? ⟨b, k.toNat * 9 + 4, none⟩ = _ := h.use_n k2 k1 3 (by omega)
  have g5 : w.cell? ⟨b, k.toNat * 9 + 5, none⟩ = _ := h.use_n k2 k1 4 (by omega)
  have g6 : w.cell? ⟨b, k.toNat * 9 + 6, none⟩ = _ := h.use_n k2 k1 5 (by omega)
  have g7 : w.cell? ⟨b, k.toNat * 9 + 7, none⟩ = _ := h.use_n k2 k1 6 (by omega)
  have g8 : w.cell? ⟨b, k.toNat * 9 + 8, none⟩ = _ := h.use_n k2 k1 7 (by omega)
  have K0 := Lib.hid k2
  clear h hU k0 k1 k2
  go_enter Try.func10, Try.ntmps10
  go_wp2_with (first
    | (go_at_call 18; ((with_reducible refine HF.out.mono ?_); rintro e w1 ⟨rfl, rfl⟩)))
  go_ret
  have k0 : 0 ≤ k := K0.out
  have k1 : k ≤ 63 := HB.out
  refine ⟨rfl, ?_, (((((((((Only.refl b w).set _ _).set _ _).set _ _).set _ _).set _ _).set _ _).set _ _).set _ _).set _ _⟩
  refine (((((((((HK.out.setU k0 k1 0).set_n k0 k1 0 (by omega) 0).set_n k0 k1 1 (by omega) 0).set_n k0 k1 2 (by omega) 0).set_n k0 k1 3 (by omega) 0).set_n k0 k1 4 (by omega) 0).set_n k0 k1 5 (by omega) 0).set_n k0 k1 6 (by omega) 0).set_n k0 k1 7 (by omega) 0).congr (fun _ _ _ => rfl) (fun j r j0 j1 r0 r1 => ?_)
  by_cases e : j = k
  · subst e
    rw [clC_same]
    have : r = 0 ∨ r = 1 ∨ r = 2 ∨ r = 3 ∨ r = 4 ∨ r = 5 ∨ r = 6 ∨ r = 7 := by omega
    rcases this with rfl | rfl | rfl | rfl | rfl | rfl | rfl | rfl <;> simp [upC]
  · simp only [upC_other _ _ _ _ e, clC_other _ _ e]

theorem drop_yes (h : KnAt w b U C) {k r : Int} (k0 : 1 ≤ k) (k1 : k ≤ 63) (hU : U k ≠ 0) (r0 : 0 ≤ r) (r1 : r ≤ 7) (c0 : 0 < C k r) (c1 : C k r < 4611686018427387904) (z : Bool) (hz : z = true ↔ ∀ s, 0 ≤ s → s ≤ 7 → upC C k r (C k r - 1) k s = 0) :
    Calls Try.prog 13 #[KP b, .int .i64 k, .int .i64 r] w fun e w' => e = .returned (.tuple #[.bool z, .int .i64 0]) ∧ (z = false → KnAt w' b U (upC C k r (C k r - 1))) ∧ (z = true → KnAt w' b (upU U k 0) (clC C k)) ∧ Only b w w' := by
  have HF := Lib.hid (find_yes h k0 k1 hU)
  have HR := Lib.hid (ring_yes r w r0 r1)
  have c := h.use (k := k) (by omega) k1 r0 r1
  have f := h.fz (k.toNat * 9 + 1 + r.toNat)
  have i1 : r < 8 := by omega
  have hw : IntKind.i64.wrap (C k r - 1) = C k r - 1 := IntWalk.i64_in _ (by omega)
  have d2 : (C k r == 0) = false := by simp; omega
  have hs : KnAt (w.setCell ⟨b, k.toNat * 9 + 1 + r.toNat, none⟩ (.int .i64 (C k r - 1))) b U (upC C k r (C k r - 1)) := h.setC (by omega) k1 r0 r1 _
  have ho : Only b w (w.setCell ⟨b, k.toNat * 9 + 1 + r.toNat, none⟩ (.int .i64 (C k r - 1))) := (Only.refl b w).set _ _
  have hcl : ∀ j s, clC (upC C k r (C k r - 1)) k j s = clC C k j s := fun j s => by
    by_cases e : j = k
    · subst e
      rw [clC_same, clC_same]
    · rw [clC_other _ _ e, clC_other _ _ e, upC_other _ _ _ _ e]
  generalize hC1 : upC C k r (C k r - 1) = C1 at *
  clear hC1
  have ht : z = true ↔ C1 k 0 = 0 ∧ C1 k 1 = 0 ∧ C1 k 2 = 0 ∧ C1 k 3 = 0 ∧ C1 k 4 = 0 ∧ C1 k 5 = 0 ∧ C1 k 6 = 0 ∧ C1 k 7 = 0 := by
    rw [hz]
    refine ⟨fun H => ⟨H 0 (by omega) (by omega), H 1 (by omega) (by omega), H 2 (by omega) (by omega), H 3 (by omega) (by omega), H 4 (by omega) (by omega), H 5 (by omega) (by omega), H 6 (by omega) (by omega), H 7 (by omega) (by omega)⟩, fun H s s0 s1 => ?_⟩
    have : s = 0 ∨ s = 1 ∨ s = 2 ∨ s = 3 ∨ s = 4 ∨ s = 5 ∨ s = 6 ∨ s = 7 := by omega
    rcases this with rfl | rfl | rfl | rfl | rfl | rfl | rfl | rfl
    · exact H.1
    · exact H.2.1
    · exact H.2.2.1
    · exact H.2.2.2.1
    · exact H.2.2.2.2.1
    · exact H.2.2.2.2.2.1
    · exact H.2.2.2.2.2.2.1
    · exact H.2.2.2.2.2.2.2
  have he := eight_eq (C1 k 0) (C1 k 1) (C1 k 2) (C1 k 3) (C1 k 4) (C1 k 5) (C1 k 6) (C1 k 7) z ht
  have HU := Lib.hid hU
  have HK0 := Lib.hid k0
  have HK1 := Lib.hid k1
  have HS := Lib.hid hs
  have HO := Lib.hid ho
  have HE := Lib.hid he
  have HC := Lib.hid hcl
  clear h hU k0 k1 r1 c0 c1 ht hz hcl hs ho he
  generalize C k r = u at *
  have hgd : Try.prog.eqGuardType Try.prog.depth 34 = false := by kernel_rfl
  go_enter Try.func13, Try.ntmps13
  go_wp2_with (first
    | (go_at_call 18; ((with_reducible refine HF.out.mono ?_); rintro e w1 ⟨rfl, rfl⟩))
    | (go_at_call 16; ((with_reducible refine HR.out.mono ?_); rintro e w1 ⟨rfl, rfl⟩)))
  go_region
  have h1 := HS.out.drew
  have o1 := HO.out.drew
  clear HS HO
  generalize hW : (w.setCell ⟨b, k.toNat * 9 + 1 + r.toNat, none⟩ (.int .i64 (u - 1))).drew = W at *
  clear hW c f hw
  have k2 : 0 ≤ k := by have := HK0.out; omega
  have g1 : W.cell? ⟨b, k.toNat * 9 + 1, none⟩ = some (.int .i64 (C1 k 0)) := h1.use_n k2 HK1.out 0 (by omega)
  have g2 : W.cell? ⟨b, k.toNat * 9 + 2, none⟩ = some (.int .i64 (C1 k 1)) := h1.use_n k2 HK1.out 1 (by omega)
  have g3 : W.cell? ⟨b, k.toNat * 9 + 3, none⟩ = some (.int .i64 (C1 k 2)) := h1.use_n k2 HK1.out 2 (by omega)
  have g4 : W.cell? ⟨b, k.toNat * 9 + 4, none⟩ = some (.int .i64 (C1 k 3)) := h1.use_n k2 HK1.out 3 (by omega)
  have g5 : W.cell? ⟨b, k.toNat * 9 + 5, none⟩ = some (.int .i64 (C1 k 4)) := h1.use_n k2 HK1.out 4 (by omega)
  have g6 : W.cell? ⟨b, k.toNat * 9 + 6, none⟩ = some (.int .i64 (C1 k 5)) := h1.use_n k2 HK1.out 5 (by omega)
  have g7 : W.cell? ⟨b, k.toNat * 9 + 7, none⟩ = some (.int .i64 (C1 k 6)) := h1.use_n k2 HK1.out 6 (by omega)
  have g8 : W.cell? ⟨b, k.toNat * 9 + 8, none⟩ = some (.int .i64 (C1 k 7)) := h1.use_n k2 HK1.out 7 (by omega)
  have he := HE.out W
  clear HE
  have HF2 := Lib.hid (forget_yes h1 HK0.out HK1.out HU.out)
  have H1 := Lib.hid h1
  have O1 := Lib.hid o1
  clear h1 o1
  generalize C1 k 0 = c0 at *
  generalize C1 k 1 = c1 at *
  generalize C1 k 2 = c2 at *
  generalize C1 k 3 = c3 at *
  generalize C1 k 4 = c4 at *
  generalize C1 k 5 = c5 at *
  generalize C1 k 6 = c6 at *
  generalize C1 k 7 = c7 at *
  cases z with
  | false =>
    go_wp2
    exact bodyPost_ret (v := .tuple #[.bool false, .int .i64 0]) (by simp [results, Try.results13, go_sem]) rfl ⟨rfl, H1.out, O1.out⟩
  | true =>
    go_wp2_with (first
      | (go_at_call 10; ((with_reducible refine HF2.out.mono ?_); rintro e w1 ⟨rfl, h2, o2⟩)))
    exact bodyPost_ret (v := .tuple #[.bool true, .int .i64 0]) (by simp [results, Try.results13, go_sem]) rfl ⟨rfl, h2.congr (fun _ _ _ => rfl) (fun j s _ _ _ _ => (HC.out j s).symm), O1.out.trans o2⟩

theorem drop_more (h : KnAt w b U C) {k r : Int} (k0 : 1 ≤ k) (k1 : k ≤ 63) (hU : U k ≠ 0) (r0 : 0 ≤ r) (r1 : r ≤ 7) (c0 : 0 < C k r) (c1 : C k r < 4611686018427387904) {s : Int} (s0 : 0 ≤ s) (s1 : s ≤ 7) (hs : upC C k r (C k r - 1) k s ≠ 0) :
    Calls Try.prog 13 #[KP b, .int .i64 k, .int .i64 r] w fun e w' => e = .returned (.tuple #[.bool false, .int .i64 0]) ∧ KnAt w' b U (upC C k r (C k r - 1)) ∧ Only b w w' :=
  (drop_yes h k0 k1 hU r0 r1 c0 c1 false ⟨fun h => (by cases h), fun h => absurd (h s s0 s1) hs⟩).mono fun _ _ h => ⟨h.1, h.2.1 rfl, h.2.2.2⟩

theorem drop_last (h : KnAt w b U C) {k r : Int} (k0 : 1 ≤ k) (k1 : k ≤ 63) (hU : U k ≠ 0) (r0 : 0 ≤ r) (r1 : r ≤ 7) (c0 : 0 < C k r) (c1 : C k r < 4611686018427387904) (hs : ∀ s, 0 ≤ s → s ≤ 7 → upC C k r (C k r - 1) k s = 0) :
    Calls Try.prog 13 #[KP b, .int .i64 k, .int .i64 r] w fun e w' => e = .returned (.tuple #[.bool true, .int .i64 0]) ∧ KnAt w' b (upU U k 0) (clC C k) ∧ Only b w w' :=
  (drop_yes h k0 k1 hU r0 r1 c0 c1 true ⟨fun _ => hs, fun _ => rfl⟩).mono fun _ _ h => ⟨h.1, h.2.2.1 rfl, h.2.2.2⟩

theorem drop_arg (b : Nat) (k r : Int) (w : World) (hr : r < 0 ∨ 7 < r) : Calls Try.prog 13 #[KP b, .int .i64 k, .int .i64 r] w fun e w' => e = .returned (.tuple #[.bool false, .int .i64 1]) ∧ w = w' := by
  have HR := Lib.hid (ring_no r w hr)
  clear hr
  go_enter Try.func13, Try.ntmps13
  go_wp2_with (first
    | (go_at_call 16; ((with_reducible refine HR.out.mono ?_); rintro e w1 ⟨rfl, rfl⟩)))
  exact bodyPost_ret (v := .tuple #[.bool false, .int .i64 1]) (by simp [results, Try.results13, go_sem]) rfl ⟨rfl, rfl⟩

theorem drop_none (h : KnAt w b U C) {k r : Int} (r0 : 0 ≤ r) (r1 : r ≤ 7) (hk : k < 1 ∨ 63 < k ∨ U k = 0) : Calls Try.prog 13 #[KP b, .int .i64 k, .int .i64 r] w fun e w' => e = .returned (.tuple #[.bool false, .int .i64 4]) ∧ w = w' := by
  have HR := Lib.hid (ring_yes r w r0 r1)
  have HF := Lib.hid (find_no h hk)
  clear r0 r1 hk h
  go_enter Try.func13, Try.ntmps13
  go_wp2_with (first
    | (go_at_call 16; ((with_reducible refine HR.out.mono ?_); rintro e w1 ⟨rfl, rfl⟩))
    | (go_at_call 18; ((with_reducible refine HF.out.mono ?_); rintro e w1 ⟨rfl, rfl⟩)))
  exact bodyPost_ret (v := .tuple #[.bool false, .int .i64 4]) (by simp [results, Try.results13, go_sem]) rfl ⟨rfl, rfl⟩

theorem drop_unused (h : KnAt w b U C) {k r : Int} (k0 : 1 ≤ k) (k1 : k ≤ 63) (hU : U k ≠ 0) (r0 : 0 ≤ r) (r1 : r ≤ 7) (c0 : C k r = 0) : Calls Try.prog 13 #[KP b, .int .i64 k, .int .i64 r] w fun e w' => e = .returned (.tuple #[.bool false, .int .i64 4]) ∧ w = w' := by
  have HR := Lib.hid (ring_yes r w r0 r1)
  have HF := Lib.hid (find_yes h k0 k1 hU)
  have c := h.use (k := k) (by omega) k1 r0 r1
  rw [c0] at c
  have i1 : r < 8 := by omega
  clear r1 h k0 k1 hU c0
  go_enter Try.func13, Try.ntmps13
  go_wp2_with (first
    | (go_at_call 16; ((with_reducible refine HR.out.mono ?_); rintro e w1 ⟨rfl, rfl⟩))
    | (go_at_call 18; ((with_reducible refine HF.out.mono ?_); rintro e w1 ⟨rfl, rfl⟩)))
  exact bodyPost_ret (v := .tuple #[.bool false, .int .i64 4]) (by simp [results, Try.results13, go_sem]) rfl ⟨rfl, rfl⟩

theorem add_arg (b : Nat) (x r : Int) (w : World) (hx : x < 1 ∨ r < 0 ∨ 7 < r) : Calls Try.prog 9 #[KP b, .int .i64 x, .int .i64 r] w fun e w' => e = .returned (.tuple #[.int .i64 0, .bool false, .int .i64 1]) ∧ w = w' := by
  by_cases x0 : x < 1
  · have d0 : decide (x < 1) = true := decide_eq_true x0
    clear hx x0
    go_enter Try.func9, Try.ntmps9
    go_wp2
    exact bodyPost_ret (v := .tuple #[.int .i64 0, .bool false, .int .i64 1]) (by simp [results, Try.results9, go_sem]) rfl ⟨rfl, rfl⟩
  have d0 : decide (x < 1) = false := decide_eq_false x0
  have HR := Lib.hid (ring_no r w (by omega))
  clear hx x0
  go_enter Try.func9, Try.ntmps9
  go_wp2_with (first
    | (go_at_call 16; ((with_reducible refine HR.out.mono ?_); rintro e w1 ⟨rfl, rfl⟩)))
  exact bodyPost_ret (v := .tuple #[.int .i64 0, .bool false, .int .i64 1]) (by simp [results, Try.results9, go_sem]) rfl ⟨rfl, rfl⟩

theorem add_full (h : KnAt w b U C) {x r : Int} (x0 : 1 ≤ x) (r0 : 0 ≤ r) (r1 : r ≤ 7) (hx : Fst U x 0) (hf : Fst U 0 0) : Calls Try.prog 9 #[KP b, .int .i64 x, .int .i64 r] w fun e w' => e = .returned (.tuple #[.int .i64 0, .bool false, .int .i64 7]) ∧ w = w' := by
  have d0 : decide (x < 1) = false := decide_eq_false (by omega)
  have HR := Lib.hid (ring_yes r w r0 r1)
  have HN := Lib.hid (number_any h (by omega) hx)
  have HF := Lib.hid (first_any h hf)
  clear h x0 r0 r1 hx hf
  go_enter Try.func9, Try.ntmps9
  go_wp2_with (first
    | (go_at_call 16; ((with_reducible refine HR.out.mono ?_); rintro e w1 ⟨rfl, rfl⟩))
    | (go_at_call 14; ((with_reducible refine HN.out.mono ?_); rintro e w1 ⟨rfl, rfl⟩))
    | (go_at_call 17; ((with_reducible refine HF.out.mono ?_); rintro e w1 ⟨rfl, rfl⟩)))
  exact bodyPost_ret (v := .tuple #[.int .i64 0, .bool false, .int .i64 7]) (by simp [results, Try.results9, go_sem]) rfl ⟨rfl, rfl⟩

theorem add_known (h : KnAt w b U C) {x r n : Int} (x0 : 1 ≤ x) (r0 : 0 ≤ r) (r1 : r ≤ 7) (hx : Fst U x n) (n0 : n ≠ 0) (c0 : 0 ≤ C n r) (c1 : C n r < 4611686018427387904) :
    Calls Try.prog 9 #[KP b, .int .i64 x, .int .i64 r] w fun e w' => e = .returned (.tuple #[.int .i64 n, .bool false, .int .i64 0]) ∧ KnAt w' b U (upC C n r (C n r + 1)) ∧ Only b w w' := by
  have d0 : decide (x < 1) = false := decide_eq_false (by omega)
  have HR := Lib.hid (ring_yes r w r0 r1)
  have HN := Lib.hid (number_any h (by omega) hx)
  obtain ⟨n1, n2⟩ : 1 ≤ n ∧ n ≤ 63 := by rcases hx with ⟨a, b, _⟩ | ⟨a, _⟩ <;> omega
  have c := h.use (k := n) (by omega) n2 r0 r1
  have f := h.fz (n.toNat * 9 + 1 + r.toNat)
  have HS := Lib.hid (h.setC (k := n) (r := r) (by omega) n2 r0 r1 (C n r + 1))
  have HO := Lib.hid ((Only.refl b w).set (n.toNat * 9 + 1 + r.toNat) (.int .i64 (C n r + 1)))
  have hw : IntKind.i64.wrap (C n r + 1) = C n r + 1 := IntWalk.i64_in _ (by omega)
  have i1 : r < 8 := by omega
  have i2 : 0 ≤ n := by omega
  have i3 : n < 64 := by omega
  have d1 : (n != 0) = true := by simpa using n0
  clear h x0 r1 hx n0 c0 c1 n1 n2
  generalize hC1 : upC C n r (C n r + 1) = C1 at *
  clear hC1
  generalize C n r = u at *
  go_enter Try.func9, Try.ntmps9
  go_wp2_with (first
    | (go_at_call 16; ((with_reducible refine HR.out.mono ?_); rintro e w1 ⟨rfl, rfl⟩))
    | (go_at_call 14; ((with_reducible refine HN.out.mono ?_); rintro e w1 ⟨rfl, rfl⟩)))
  go_region
  go_wp2
  exact bodyPost_ret (v := .tuple #[.int .i64 n, .bool false, .int .i64 0]) (by simp [results, Try.results9, go_sem]) rfl ⟨rfl, HS.out.drew, HO.out.drew⟩

theorem add_new (h : KnAt w b U C) {x r n : Int} (x0 : 1 ≤ x) (r0 : 0 ≤ r) (r1 : r ≤ 7) (hx : Fst U x 0) (hf : Fst U 0 n) (n0 : n ≠ 0) (c0 : C n r = 0) :
    Calls Try.prog 9 #[KP b, .int .i64 x, .int .i64 r] w fun e w' => e = .returned (.tuple #[.int .i64 n, .bool true, .int .i64 0]) ∧ KnAt w' b (upU U n x) (upC C n r 1) ∧ Only b w w' := by
  have d0 : decide (x < 1) = false := decide_eq_false (by omega)
  have HR := Lib.hid (ring_yes r w r0 r1)
  have HN := Lib.hid (number_any h (by omega) hx)
  have HF := Lib.hid (first_any h hf)
  obtain ⟨n1, n2⟩ : 1 ≤ n ∧ n ≤ 63 := by rcases hf with ⟨a, b, _⟩ | ⟨a, _⟩ <;> omega
  have f0 := h.fz (n.toNat * 9)
  have g0 := h.uid (k := n) (by omega) n2
  have h1 := h.setU (k := n) (by omega) n2 x
  have c := h1.use (k := n) (by omega) n2 r0 r1
  rw [c0] at c
  have f := h1.fz (n.toNat * 9 + 1 + r.toNat)
  have HS := Lib.hid (h1.setC (k := n) (r := r) (by omega) n2 r0 r1 1)
  have HO := Lib.hid (((Only.refl b w).set (n.toNat * 9) (.int .i64 x)).set (n.toNat * 9 + 1 + r.toNat) (.int .i64 1))
  have i1 : r < 8 := by omega
  have i2 : 0 ≤ n := by omega
  have i3 : n < 64 := by omega
  have d1 : (n == 0) = false := by simpa using n0
  clear h x0 r1 hx hf n0 c0 n1 n2 h1
  generalize hC1 : upC C n r 1 = C1 at *
  generalize hU1 : upU U n x = U1 at *
  clear hC1 hU1
  generalize U n = u0 at *
  go_enter Try.func9, Try.ntmps9
  go_wp2_with (first
    | (go_at_call 16; ((with_reducible refine HR.out.mono ?_); rintro e w1 ⟨rfl, rfl⟩))
    | (go_at_call 14; ((with_reducible refine HN.out.mono ?_); rintro e w1 ⟨rfl, rfl⟩))
    | (go_at_call 17; ((with_reducible refine HF.out.mono ?_); rintro e w1 ⟨rfl, rfl⟩)))
  go_region
  go_wp2
  exact bodyPost_ret (v := .tuple #[.int .i64 n, .bool true, .int .i64 0]) (by simp [results, Try.results9, go_sem]) rfl ⟨rfl, HS.out.drew, HO.out.drew⟩

end

end Go.Proofs.Ytmkapleliholkaa.K
