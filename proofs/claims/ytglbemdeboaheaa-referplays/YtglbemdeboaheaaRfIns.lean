/-
  ReferPlays, a name put among those that rise.
-/
import Derived.Test.YtglbemdeboaheaaRfTailMath
import Derived.IntWalk
namespace Go.Proofs.Ytglbemdeboaheaa.Rf
open Go.ChangeShapes Go.WideShapes Go.ChangeAt Go.RowKit
open Go.Proofs.Ytglbemdeboaheaa.N (bs bs_data bs_size bs_inj bs_of may retB)
open Go.Proofs.Ytglbemdeboaheaa.G (El Row flat kT goodT)
set_option linter.unusedVariables false

/-- what holds behind it -/
def InsI (s0 : Value) (b : Nat) (v : Value) (k db : Nat) (gt : Option Int) (wa is kv : Value) (V : World) (qs : List Txt) (nm : Txt) (a : Act) (w : World) : Prop :=
  TS s0 b v k db gt a ∧ slot a 16 = wa ∧ slot a 17 = is ∧ slot a 19 = kv ∧ ∃ j : Nat, j ≤ qs.length ∧ (∀ i (hi : i < qs.length), i < j → qs[i] ≤ nm) ∧ (∀ i (hi : i < qs.length), j ≤ i → nm < qs[i]) ∧
    G.Own kT V.heap.size w (slot a 18) (qs.take j ++ [nm] ++ qs.drop j) ∧ Below V.heap.size V w

section
variable {V W : World} {b : Nat} {s0 wa is : Value} {k db : Nat} {gt : Option Int} {mb vc ml kn : Nat} {na : Option Addr} {nc : Nat} {qs : List Txt} {nm : Txt} {a : Act} {J K' : Act → World → Prop} {Q' : Exit → Act → World → Prop}

theorem row_txt {w : World} {bk c : Nat} {l : List Txt} (h : Row kT w (some ⟨bk, 0, none⟩) c l) {k : Nat} (hk : k < l.length) : w.cell? ⟨bk, k, none⟩ = some (.string (bs l[k])) := by
  obtain ⟨bk', o, e, _, hc⟩ := h.at_ hk
  cases e
  have := hc 0 _ rfl
  rw [Nat.zero_add, show k * kT.sz + 0 = k by simp [kT]] at this
  exact this

theorem ne_up (n : Nat) : some (n + 1) ≠ (Value.slice (some ⟨n, 0, none⟩) 0 0).ownBlock := fun e => by
  have := Option.some.inj (show some (n + 1) = some n from e)
  omega
theorem ne_down (n : Nat) : some n ≠ (Value.slice (some ⟨n + 1, 0, none⟩) 0 0).ownBlock := fun e => by
  have := Option.some.inj (show some n = some (n + 1) from e)
  omega

set_option maxHeartbeats 16000000 in
set_option maxRecDepth 8000 in
theorem ins_any (T : TS s0 b (.slice (some ⟨mb, 0, none⟩) ml vc) k db gt a) (h16 : slot a 16 = wa) (h17 : slot a 17 = is) (h18 : slot a 18 = .slice na qs.length nc) (h19 : slot a 19 = .int .i64 kn)
    (hkn : kn < ml) (hml : ml ≤ 100000) (hmb : mb < W.heap.size) (hc : W.cell? ⟨mb, kn * 4 + 3, none⟩ = some (.string (bs nm))) (hO : G.Own kT V.heap.size W (.slice na qs.length nc) qs) (hB : Below V.heap.size V W) (hql : qs.length ≤ 100000) (hup : qs.Pairwise (fun x y => x ≤ y)) (hnil : qs = [] → na = none ∧ nc = 0)
    (hJ : ∀ a' w', InsI s0 b (.slice (some ⟨mb, 0, none⟩) ml vc) k db gt wa is (.int .i64 kn) V qs nm a' w' → J a' w') (hK : ∀ a' w', Met J a' w' → K' a' w') : Code.wp Try.prog insCode (Exit.then K' Q') a W := by
  obtain ⟨hf, h0, h3, h4, h5, h6, h14, h15⟩ := T
  obtain ⟨g, hg, rfl⟩ := hf.opens
  have e0 := (hg 0).trans h0
  have e3 := (hg 3).trans h3
  have e4 := (hg 4).trans h4
  have e5 := (hg 5).trans h5
  have e6 := (hg 6).trans h6
  have e14 := (hg 14).trans h14
  have e15 := (hg 15).trans h15
  have e16 := (hg 16).trans h16
  have e17 := (hg 17).trans h17
  have e18 := (hg 18).trans h18
  have e19 := (hg 19).trans h19
  rw [e0, e3, e4, e5, e6, e14, e15, e16, e17, e18, e19]
  clear e0 e3 e4 e5 e6 e14 e15 e16 e17 e18 e19 hg h0 h3 h4 h5 h6 h14 h15 h16 h17 h18 h19 hf
  conv => arg 2; whnf
  have HO := Lib.hid hO
  have HB := Lib.hid hB
  have HU := Lib.hid hup
  have HJ := Lib.hid hJ
  obtain ⟨na', nc', ev, hrow, hform⟩ := hO.row goodT
  cases ev
  have HR := Lib.hid hrow
  have HF := Lib.hid hform
  clear hO hB hup hJ hrow hform
  go_upto_block 10 with (fail)
  go_cut [20] from 273 to 289 (fun jv W' => ∃ j n : Nat, j ≤ qs.length ∧ jv = .int .i64 j ∧ W' = W.drewN n ∧ Hid ((∀ i (hi : i < qs.length), i < j → qs[i] ≤ nm) ∧ ∀ i (hi : i < qs.length), j ≤ i → nm < qs[i]))
  case first =>
    go_wp2_with (fail)
    go_loopw [20] (fun jv W' => ∃ j n : Nat, j ≤ qs.length ∧ jv = .int .i64 j ∧ W' = W.drewN n ∧ Hid (∀ i (hi : i < qs.length), j ≤ i → nm < qs[i])) (fun jv _ => (intOf jv).toNat)
    case atStart => exact ⟨qs.length, 0, Nat.le_refl _, rfl, rfl, Lib.hid (fun i hi h => by omega)⟩
    case round =>
      obtain ⟨j, n, hj, rfl, rfl, HH⟩ := hrel
      by_cases h0 : j = 0
      · subst h0
        go_wp2
        go_quiet (fail)
        go_wp2
        go_meet
        case rel => exact ⟨0, n + nq, Nat.zero_le _, rfl, by first | rfl | rw [World.drewN_drewN], Lib.hid ⟨fun i _ h => absurd h (Nat.not_lt_zero _), HH.out⟩⟩
      · obtain ⟨i, rfl⟩ : ∃ i, j = i + 1 := ⟨j - 1, by omega⟩
        have hne : qs ≠ [] := fun e => by subst e; simp at hj
        obtain ⟨nb, rfl⟩ := HF.out hne
        have cj := row_txt HR.out (k := i) (by omega)
        have te := txt_less nm (qs[i]'(by omega))
        have i1 : IntKind.i64.wrap (((i + 1 : Nat) : Int) - 1) = (i : Int) := by rw [IntWalk.i64_in _ (by omega)]; omega
        have i1b : IntKind.i64.wrap ((i : Int) + 1 - 1) = (i : Int) := by rw [IntWalk.i64_in _ (by omega)]; omega
        have i2 : (0 : Int) ≤ (i : Int) := by omega
        have i3 : (i : Int) < (qs.length : Int) := by omega
        have i4 : IntKind.i64.wrap (i : Int) = (i : Int) := IntWalk.i64_in _ (by omega)
        have i5 : decide (((i + 1 : Nat) : Int) > 0) = true := by rw [decide_eq_true_eq]; omega
        have i6 : decide ((i : Int) + 1 > 0) = true := by rw [decide_eq_true_eq]; omega
        clear hne
        by_cases hlt : nm < qs[i]'(by omega)
        · have HL := Lib.hid hlt
          rw [decide_eq_true hlt] at te
          clear hlt h0
          go_wp2
          go_quiet (fail)
          go_wp2
          go_roundw
          case rel => exact ⟨i, n + nq, by omega, by go_num, by first | rfl | rw [World.drewN_drewN], Lib.hid (fun x hx h => by
            by_cases e : x = i
            · subst e
              exact HL.out
            · exact HH.out x hx (by omega))⟩
          case measure => simp [intOf]
        · have HL := Lib.hid hlt
          rw [decide_eq_false hlt] at te
          clear hlt h0
          go_wp2
          go_quiet (fail)
          go_wp2
          go_meet
          case rel => exact ⟨i + 1, n + nq, hj, rfl, by first | rfl | rw [World.drewN_drewN], Lib.hid ⟨fun x hx h => by
            have hxi : qs[x] ≤ qs[i]'(by omega) := by
              by_cases e : x = i
              · subst e
                exact List.le_refl _
              · exact List.pairwise_iff_getElem.1 HU.out x i hx (by omega) (by omega)
            exact List.le_trans hxi (List.not_lt.1 HL.out), HH.out⟩⟩
  case rest =>
    obtain ⟨j, n, hj, rfl, rfl, HH⟩ := hcut
    have HO2 := Lib.hid (HO.out.below (below_drewN W n))
    have HB2 := Lib.hid (HB.out.trans ((below_drewN W n).mono HB.out.size))
    have HR2 := Lib.hid (HR.out.below (below_drewN W n))
    have hc2 : (W.drewN n).cell? ⟨mb, kn * 4 + 3, none⟩ = some (.string (bs nm)) := hc
    have hmb2 : mb < (W.drewN n).heap.size := hmb
    clear hc hmb HO HB HR
    generalize W.drewN n = U at HO2 HB2 HR2 hc2 hmb2 ⊢
    have HC : Hid (∀ Z, Below U.heap.size U Z → Z.cell? ⟨mb, kn * 4 + 3, none⟩ = some (.string (bs nm))) := Lib.hid (fun Z hz => (hz.cell (p := ⟨mb, kn * 4 + 3, none⟩) hmb2).trans hc2)
    have i7 : (0 : Int) ≤ (j : Int) := by omega
    have i8 : (j : Int) ≤ (qs.length : Int) := by omega
    have hcap := HR2.out.1
    have i9 : (j : Int) ≤ (nc : Int) := by omega
    have lt1 : Hid ((qs.take j).length = j) := Lib.hid (by rw [List.length_take]; omega)
    have ld1 : Hid ((qs.drop j).length = qs.length - j) := Lib.hid (by rw [List.length_drop])
    have hN2 : Hid ((qs.take j ++ [nm]).length = j + 1) := Lib.hid (by rw [List.length_append, lt1.out]; rfl)
    have hN3 : Hid ((qs.take j ++ [nm] ++ qs.drop j).length = qs.length + 1) := Lib.hid (by rw [List.length_append, hN2.out, ld1.out]; omega)
    have k0 := Lib.hid (HC.out U.drew (Below.refl _ _).drew)
    have b1 : Hid (Below U.heap.size U (U.alloc (.cells #[] 9)).drew) := Lib.hid (one_new U _).drew
    have b2 : Hid (Below U.heap.size U (U.alloc (.cells #[.string (bs nm)] 9)).drew) := Lib.hid (one_new U _).drew
    have b3 : Hid (Below U.heap.size U ((U.alloc (.cells #[] 9)).alloc (.cells #[.string (bs nm)] 9)).drew) := Lib.hid ((one_new U _).alloc (by simp) _).drew
    have b4 : Hid (Below U.heap.size U ((U.alloc (.cells #[.string (bs nm)] 9)).alloc (.cells #[] 9)).drew) := Lib.hid ((one_new U _).alloc (by simp) _).drew
    have k1 := Lib.hid (HC.out _ b1.out)
    have k2 := Lib.hid (HC.out _ b2.out)
    have k3 := Lib.hid (HC.out _ b3.out)
    have k4 := Lib.hid (HC.out _ b4.out)
    have o1 : Hid (G.Own kT U.heap.size (U.alloc (.cells #[] 9)).drew (.slice (some ⟨U.heap.size, 0, none⟩) 0 0) []) := Lib.hid (empty_own U _ (Nat.le_refl _))
    have o3 : Hid (G.Own kT U.heap.size ((U.alloc (.cells #[] 9)).alloc (.cells #[.string (bs nm)] 9)).drew (.slice (some ⟨U.heap.size, 0, none⟩) 0 0) []) := Lib.hid ((empty_own U _ (Nat.le_refl _)).alloc _)
    have o4 : Hid (G.Own kT U.heap.size ((U.alloc (.cells #[.string (bs nm)] 9)).alloc (.cells #[] 9)).drew (.slice (some ⟨U.heap.size + 1, 0, none⟩) 0 0) []) := Lib.hid (by have := empty_own (U.alloc (.cells #[.string (bs nm)] 9)) U.heap.size (by simp); rw [show (U.alloc (.cells #[.string (bs nm)] 9)).heap.size = U.heap.size + 1 by simp] at this; exact this)
    have y3 : Hid (QAt ((U.alloc (.cells #[] 9)).alloc (.cells #[.string (bs nm)] 9)).drew (U.heap.size + 1) nm) := Lib.hid (by have := QAt.new (U.alloc (.cells #[] 9)) nm; rw [show (U.alloc (.cells #[] 9)).heap.size = U.heap.size + 1 by simp] at this; exact this)
    have y4 : Hid (QAt ((U.alloc (.cells #[.string (bs nm)] 9)).alloc (.cells #[] 9)).drew U.heap.size nm) := Lib.hid ((QAt.new U nm).alloc _)
    have q0 := hc2
    go_upto_region 60 with (fail)
    have i11 : (0 : Int) ≤ (kn : Int) := by omega
    have i12 : (kn : Int) < (ml : Int) := by omega
    by_cases hq0 : qs = []
    · obtain ⟨rfl, rfl⟩ := hnil hq0
      subst hq0
      obtain rfl : j = 0 := by simpa using hj
      have ld0 : Hid ((([] : List Txt).drop 0).length = 0) := Lib.hid rfl
      have R1 : Hid (Row kT U none (0) (([] : List Txt).take 0)) := Lib.hid (Row.nil _)
      have R2 : Hid (Row kT U none (0) (([] : List Txt).drop 0)) := Lib.hid (Row.nil _)
      go_region_held3 (fun Z => Z.cell? ⟨mb, kn * 4 + 3, none⟩ = some (.string (bs nm)))
        (first | (with_reducible exact k0.out) | (with_reducible exact k1.out) | (with_reducible exact k2.out) | (with_reducible exact k3.out) | (with_reducible exact k4.out) | (with_reducible exact k5.out) | (with_reducible exact k6.out) | (with_reducible exact k7.out) | (with_reducible exact k8.out) | fail)
        (first
          | (refine G.step_g (s := kT) (w := (U.alloc (.cells #[] 9)).drew) (v := .slice (some ⟨U.heap.size, 0, none⟩) 0 0) (l := []) goodT rfl (.tmp 290) (.tmp 293) rfl (by simp [Act.eval]) o1.out none (0) 0 (([] : List Txt).take 0) lt1.out (by simp [Act.eval]) (R1.out.below b1.out) 0 (([] : List Txt).take 0) rfl lt1.out (by omega) b1.out.size ?_; intro a5 c5 W5 oo gg vv; have O5 := Lib.hid oo; have B5 := Lib.hid (o1.out.grown b1.out (Nat.le_refl _) gg); have k5 := Lib.hid (HC.out _ B5.out); have k6 := Lib.hid (HC.out _ (B5.out.alloc B5.out.size (.cells #[.string (bs nm)] 9))); clear oo gg vv)
          | (refine G.step_g (s := kT) (w := ((U.alloc (.cells #[] 9)).alloc (.cells #[.string (bs nm)] 9)).drew) (v := .slice (some ⟨U.heap.size, 0, none⟩) 0 0) (l := []) goodT rfl (.tmp 290) (.tmp 293) rfl (by simp [Act.eval]) o3.out none (0) 0 (([] : List Txt).take 0) lt1.out (by simp [Act.eval]) (R1.out.below b3.out) 0 (([] : List Txt).take 0) rfl lt1.out (by omega) b3.out.size ?_; intro a5 c5 W5 oo gg vv; have O5 := Lib.hid oo; have B5 := Lib.hid (o3.out.grown b3.out (Nat.le_refl _) gg); have k5 := Lib.hid (HC.out _ B5.out); have k6 := Lib.hid (HC.out _ (B5.out.alloc B5.out.size (.cells #[.string (bs nm)] 9))); have Y5 := Lib.hid (y3.out.kept gg (ne_up U.heap.size)); clear oo gg vv)
          | (refine G.step_g (s := kT) (w := ((U.alloc (.cells #[.string (bs nm)] 9)).alloc (.cells #[] 9)).drew) (v := .slice (some ⟨U.heap.size + 1, 0, none⟩) 0 0) (l := []) goodT rfl (.tmp 290) (.tmp 293) rfl (by simp [Act.eval]) o4.out none (0) 0 (([] : List Txt).take 0) lt1.out (by simp [Act.eval]) (R1.out.below b4.out) 0 (([] : List Txt).take 0) rfl lt1.out (by omega) b4.out.size ?_; intro a5 c5 W5 oo gg vv; have O5 := Lib.hid oo; have B5 := Lib.hid (o4.out.grown b4.out (Nat.le_refl _) gg); have k5 := Lib.hid (HC.out _ B5.out); have k6 := Lib.hid (HC.out _ (B5.out.alloc B5.out.size (.cells #[.string (bs nm)] 9))); have Y5 := Lib.hid (y4.out.kept gg (ne_down U.heap.size)); clear oo gg vv)
          | (refine G.step_g (s := kT) (w := W5.alloc (.cells #[.string (bs nm)] 9)) (v := .slice a5 0 c5) (l := ([] : List Txt).take 0) goodT rfl (.tmp 294) (.tmp 300) rfl (by simp [Act.eval]) (O5.out.alloc _) (some ⟨W5.heap.size, 0, none⟩) 1 1 [nm] rfl (by simp [Act.eval]) (QAt.new W5 nm).row (0 + 1) (([] : List Txt).take 0 ++ [nm]) rfl hN2.out (by omega) (by have := B5.out.size; simp; omega) ?_; intro a6 c6 W6 oo gg vv; have O6 := Lib.hid oo; have B6 := Lib.hid ((O5.out.alloc (.cells #[.string (bs nm)] 9)).grown (B5.out.alloc B5.out.size _) (Nat.le_refl _) gg); have k7 := Lib.hid (HC.out _ B6.out); clear oo gg vv)
          | (refine G.step_g (s := kT) (w := W5) (v := .slice a5 0 c5) (l := ([] : List Txt).take 0) goodT rfl (.tmp 294) (.tmp 300) rfl (by simp [Act.eval]) O5.out (some ⟨U.heap.size + 1, 0, none⟩) 1 1 [nm] rfl (by simp [Act.eval]) Y5.out.row (0 + 1) (([] : List Txt).take 0 ++ [nm]) rfl hN2.out (by omega) B5.out.size ?_; intro a6 c6 W6 oo gg vv; have O6 := Lib.hid oo; have B6 := Lib.hid (O5.out.grown B5.out (Nat.le_refl _) gg); have k7 := Lib.hid (HC.out _ B6.out); clear oo gg vv)
          | (refine G.step_g (s := kT) (w := W5) (v := .slice a5 0 c5) (l := ([] : List Txt).take 0) goodT rfl (.tmp 294) (.tmp 300) rfl (by simp [Act.eval]) O5.out (some ⟨U.heap.size, 0, none⟩) 1 1 [nm] rfl (by simp [Act.eval]) Y5.out.row (0 + 1) (([] : List Txt).take 0 ++ [nm]) rfl hN2.out (by omega) B5.out.size ?_; intro a6 c6 W6 oo gg vv; have O6 := Lib.hid oo; have B6 := Lib.hid (O5.out.grown B5.out (Nat.le_refl _) gg); have k7 := Lib.hid (HC.out _ B6.out); clear oo gg vv)
          | (refine G.step_g (s := kT) (w := W6) (v := .slice a6 (0 + 1) c6) (l := ([] : List Txt).take 0 ++ [nm]) goodT rfl (.tmp 301) (.tmp 304) rfl (by simp [Act.eval]) O6.out none (0) (0) (([] : List Txt).drop 0) ld0.out (by simp [Act.eval]) (R2.out.below B6.out) (([] : List Txt).length + 1) (([] : List Txt).take 0 ++ [nm] ++ ([] : List Txt).drop 0) rfl hN3.out (by omega) B6.out.size ?_; intro a7 c7 W7 oo gg vv; have O7 := Lib.hid (oo.mono HB2.out.size); have B7 := Lib.hid (O6.out.grown B6.out (Nat.le_refl _) gg); have k8 := Lib.hid (HC.out _ B7.out); clear oo gg vv)
          | fail)
      all_goals go_wp2
      all_goals exact Met.intro (HJ.out _ _ ⟨⟨⟨rfl, rfl⟩, rfl, rfl, rfl, rfl, rfl, rfl, rfl⟩, rfl, rfl, rfl, 0, hj, HH.out.1, HH.out.2, O7.out, HB2.out.trans (B7.out.mono HB2.out.size)⟩)
    · obtain ⟨nb, rfl⟩ := HF.out hq0
      have hqp : 0 < qs.length := List.length_pos_iff.2 hq0
      have i10 : ¬ nc = 0 := by omega
      clear hq0
      by_cases hcj : nc = j
      · subst hcj
        have ld0 : Hid ((qs.drop nc).length = 0) := Lib.hid (by rw [ld1.out]; omega)
        have R1 : Hid (Row kT U (some ⟨nb, 0, none⟩) (nc) (qs.take nc)) := Lib.hid (HR2.out.take nc)
        have R2 : Hid (Row kT U (some ⟨nb, 0, none⟩) (0) (qs.drop nc)) := Lib.hid (by rw [List.drop_of_length_le (by omega)]; exact Row.empty _ _ _)
        go_region_held3 (fun Z => Z.cell? ⟨mb, kn * 4 + 3, none⟩ = some (.string (bs nm)))
          (first | (with_reducible exact k0.out) | (with_reducible exact k1.out) | (with_reducible exact k2.out) | (with_reducible exact k3.out) | (with_reducible exact k4.out) | (with_reducible exact k5.out) | (with_reducible exact k6.out) | (with_reducible exact k7.out) | (with_reducible exact k8.out) | fail)
          (first
            | (refine G.step_g (s := kT) (w := (U.alloc (.cells #[] 9)).drew) (v := .slice (some ⟨U.heap.size, 0, none⟩) 0 0) (l := []) goodT rfl (.tmp 290) (.tmp 293) rfl (by simp [Act.eval]) o1.out (some ⟨nb, 0, none⟩) (nc) nc (qs.take nc) lt1.out (by simp [Act.eval]) (R1.out.below b1.out) nc (qs.take nc) rfl lt1.out (by omega) b1.out.size ?_; intro a5 c5 W5 oo gg vv; have O5 := Lib.hid oo; have B5 := Lib.hid (o1.out.grown b1.out (Nat.le_refl _) gg); have k5 := Lib.hid (HC.out _ B5.out); have k6 := Lib.hid (HC.out _ (B5.out.alloc B5.out.size (.cells #[.string (bs nm)] 9))); clear oo gg vv)
            | (refine G.step_g (s := kT) (w := ((U.alloc (.cells #[] 9)).alloc (.cells #[.string (bs nm)] 9)).drew) (v := .slice (some ⟨U.heap.size, 0, none⟩) 0 0) (l := []) goodT rfl (.tmp 290) (.tmp 293) rfl (by simp [Act.eval]) o3.out (some ⟨nb, 0, none⟩) (nc) nc (qs.take nc) lt1.out (by simp [Act.eval]) (R1.out.below b3.out) nc (qs.take nc) rfl lt1.out (by omega) b3.out.size ?_; intro a5 c5 W5 oo gg vv; have O5 := Lib.hid oo; have B5 := Lib.hid (o3.out.grown b3.out (Nat.le_refl _) gg); have k5 := Lib.hid (HC.out _ B5.out); have k6 := Lib.hid (HC.out _ (B5.out.alloc B5.out.size (.cells #[.string (bs nm)] 9))); have Y5 := Lib.hid (y3.out.kept gg (ne_up U.heap.size)); clear oo gg vv)
            | (refine G.step_g (s := kT) (w := ((U.alloc (.cells #[.string (bs nm)] 9)).alloc (.cells #[] 9)).drew) (v := .slice (some ⟨U.heap.size + 1, 0, none⟩) 0 0) (l := []) goodT rfl (.tmp 290) (.tmp 293) rfl (by simp [Act.eval]) o4.out (some ⟨nb, 0, none⟩) (nc) nc (qs.take nc) lt1.out (by simp [Act.eval]) (R1.out.below b4.out) nc (qs.take nc) rfl lt1.out (by omega) b4.out.size ?_; intro a5 c5 W5 oo gg vv; have O5 := Lib.hid oo; have B5 := Lib.hid (o4.out.grown b4.out (Nat.le_refl _) gg); have k5 := Lib.hid (HC.out _ B5.out); have k6 := Lib.hid (HC.out _ (B5.out.alloc B5.out.size (.cells #[.string (bs nm)] 9))); have Y5 := Lib.hid (y4.out.kept gg (ne_down U.heap.size)); clear oo gg vv)
            | (refine G.step_g (s := kT) (w := W5.alloc (.cells #[.string (bs nm)] 9)) (v := .slice a5 nc c5) (l := qs.take nc) goodT rfl (.tmp 294) (.tmp 300) rfl (by simp [Act.eval]) (O5.out.alloc _) (some ⟨W5.heap.size, 0, none⟩) 1 1 [nm] rfl (by simp [Act.eval]) (QAt.new W5 nm).row (nc + 1) (qs.take nc ++ [nm]) rfl hN2.out (by omega) (by have := B5.out.size; simp; omega) ?_; intro a6 c6 W6 oo gg vv; have O6 := Lib.hid oo; have B6 := Lib.hid ((O5.out.alloc (.cells #[.string (bs nm)] 9)).grown (B5.out.alloc B5.out.size _) (Nat.le_refl _) gg); have k7 := Lib.hid (HC.out _ B6.out); clear oo gg vv)
            | (refine G.step_g (s := kT) (w := W5) (v := .slice a5 nc c5) (l := qs.take nc) goodT rfl (.tmp 294) (.tmp 300) rfl (by simp [Act.eval]) O5.out (some ⟨U.heap.size + 1, 0, none⟩) 1 1 [nm] rfl (by simp [Act.eval]) Y5.out.row (nc + 1) (qs.take nc ++ [nm]) rfl hN2.out (by omega) B5.out.size ?_; intro a6 c6 W6 oo gg vv; have O6 := Lib.hid oo; have B6 := Lib.hid (O5.out.grown B5.out (Nat.le_refl _) gg); have k7 := Lib.hid (HC.out _ B6.out); clear oo gg vv)
            | (refine G.step_g (s := kT) (w := W5) (v := .slice a5 nc c5) (l := qs.take nc) goodT rfl (.tmp 294) (.tmp 300) rfl (by simp [Act.eval]) O5.out (some ⟨U.heap.size, 0, none⟩) 1 1 [nm] rfl (by simp [Act.eval]) Y5.out.row (nc + 1) (qs.take nc ++ [nm]) rfl hN2.out (by omega) B5.out.size ?_; intro a6 c6 W6 oo gg vv; have O6 := Lib.hid oo; have B6 := Lib.hid (O5.out.grown B5.out (Nat.le_refl _) gg); have k7 := Lib.hid (HC.out _ B6.out); clear oo gg vv)
            | (refine G.step_g (s := kT) (w := W6) (v := .slice a6 (nc + 1) c6) (l := qs.take nc ++ [nm]) goodT rfl (.tmp 301) (.tmp 304) rfl (by simp [Act.eval]) O6.out (some ⟨nb, 0, none⟩) (0) (0) (qs.drop nc) ld0.out (by simp [Act.eval]) (R2.out.below B6.out) (qs.length + 1) (qs.take nc ++ [nm] ++ qs.drop nc) rfl hN3.out (by omega) B6.out.size ?_; intro a7 c7 W7 oo gg vv; have O7 := Lib.hid (oo.mono HB2.out.size); have B7 := Lib.hid (O6.out.grown B6.out (Nat.le_refl _) gg); have k8 := Lib.hid (HC.out _ B7.out); clear oo gg vv)
            | fail)
        all_goals go_wp2
        all_goals exact Met.intro (HJ.out _ _ ⟨⟨⟨rfl, rfl⟩, rfl, rfl, rfl, rfl, rfl, rfl, rfl⟩, rfl, rfl, rfl, nc, hj, HH.out.1, HH.out.2, O7.out, HB2.out.trans (B7.out.mono HB2.out.size)⟩)
      · have j1 : ¬ nc = j := hcj
        have R1 : Hid (Row kT U (some ⟨nb, 0, none⟩) (nc) (qs.take j)) := Lib.hid (HR2.out.take j)
        have R2 : Hid (Row kT U (some ⟨nb, j, none⟩) (nc - j) (qs.drop j)) := Lib.hid (by have := HR2.out.drop j hj; rw [Nat.zero_add, show j * kT.sz = j by simp [kT]] at this; exact this)
        go_region_held3 (fun Z => Z.cell? ⟨mb, kn * 4 + 3, none⟩ = some (.string (bs nm)))
          (first | (with_reducible exact k0.out) | (with_reducible exact k1.out) | (with_reducible exact k2.out) | (with_reducible exact k3.out) | (with_reducible exact k4.out) | (with_reducible exact k5.out) | (with_reducible exact k6.out) | (with_reducible exact k7.out) | (with_reducible exact k8.out) | fail)
          (first
            | (refine G.step_g (s := kT) (w := (U.alloc (.cells #[] 9)).drew) (v := .slice (some ⟨U.heap.size, 0, none⟩) 0 0) (l := []) goodT rfl (.tmp 290) (.tmp 293) rfl (by simp [Act.eval]) o1.out (some ⟨nb, 0, none⟩) (nc) j (qs.take j) lt1.out (by simp [Act.eval]) (R1.out.below b1.out) j (qs.take j) rfl lt1.out (by omega) b1.out.size ?_; intro a5 c5 W5 oo gg vv; have O5 := Lib.hid oo; have B5 := Lib.hid (o1.out.grown b1.out (Nat.le_refl _) gg); have k5 := Lib.hid (HC.out _ B5.out); have k6 := Lib.hid (HC.out _ (B5.out.alloc B5.out.size (.cells #[.string (bs nm)] 9))); clear oo gg vv)
            | (refine G.step_g (s := kT) (w := ((U.alloc (.cells #[] 9)).alloc (.cells #[.string (bs nm)] 9)).drew) (v := .slice (some ⟨U.heap.size, 0, none⟩) 0 0) (l := []) goodT rfl (.tmp 290) (.tmp 293) rfl (by simp [Act.eval]) o3.out (some ⟨nb, 0, none⟩) (nc) j (qs.take j) lt1.out (by simp [Act.eval]) (R1.out.below b3.out) j (qs.take j) rfl lt1.out (by omega) b3.out.size ?_; intro a5 c5 W5 oo gg vv; have O5 := Lib.hid oo; have B5 := Lib.hid (o3.out.grown b3.out (Nat.le_refl _) gg); have k5 := Lib.hid (HC.out _ B5.out); have k6 := Lib.hid (HC.out _ (B5.out.alloc B5.out.size (.cells #[.string (bs nm)] 9))); have Y5 := Lib.hid (y3.out.kept gg (ne_up U.heap.size)); clear oo gg vv)
            | (refine G.step_g (s := kT) (w := ((U.alloc (.cells #[.string (bs nm)] 9)).alloc (.cells #[] 9)).drew) (v := .slice (some ⟨U.heap.size + 1, 0, none⟩) 0 0) (l := []) goodT rfl (.tmp 290) (.tmp 293) rfl (by simp [Act.eval]) o4.out (some ⟨nb, 0, none⟩) (nc) j (qs.take j) lt1.out (by simp [Act.eval]) (R1.out.below b4.out) j (qs.take j) rfl lt1.out (by omega) b4.out.size ?_; intro a5 c5 W5 oo gg vv; have O5 := Lib.hid oo; have B5 := Lib.hid (o4.out.grown b4.out (Nat.le_refl _) gg); have k5 := Lib.hid (HC.out _ B5.out); have k6 := Lib.hid (HC.out _ (B5.out.alloc B5.out.size (.cells #[.string (bs nm)] 9))); have Y5 := Lib.hid (y4.out.kept gg (ne_down U.heap.size)); clear oo gg vv)
            | (refine G.step_g (s := kT) (w := W5.alloc (.cells #[.string (bs nm)] 9)) (v := .slice a5 j c5) (l := qs.take j) goodT rfl (.tmp 294) (.tmp 300) rfl (by simp [Act.eval]) (O5.out.alloc _) (some ⟨W5.heap.size, 0, none⟩) 1 1 [nm] rfl (by simp [Act.eval]) (QAt.new W5 nm).row (j + 1) (qs.take j ++ [nm]) rfl hN2.out (by omega) (by have := B5.out.size; simp; omega) ?_; intro a6 c6 W6 oo gg vv; have O6 := Lib.hid oo; have B6 := Lib.hid ((O5.out.alloc (.cells #[.string (bs nm)] 9)).grown (B5.out.alloc B5.out.size _) (Nat.le_refl _) gg); have k7 := Lib.hid (HC.out _ B6.out); clear oo gg vv)
            | (refine G.step_g (s := kT) (w := W5) (v := .slice a5 j c5) (l := qs.take j) goodT rfl (.tmp 294) (.tmp 300) rfl (by simp [Act.eval]) O5.out (some ⟨U.heap.size + 1, 0, none⟩) 1 1 [nm] rfl (by simp [Act.eval]) Y5.out.row (j + 1) (qs.take j ++ [nm]) rfl hN2.out (by omega) B5.out.size ?_; intro a6 c6 W6 oo gg vv; have O6 := Lib.hid oo; have B6 := Lib.hid (O5.out.grown B5.out (Nat.le_refl _) gg); have k7 := Lib.hid (HC.out _ B6.out); clear oo gg vv)
            | (refine G.step_g (s := kT) (w := W5) (v := .slice a5 j c5) (l := qs.take j) goodT rfl (.tmp 294) (.tmp 300) rfl (by simp [Act.eval]) O5.out (some ⟨U.heap.size, 0, none⟩) 1 1 [nm] rfl (by simp [Act.eval]) Y5.out.row (j + 1) (qs.take j ++ [nm]) rfl hN2.out (by omega) B5.out.size ?_; intro a6 c6 W6 oo gg vv; have O6 := Lib.hid oo; have B6 := Lib.hid (O5.out.grown B5.out (Nat.le_refl _) gg); have k7 := Lib.hid (HC.out _ B6.out); clear oo gg vv)
            | (refine G.step_g (s := kT) (w := W6) (v := .slice a6 (j + 1) c6) (l := qs.take j ++ [nm]) goodT rfl (.tmp 301) (.tmp 304) rfl (by simp [Act.eval]) O6.out (some ⟨nb, j, none⟩) (nc - j) (qs.length - j) (qs.drop j) ld1.out (by simp [Act.eval]) (R2.out.below B6.out) (qs.length + 1) (qs.take j ++ [nm] ++ qs.drop j) rfl hN3.out (by omega) B6.out.size ?_; intro a7 c7 W7 oo gg vv; have O7 := Lib.hid (oo.mono HB2.out.size); have B7 := Lib.hid (O6.out.grown B6.out (Nat.le_refl _) gg); have k8 := Lib.hid (HC.out _ B7.out); clear oo gg vv)
            | fail)
        all_goals go_wp2
        all_goals exact Met.intro (HJ.out _ _ ⟨⟨⟨rfl, rfl⟩, rfl, rfl, rfl, rfl, rfl, rfl, rfl⟩, rfl, rfl, rfl, j, hj, HH.out.1, HH.out.2, O7.out, HB2.out.trans (B7.out.mono HB2.out.size)⟩)

end

end Go.Proofs.Ytglbemdeboaheaa.Rf
