/-
  The law SdwRings answers true: ring by ring: what may be read, written, executed, called at each, for whatever access.
-/
import Derived.Test.YtknfiepbibaklaaDoorDDuo
import Derived.Test.YtknfiepbibaklaaDoorRHeld
import Derived.Test.YtknfiepbibaklaaDoorTab
import Derived.Deep.DeepCutAuto
namespace Go.Proofs.YtknfiepbibaklaaDoor.D
open Go.ChangeShapes Go.WideShapes Go.ChangeAt Go.RowKit
open Go.Proofs.YtknfiepbibaklaaDoor.N (bs bs_data bs_size bs_inj)
open Go.Proofs.YtknfiepbibaklaaDoor.A (Tm Fl TRow findR noFl)
open Go.Proofs.YtknfiepbibaklaaDoor.W (BV acc bmay cto cer inr one_new retI StoreAt SP)
open Go.Proofs.YtknfiepbibaklaaDoor.T (Br Nd St TreeAt TP BrV BrO BrAt noBr Txt rng segS segB nodeS aclX ringX noSt freeE)

def rBr (f : Fl) (r1 r2 r3 g : Int) : Br := ⟨1, 1, 0, [], false, [([42], f)], r1, r2, r3, g⟩
@[reducible] def rX (fr fw fe : Bool) (r1 r2 r3 g : Int) : Sd := ⟨1, 20, fr, fw, fe, r1, r2, r3, g⟩
@[reducible] def rV (fr fw fe : Bool) (r1 r2 r3 g : Int) : Value := .agg #[.int .i64 1, .int .i64 20, .bool fr, .bool fw, .bool fe, .int .i64 r1, .int .i64 r2, .int .i64 r3, .int .i64 g]
@[reducible] def rO (fr fw fe : Bool) (r1 r2 r3 g : Int) : Obj := .cells #[.int .i64 1, .int .i64 20, .bool fr, .bool fw, .bool fe, .int .i64 r1, .int .i64 r2, .int .i64 r3, .int .i64 g] 41
theorem r_x (fr fw fe : Bool) (r1 r2 r3 g : Int) : sdOf 1 (20 : Nat) (segB (rBr (fr, fw, fe) r1 r2 r3 g)) [117] = rX fr fw fe r1 r2 r3 g := by
  unfold sdOf flg
  rw [show (segB (rBr (fr, fw, fe) r1 r2 r3 g)).acl = [([42], (fr, fw, fe))] from rfl, find_star (by decide), show (segB (rBr (fr, fw, fe) r1 r2 r3 g)).obj = false from rfl]
  simp only [Bool.not_false, Bool.and_true]
  rfl

section
variable {w0 Y : World} {b s g0 : Nat} {l u q : Int} {k : Nat} {S : Int → Option (List Int)} {K : List (Nat × Obj)} {fr fw fe : Bool} {r1 r2 r3 g : Int}

theorem r_add {p : Nat} (hb : bmay r1 r2 r3 g = true) (h : Duo w0 Y b 0 noSt s q u l k S K) (hp : Y.heap.size = p) :
    Calls Tryd.prog 11 #[TP b, .int .i64 0, .string ⟨#[97]⟩, .agg #[.int .i64 1, .int .i64 1, .int .i64 0, .string ⟨#[]⟩, .bool false, .slice (some ⟨p, 0, none⟩) 1 1, .int .i64 r1, .int .i64 r2, .int .i64 r3, .int .i64 g]] (Y.alloc (.cells #[.string ⟨#[42]⟩, .bool fr, .bool fw, .bool fe] 56)) fun e w' => e = .returned (.tuple #[.int .i64 0, .int .i64 0]) ∧ ∃ g1, Duo w0 w' b 4 (segS noSt g1 (rBr (fr, fw, fe) r1 r2 r3 g) 0 [97]) s q u l k S K := by
  subst hp
  exact duo_add (h.alloc _) (d := 0) (n := [97]) (br := rBr (fr, fw, fe) r1 r2 r3 g) T.rng0 (T.short_txt (by decide)) (T.free_ok (by decide) rfl) (row_one Y ([42], (fr, fw, fe))) (by simp [rBr, maxLen]) rfl (by simp [rBr]) (by simp [rBr]) (may_one (t := ([42], (fr, fw, fe))) A.star_may) hb rfl (by omega)
theorem r_of (h : Duo w0 Y b 4 (segS noSt g0 (rBr (fr, fw, fe) r1 r2 r3 g) 0 [97]) s q u l k (oneS 1 20) K) :
    Calls Tryd.prog 12 #[TP b, SP s, .int .i64 1, .string ⟨#[117]⟩] Y fun e w' => e = .returned (.tuple #[rV fr fw fe r1 r2 r3 g, .int .i64 0]) ∧ Below Y.heap.size Y w' :=
  duo_of h (uid := 1) (by unfold rng; omega) (seg_st g0 (rBr (fr, fw, fe) r1 r2 r3 g)).2.2.1 (seg_st g0 (rBr (fr, fw, fe) r1 r2 r3 g)).2.1 (by simp [rBr, segB, maxLen]) (oneS_at 1 20) [117] (z := rX fr fw fe r1 r2 r3 g) (r_x fr fw fe r1 r2 r3 g)

end

/-- flags, brackets and a descriptor in blocks of their own, and nothing older changed -/
@[reducible] def RB (w : World) (pf pb px : Nat) (fr fw fe : Bool) (r1 r2 r3 g : Int) (Y : World) : Prop := W.FlAt Y pf fr fw fe ∧ W.BrAt Y pb r1 r2 r3 g ∧ SdAt Y px (rX fr fw fe r1 r2 r3 g) ∧ Below w.heap.size w Y
theorem rb_below {w : World} {pf pb px : Nat} {fr fw fe : Bool} {r1 r2 r3 g : Int} {Y V : World} (h : RB w pf pb px fr fw fe r1 r2 r3 g Y) (hb : Below Y.heap.size Y V) : RB w pf pb px fr fw fe r1 r2 r3 g V :=
  ⟨W.fl_below hb h.1, W.br_below hb h.2.1, sd_below h.2.2.1 hb, bel2 h.2.2.2 hb⟩

theorem acc_b {fl : Bool} {k a b r1 r2 r3 g : Int} (hm : bmay r1 r2 r3 g = true) (k0 : 0 ≤ k) (k7 : k ≤ 7) : (acc (bmay r1 r2 r3 g) fl k a b == 0) = (fl && inr k a b) := by
  rw [W.acc_zero, W.inr_mk k0 k7, hm]
  simp
theorem bnd_in {e off size : Int} (h0 : 0 ≤ off) (h1 : off < size) : bnd e off size = e := by
  unfold bnd
  rw [if_neg (by omega)]

theorem r_out {e off size : Int} (h : off < 0 ∨ size ≤ off) : (bnd e off size != 0) = true := by
  unfold bnd
  by_cases c : e = 0
  · rw [if_pos ⟨c, h⟩]; rfl
  · rw [if_neg (fun hh => c hh.1)]; simpa using c
theorem der_in (fr fw fe : Bool) {r1 r2 r3 g k o : Int} (hm : bmay r1 r2 r3 g = true) (m0 : 0 ≤ o) (m1 : o < 20) : der (rX fr fw fe r1 r2 r3 g) k o = cer true fe k r1 r2 r3 g o := by
  show bnd (cer (bmay r1 r2 r3 g) fe k r1 r2 r3 g o) o 20 = _
  rw [bnd_in m0 m1, hm]
/-- the ways of a call -/
theorem r_ways {fe : Bool} {r1 r2 r3 g k o : Int} (hm : bmay r1 r2 r3 g = true) (k0 : 0 ≤ k) (k7 : k ≤ 7) (m0 : 0 ≤ o) :
    (fe = false ∧ cer true fe k r1 r2 r3 g o = 9) ∨
    (fe = true ∧ decide (r1 ≤ k) = false ∧ cer true fe k r1 r2 r3 g o = 10) ∨
    (fe = true ∧ decide (r1 ≤ k) = true ∧ decide (k ≤ r2) = true ∧ cer true fe k r1 r2 r3 g o = 0) ∨
    (fe = true ∧ decide (r1 ≤ k) = true ∧ decide (k ≤ r2) = false ∧ decide (k ≤ r3) = false ∧ cer true fe k r1 r2 r3 g o = 10) ∨
    (fe = true ∧ decide (r1 ≤ k) = true ∧ decide (k ≤ r2) = false ∧ decide (k ≤ r3) = true ∧ decide (o < g) = true ∧ cer true fe k r1 r2 r3 g o = 0) ∨
    (fe = true ∧ decide (r1 ≤ k) = true ∧ decide (k ≤ r2) = false ∧ decide (k ≤ r3) = true ∧ decide (o < g) = false ∧ cer true fe k r1 r2 r3 g o = 11) := by
  have m := W.bmay_yes hm
  simp only [decide_eq_true_iff, decide_eq_false_iff_not]
  rcases W.call_ways r1 r2 r3 g fe k o with ⟨d1, e1, e2⟩ | ⟨d1, d2, e1, e2⟩ | ⟨d1, d2, d3, e1, e2⟩ | ⟨d1, d2, d3, d4, e1, e2⟩ | ⟨d1, d2, d3, d4, d5, e1, e2⟩ | ⟨d1, d2, d3, d4, d5, d6, e1, e2⟩ | ⟨d1, d2, d3, d4, d5, d6, d7, e1, e2⟩ | ⟨d1, d2, d3, d4, d5, d6, d7, d8, e1, e2⟩ | ⟨d1, d2, d3, d4, d5, d6, d7, d8, e1, e2⟩
  all_goals
    simp only [decide_eq_true_iff, decide_eq_false_iff_not] at *
    rw [e2]
  · omega
  · omega
  · exact .inl ⟨d3, rfl⟩
  · exact .inr (.inl ⟨d3, by omega, rfl⟩)
  · exact .inr (.inr (.inr (.inl ⟨d3, by omega, by omega, by omega, rfl⟩)))
  · exact .inr (.inr (.inl ⟨d3, by omega, by omega, rfl⟩))
  · omega
  · exact .inr (.inr (.inr (.inr (.inr ⟨d3, by omega, by omega, by omega, by omega, rfl⟩))))
  · exact .inr (.inr (.inr (.inr (.inl ⟨d3, by omega, by omega, by omega, by omega, rfl⟩))))

def rTab (px pf pb : Nat) (fr fw fe p1 p2 p3 : Bool) (r1 r2 r3 g k o eR eW eF : Int) : Nat → Value
  | 13 => .pointer (some ⟨px, 0, none⟩)
  | 16 => .int .i64 k
  | 15 => .int .i64 o
  | 3 => .pointer (some ⟨pf, 0, none⟩)
  | 4 => .pointer (some ⟨pb, 0, none⟩)
  | 76 => rV fr fw fe r1 r2 r3 g
  | 77 => .int .i64 k
  | 78 => .int .i64 o
  | 79 => .int .i64 eR
  | 80 => .bool (fr && p1)
  | 81 => .pointer (some ⟨pf, 0, none⟩)
  | 82 => .bool fr
  | 83 => .bool fr
  | 84 => bif fr then .int .i64 k else undef
  | 85 => bif fr then .pointer (some ⟨pb, 1, none⟩) else undef
  | 86 => bif fr then .int .i64 r2 else undef
  | 87 => bif fr then .bool p1 else undef
  | 88 => .bool (fr && p1)
  | 89 => .bool false
  | 90 => .bool false
  | 91 => rV fr fw fe r1 r2 r3 g
  | 92 => .int .i64 k
  | 93 => .int .i64 o
  | 94 => .int .i64 eW
  | 95 => .bool (fw && p2)
  | 96 => .pointer (some ⟨pf, 1, none⟩)
  | 97 => .bool fw
  | 98 => .bool fw
  | 99 => bif fw then .int .i64 k else undef
  | 100 => bif fw then .pointer (some ⟨pb, 0, none⟩) else undef
  | 101 => bif fw then .int .i64 r1 else undef
  | 102 => bif fw then .bool p2 else undef
  | 103 => .bool (fw && p2)
  | 104 => .bool false
  | 105 => .bool false
  | 106 => .bool false
  | 107 => rV fr fw fe r1 r2 r3 g
  | 108 => .int .i64 k
  | 109 => .int .i64 o
  | 110 => .int .i64 eF
  | 111 => .bool (fe && (p3 && p1))
  | 112 => .pointer (some ⟨pf, 2, none⟩)
  | 113 => .bool fe
  | 114 => .bool fe
  | 115 => bif fe then .int .i64 k else undef
  | 116 => bif fe then .pointer (some ⟨pb, 0, none⟩) else undef
  | 117 => bif fe then .int .i64 r1 else undef
  | 118 => bif fe then .bool p3 else undef
  | 119 => .bool (fe && p3)
  | 120 => .bool (fe && p3)
  | 121 => bif (fe && p3) then .int .i64 k else undef
  | 122 => bif (fe && p3) then .pointer (some ⟨pb, 1, none⟩) else undef
  | 123 => bif (fe && p3) then .int .i64 r2 else undef
  | 124 => bif (fe && p3) then .bool p1 else undef
  | 125 => .bool (fe && (p3 && p1))
  | 126 => .bool false
  | 127 => .bool false
  | _ => undef
def rTabDs : List Nat := [76, 77, 78, 79, 80, 81, 82, 83, 84, 85, 86, 87, 88, 89, 90, 91, 92, 93, 94, 95, 96, 97, 98, 99, 100, 101, 102, 103, 104, 105, 106, 107, 108, 109, 110, 111, 112, 113, 114, 115, 116, 117, 118, 119, 120, 121, 122, 123, 124, 125, 126, 127]
def rTabOlds : List Nat := [13, 16, 15, 3, 4]

set_option maxRecDepth 20000 in
set_option maxHeartbeats 1000000 in
theorem rings_walk (fr fw fe : Bool) (r1 r2 r3 g : Int) (n : Nat) (hn : n ≤ 255) (w : World) :
    Calls Tryd.prog 6 #[W.FV fr fw fe, BV r1 r2 r3 g, .int .u8 n] w fun e w' => e = .returned (.bool true) ∧ Below w.heap.size w w' := by
  have F0 := Lib.hid (W.fl_below (one_new _ (W.BO r1 r2 r3 g)) (W.fl_new w fr fw fe))
  have B0 : Hid (W.BrAt ((w.alloc (W.FO fr fw fe)).alloc (W.BO r1 r2 r3 g)) (w.heap.size + 1) r1 r2 r3 g) := Lib.hid (by simpa using W.br_new (w.alloc (W.FO fr fw fe)) r1 r2 r3 g)
  have L0 := Lib.hid (W.two_new w (W.FO fr fw fe) (W.BO r1 r2 r3 g))
  have m0 : 0 ≤ (n : Int) % 20 := by omega
  have m1 : (n : Int) % 20 < 20 := by omega
  cases hb : bmay r1 r2 r3 g with
  | false =>
    go_enter Tryd.func6, Tryd.ntmps6
    go_wp2_with (first
      | (go_at_call 7; ((with_reducible refine (awake_any _).mono ?_); rintro e wA ⟨rfl, bA⟩))
      | (go_at_call 8; ((with_reducible refine (T.new_at wA).mono ?_); rintro e w1 ⟨rfl, h1, b1, s1⟩))
      | (go_at_call 9; ((with_reducible refine (W.new_at (q := 100) (by omega) w1).mono ?_); rintro e w2 ⟨rfl, h2, b2, s2⟩; have D2 := Lib.hid (duo_new h1 (bel2 bA b1) (fun i hi => by have := bA.size; omega) (fun i hi => by omega) h2 b2); clear h1 b1 h2 b2 bA; obtain ⟨q0, q1, q2, q3, q4⟩ := W.br_below D2.out.bel B0.out))
      | (go_at_call 21; ((with_reducible refine (W.rmay_no r1 r2 r3 g _ hb).mono ?_); rintro e w5 ⟨rfl, rfl⟩)))
    go_ret
    exact ⟨rfl, bel2 (bel2 L0.out D2.out.bel) (one_new _ _)⟩
  | true =>
    go_enter Tryd.func6, Tryd.ntmps6
    go_wp2_with (first
      | (go_at_call 7; ((with_reducible refine (awake_any _).mono ?_); rintro e wA ⟨rfl, bA⟩))
      | (go_at_call 8; ((with_reducible refine (T.new_at wA).mono ?_); rintro e w1 ⟨rfl, h1, b1, s1⟩))
      | (go_at_call 9; ((with_reducible refine (W.new_at (q := 100) (by omega) w1).mono ?_); rintro e w2 ⟨rfl, h2, b2, s2⟩; have D2 := Lib.hid (duo_new h1 (bel2 bA b1) (fun i hi => by have := bA.size; omega) (fun i hi => by omega) h2 b2); clear h1 b1 h2 b2 bA; obtain ⟨q0, q1, q2, q3, q4⟩ := W.br_below D2.out.bel B0.out))
      | (go_at_call 21; ((with_reducible refine (W.rmay_yes r1 r2 r3 g _ hb).mono ?_); rintro e w5 ⟨rfl, rfl⟩; clear q0 q1 q2 q3 q4; have D5 := Lib.hid (D2.out.alloc (W.BO r1 r2 r3 g))))
      | (go_at_call 10; ((with_reducible refine (duo_make D5.out (n := 20) (u' := 20) (l' := 1) (S' := oneS 1 20) (by omega) (by omega) (by omega) (by omega) (by omega) (by omega) (by omega) (by omega) (by omega) (by omega) (by omega) rfl).mono ?_); rintro e w6 ⟨rfl, h6⟩; have D6 := Lib.hid h6; clear h6; obtain ⟨q0, q1, q2, q3, q4⟩ := W.br_below D6.out.bel B0.out; obtain ⟨p0, p1, p2, p3⟩ := W.fl_below D6.out.bel F0.out))
      | (go_at_call 11; ((with_reducible refine (r_add (g := g) hb D6.out (p := w6.heap.size) rfl).mono ?_); rintro e w7 ⟨rfl, g1, h7⟩; clear q0 q1 q2 q3 q4 p0 p1 p2 p3; have D7 := Lib.hid h7; clear h7))
      | (go_at_call 12; ((with_reducible refine (r_of D7.out).mono ?_); rintro e w8 ⟨rfl, b8⟩; have D8 := Lib.hid ((D7.out.below b8).alloc (rO fr fw fe r1 r2 r3 g)); clear b8; have H : RB w w.heap.size (w.heap.size + 1) w8.heap.size fr fw fe r1 r2 r3 g (w8.alloc (rO fr fw fe r1 r2 r3 g)) := ⟨W.fl_below D8.out.bel F0.out, W.br_below D8.out.bel B0.out, sd_new w8 (rX fr fw fe r1 r2 r3 g), bel2 L0.out D8.out.bel⟩)))
    clear D2 D5 D6 D7 D8 F0 B0 L0 s1 s2
    generalize w.heap.size + 1 = pb at *
    generalize w8.heap.size = px at *
    generalize (n : Int) % 20 = o at *
    go_loopw [16] (fun i Y => ∃ k : Int, 0 ≤ k ∧ k ≤ 8 ∧ i = .int .i64 k ∧ RB w w.heap.size pb px fr fw fe r1 r2 r3 g Y) (fun i _ => 8 - (intOf i).toNat)
    case atStart => exact ⟨0, by omega, by omega, rfl, H⟩
    case round =>
      clear H
      obtain ⟨k, k0, k8, rfl, H⟩ := hrel
      by_cases c : k < 8
      · have hR : ∀ Y, RB w w.heap.size pb px fr fw fe r1 r2 r3 g Y → Calls Tryd.prog 17 #[rV fr fw fe r1 r2 r3 g, .int .i64 k, .int .i64 o] Y fun e w' => e = .returned (.int .i64 (acc (bmay r1 r2 r3 g) fr k 0 r2)) ∧ RB w w.heap.size pb px fr fw fe r1 r2 r3 g w' := fun Y h => by
          have := read_any (rX fr fw fe r1 r2 r3 g) k o Y
          rw [bnd_in m0 m1] at this
          exact this.mono fun e w' h' => ⟨h'.1, rb_below h h'.2⟩
        have hW : ∀ Y, RB w w.heap.size pb px fr fw fe r1 r2 r3 g Y → Calls Tryd.prog 19 #[rV fr fw fe r1 r2 r3 g, .int .i64 k, .int .i64 o] Y fun e w' => e = .returned (.int .i64 (acc (bmay r1 r2 r3 g) fw k 0 r1)) ∧ RB w w.heap.size pb px fr fw fe r1 r2 r3 g w' := fun Y h => by
          have := write_any (rX fr fw fe r1 r2 r3 g) k o Y
          rw [bnd_in m0 m1] at this
          exact this.mono fun e w' h' => ⟨h'.1, rb_below h h'.2⟩
        have hF : ∀ Y, RB w w.heap.size pb px fr fw fe r1 r2 r3 g Y → Calls Tryd.prog 20 #[rV fr fw fe r1 r2 r3 g, .int .i64 k, .int .i64 o] Y fun e w' => e = .returned (.int .i64 (acc (bmay r1 r2 r3 g) fe k r1 r2)) ∧ RB w w.heap.size pb px fr fw fe r1 r2 r3 g w' := fun Y h => by
          have := fetch_any (rX fr fw fe r1 r2 r3 g) k o Y
          rw [bnd_in m0 m1] at this
          exact this.mono fun e w' h' => ⟨h'.1, rb_below h h'.2⟩
        have zR := acc_b (fl := fr) (a := 0) (b := r2) hb k0 (by omega)
        have zW := acc_b (fl := fw) (a := 0) (b := r1) hb k0 (by omega)
        have zF := acc_b (fl := fe) (a := r1) (b := r2) hb k0 (by omega)
        rw [show inr k 0 r2 = decide (k ≤ r2) by unfold inr; rw [decide_eq_true k0, Bool.true_and]] at zR
        rw [show inr k 0 r1 = decide (k ≤ r1) by unfold inr; rw [decide_eq_true k0, Bool.true_and]] at zW
        unfold inr at zF
        generalize acc (bmay r1 r2 r3 g) fr k 0 r2 = eR at hR zR
        generalize acc (bmay r1 r2 r3 g) fw k 0 r1 = eW at hW zW
        generalize acc (bmay r1 r2 r3 g) fe k r1 r2 = eF at hF zF
        have HR := Lib.hid hR
        have HW := Lib.hid hW
        have HF := Lib.hid hF
        have ZR := Lib.hid zR
        have ZW := Lib.hid zW
        have ZF := Lib.hid zF
        clear hR hW hF zR zW zF
        go_wp2
        go_cut [127] (fun s127 Y => s127 = .bool false ∧ RB w w.heap.size pb px fr fw fe r1 r2 r3 g Y)
        case first =>
          have hR := HR.out
          have hW := HW.out
          have hF := HF.out
          have zR := ZR.out
          have zW := ZW.out
          have zF := ZF.out
          clear HR HW HF ZR ZW ZF
          generalize hp1 : decide (k ≤ r2) = p1 at zR zF
          generalize hp2 : decide (k ≤ r1) = p2 at zW
          generalize hp3 : decide (r1 ≤ k) = p3 at zF
          refine W.wp_tab (by kernel_rfl) (rTab px w.heap.size pb fr fw fe p1 p2 p3 r1 r2 r3 g k o eR eW eF) rTabDs rTabOlds (RB w w.heap.size pb px fr fw fe r1 r2 r3 g) (by kernel_rfl) ⟨rfl, rfl, rfl, rfl, rfl, trivial⟩ ⟨H.1, H.2.1, H.2.2.1, H.2.2.2.drew⟩ ?_ ?_
          rotate_left 1
          · intro Y hY
            simp only [rTabDs, W.puts, rTab, Act.put, List.setIfInBounds_toArray, List.set_cons_succ, List.set_cons_zero]
            go_wp2
            go_meet
            exact ⟨rfl, hY⟩
          refine ⟨?_, ?_, ?_, ?_, ?_, ?_, ?_, ?_, ?_, ?_, ?_, ?_, ?_, ?_, ?_, ?_, ?_, ?_, ?_, ?_, ?_, ?_, ?_, ?_, ?_, ?_, ?_, ?_, ?_, ?_, ?_, ?_, ?_, ?_, ?_, ?_, ?_, ?_, ?_, ?_, ?_, ?_, ?_, ?_, ?_, ?_, ?_, ?_, ?_, ?_, ?_, ?_, trivial⟩
          · refine Or.inl ⟨rfl, ?_⟩
            exact W.td_run (fun d h => by cases h; rfl) (fun w hS => by obtain ⟨⟨f0, f1, f2, f3⟩, ⟨b0, b1, b2, b3, b4⟩, ⟨x0, x1, x2, x3, x4, x5, x6, x7, x8, x9⟩, _⟩ := hS; unfold execOp; dsimp only [W.tev, rTab]; go_simp)
          · exact Or.inl ⟨rfl, W.td_move (Or.inl rfl) (fun d h => by cases h; rfl)⟩
          · exact Or.inl ⟨rfl, W.td_move (Or.inl rfl) (fun d h => by cases h; rfl)⟩
          · exact Or.inl ⟨rfl, W.td_call (vs := #[rV fr fw fe r1 r2 r3 g, .int .i64 k, .int .i64 o]) rfl (by simp [W.tev, rTab]) (fun d h => by cases h; rfl) (fun w => by kernel_rfl) (hR)⟩
          · refine Or.inl ⟨rfl, ?_⟩
            exact W.td_run (fun d h => by cases h; rfl) (fun w hS => by obtain ⟨⟨f0, f1, f2, f3⟩, ⟨b0, b1, b2, b3, b4⟩, ⟨x0, x1, x2, x3, x4, x5, x6, x7, x8, x9⟩, _⟩ := hS; unfold execOp; dsimp only [W.tev, rTab]; go_simp; try rw [zR])
          · refine Or.inl ⟨rfl, ?_⟩
            exact W.td_run (fun d h => by cases h; rfl) (fun w hS => by obtain ⟨⟨f0, f1, f2, f3⟩, ⟨b0, b1, b2, b3, b4⟩, ⟨x0, x1, x2, x3, x4, x5, x6, x7, x8, x9⟩, _⟩ := hS; unfold execOp; dsimp only [W.tev, rTab]; go_simp)
          · refine Or.inl ⟨rfl, ?_⟩
            exact W.td_run (fun d h => by cases h; rfl) (fun w hS => by obtain ⟨⟨f0, f1, f2, f3⟩, ⟨b0, b1, b2, b3, b4⟩, ⟨x0, x1, x2, x3, x4, x5, x6, x7, x8, x9⟩, _⟩ := hS; unfold execOp; dsimp only [W.tev, rTab]; go_simp)
          · exact Or.inl ⟨rfl, W.td_move (Or.inl rfl) (fun d h => by cases h; rfl)⟩
          · cases fr <;> first | exact Or.inr ⟨rfl, fun d h => by cases h; rfl⟩ | exact Or.inl ⟨rfl, W.td_move (Or.inl rfl) (fun d h => by cases h; rfl)⟩ | fail
          · cases fr <;> first | exact Or.inr ⟨rfl, fun d h => by cases h; rfl⟩ | (refine Or.inl ⟨rfl, ?_⟩; exact W.td_run (fun d h => by cases h; rfl) (fun w hS => by obtain ⟨⟨f0, f1, f2, f3⟩, ⟨b0, b1, b2, b3, b4⟩, ⟨x0, x1, x2, x3, x4, x5, x6, x7, x8, x9⟩, _⟩ := hS; unfold execOp; dsimp only [W.tev, rTab]; go_simp)) | fail
          · cases fr <;> first | exact Or.inr ⟨rfl, fun d h => by cases h; rfl⟩ | (refine Or.inl ⟨rfl, ?_⟩; exact W.td_run (fun d h => by cases h; rfl) (fun w hS => by obtain ⟨⟨f0, f1, f2, f3⟩, ⟨b0, b1, b2, b3, b4⟩, ⟨x0, x1, x2, x3, x4, x5, x6, x7, x8, x9⟩, _⟩ := hS; unfold execOp; dsimp only [W.tev, rTab]; go_simp)) | fail
          · cases fr <;> first | exact Or.inr ⟨rfl, fun d h => by cases h; rfl⟩ | (refine Or.inl ⟨rfl, ?_⟩; exact W.td_run (fun d h => by cases h; rfl) (fun w hS => by obtain ⟨⟨f0, f1, f2, f3⟩, ⟨b0, b1, b2, b3, b4⟩, ⟨x0, x1, x2, x3, x4, x5, x6, x7, x8, x9⟩, _⟩ := hS; unfold execOp; dsimp only [W.tev, rTab]; go_simp; try rw [hp1])) | fail
          · exact Or.inl ⟨rfl, W.td_pick (b := fr) rfl rfl (fun d h => by cases h; first | rfl | (cases fr <;> rfl))⟩
          · refine Or.inl ⟨rfl, ?_⟩
            exact W.td_run (fun d h => by cases h; rfl) (fun w hS => by obtain ⟨⟨f0, f1, f2, f3⟩, ⟨b0, b1, b2, b3, b4⟩, ⟨x0, x1, x2, x3, x4, x5, x6, x7, x8, x9⟩, _⟩ := hS; unfold execOp; dsimp only [W.tev, rTab]; go_simp)
          · exact Or.inl ⟨rfl, W.td_move (Or.inl rfl) (fun d h => by cases h; rfl)⟩
          · refine Or.inl ⟨rfl, ?_⟩
            exact W.td_run (fun d h => by cases h; rfl) (fun w hS => by obtain ⟨⟨f0, f1, f2, f3⟩, ⟨b0, b1, b2, b3, b4⟩, ⟨x0, x1, x2, x3, x4, x5, x6, x7, x8, x9⟩, _⟩ := hS; unfold execOp; dsimp only [W.tev, rTab]; go_simp)
          · exact Or.inl ⟨rfl, W.td_move (Or.inl rfl) (fun d h => by cases h; rfl)⟩
          · exact Or.inl ⟨rfl, W.td_move (Or.inl rfl) (fun d h => by cases h; rfl)⟩
          · exact Or.inl ⟨rfl, W.td_call (vs := #[rV fr fw fe r1 r2 r3 g, .int .i64 k, .int .i64 o]) rfl (by simp [W.tev, rTab]) (fun d h => by cases h; rfl) (fun w => by kernel_rfl) (hW)⟩
          · refine Or.inl ⟨rfl, ?_⟩
            exact W.td_run (fun d h => by cases h; rfl) (fun w hS => by obtain ⟨⟨f0, f1, f2, f3⟩, ⟨b0, b1, b2, b3, b4⟩, ⟨x0, x1, x2, x3, x4, x5, x6, x7, x8, x9⟩, _⟩ := hS; unfold execOp; dsimp only [W.tev, rTab]; go_simp; try rw [zW])
          · refine Or.inl ⟨rfl, ?_⟩
            exact W.td_run (fun d h => by cases h; rfl) (fun w hS => by obtain ⟨⟨f0, f1, f2, f3⟩, ⟨b0, b1, b2, b3, b4⟩, ⟨x0, x1, x2, x3, x4, x5, x6, x7, x8, x9⟩, _⟩ := hS; unfold execOp; dsimp only [W.tev, rTab]; go_simp)
          · refine Or.inl ⟨rfl, ?_⟩
            exact W.td_run (fun d h => by cases h; rfl) (fun w hS => by obtain ⟨⟨f0, f1, f2, f3⟩, ⟨b0, b1, b2, b3, b4⟩, ⟨x0, x1, x2, x3, x4, x5, x6, x7, x8, x9⟩, _⟩ := hS; unfold execOp; dsimp only [W.tev, rTab]; go_simp)
          · exact Or.inl ⟨rfl, W.td_move (Or.inl rfl) (fun d h => by cases h; rfl)⟩
          · cases fw <;> first | exact Or.inr ⟨rfl, fun d h => by cases h; rfl⟩ | exact Or.inl ⟨rfl, W.td_move (Or.inl rfl) (fun d h => by cases h; rfl)⟩ | fail
          · cases fw <;> first | exact Or.inr ⟨rfl, fun d h => by cases h; rfl⟩ | (refine Or.inl ⟨rfl, ?_⟩; exact W.td_run (fun d h => by cases h; rfl) (fun w hS => by obtain ⟨⟨f0, f1, f2, f3⟩, ⟨b0, b1, b2, b3, b4⟩, ⟨x0, x1, x2, x3, x4, x5, x6, x7, x8, x9⟩, _⟩ := hS; unfold execOp; dsimp only [W.tev, rTab]; go_simp)) | fail
          · cases fw <;> first | exact Or.inr ⟨rfl, fun d h => by cases h; rfl⟩ | (refine Or.inl ⟨rfl, ?_⟩; exact W.td_run (fun d h => by cases h; rfl) (fun w hS => by obtain ⟨⟨f0, f1, f2, f3⟩, ⟨b0, b1, b2, b3, b4⟩, ⟨x0, x1, x2, x3, x4, x5, x6, x7, x8, x9⟩, _⟩ := hS; unfold execOp; dsimp only [W.tev, rTab]; go_simp)) | fail
          · cases fw <;> first | exact Or.inr ⟨rfl, fun d h => by cases h; rfl⟩ | (refine Or.inl ⟨rfl, ?_⟩; exact W.td_run (fun d h => by cases h; rfl) (fun w hS => by obtain ⟨⟨f0, f1, f2, f3⟩, ⟨b0, b1, b2, b3, b4⟩, ⟨x0, x1, x2, x3, x4, x5, x6, x7, x8, x9⟩, _⟩ := hS; unfold execOp; dsimp only [W.tev, rTab]; go_simp; try rw [hp2])) | fail
          · exact Or.inl ⟨rfl, W.td_pick (b := fw) rfl rfl (fun d h => by cases h; first | rfl | (cases fw <;> rfl))⟩
          · refine Or.inl ⟨rfl, ?_⟩
            exact W.td_run (fun d h => by cases h; rfl) (fun w hS => by obtain ⟨⟨f0, f1, f2, f3⟩, ⟨b0, b1, b2, b3, b4⟩, ⟨x0, x1, x2, x3, x4, x5, x6, x7, x8, x9⟩, _⟩ := hS; unfold execOp; dsimp only [W.tev, rTab]; go_simp)
          · exact Or.inl ⟨rfl, W.td_pick (b := false) rfl rfl (fun d h => by cases h; first | rfl | (cases false <;> rfl))⟩
          · exact Or.inl ⟨rfl, W.td_move (Or.inl rfl) (fun d h => by cases h; rfl)⟩
          · refine Or.inl ⟨rfl, ?_⟩
            exact W.td_run (fun d h => by cases h; rfl) (fun w hS => by obtain ⟨⟨f0, f1, f2, f3⟩, ⟨b0, b1, b2, b3, b4⟩, ⟨x0, x1, x2, x3, x4, x5, x6, x7, x8, x9⟩, _⟩ := hS; unfold execOp; dsimp only [W.tev, rTab]; go_simp)
          · exact Or.inl ⟨rfl, W.td_move (Or.inl rfl) (fun d h => by cases h; rfl)⟩
          · exact Or.inl ⟨rfl, W.td_move (Or.inl rfl) (fun d h => by cases h; rfl)⟩
          · exact Or.inl ⟨rfl, W.td_call (vs := #[rV fr fw fe r1 r2 r3 g, .int .i64 k, .int .i64 o]) rfl (by simp [W.tev, rTab]) (fun d h => by cases h; rfl) (fun w => by kernel_rfl) (hF)⟩
          · refine Or.inl ⟨rfl, ?_⟩
            exact W.td_run (fun d h => by cases h; rfl) (fun w hS => by obtain ⟨⟨f0, f1, f2, f3⟩, ⟨b0, b1, b2, b3, b4⟩, ⟨x0, x1, x2, x3, x4, x5, x6, x7, x8, x9⟩, _⟩ := hS; unfold execOp; dsimp only [W.tev, rTab]; go_simp; try rw [zF])
          · refine Or.inl ⟨rfl, ?_⟩
            exact W.td_run (fun d h => by cases h; rfl) (fun w hS => by obtain ⟨⟨f0, f1, f2, f3⟩, ⟨b0, b1, b2, b3, b4⟩, ⟨x0, x1, x2, x3, x4, x5, x6, x7, x8, x9⟩, _⟩ := hS; unfold execOp; dsimp only [W.tev, rTab]; go_simp)
          · refine Or.inl ⟨rfl, ?_⟩
            exact W.td_run (fun d h => by cases h; rfl) (fun w hS => by obtain ⟨⟨f0, f1, f2, f3⟩, ⟨b0, b1, b2, b3, b4⟩, ⟨x0, x1, x2, x3, x4, x5, x6, x7, x8, x9⟩, _⟩ := hS; unfold execOp; dsimp only [W.tev, rTab]; go_simp)
          · exact Or.inl ⟨rfl, W.td_move (Or.inl rfl) (fun d h => by cases h; rfl)⟩
          · cases fe <;> first | exact Or.inr ⟨rfl, fun d h => by cases h; rfl⟩ | exact Or.inl ⟨rfl, W.td_move (Or.inl rfl) (fun d h => by cases h; rfl)⟩ | fail
          · cases fe <;> first | exact Or.inr ⟨rfl, fun d h => by cases h; rfl⟩ | (refine Or.inl ⟨rfl, ?_⟩; exact W.td_run (fun d h => by cases h; rfl) (fun w hS => by obtain ⟨⟨f0, f1, f2, f3⟩, ⟨b0, b1, b2, b3, b4⟩, ⟨x0, x1, x2, x3, x4, x5, x6, x7, x8, x9⟩, _⟩ := hS; unfold execOp; dsimp only [W.tev, rTab]; go_simp)) | fail
          · cases fe <;> first | exact Or.inr ⟨rfl, fun d h => by cases h; rfl⟩ | (refine Or.inl ⟨rfl, ?_⟩; exact W.td_run (fun d h => by cases h; rfl) (fun w hS => by obtain ⟨⟨f0, f1, f2, f3⟩, ⟨b0, b1, b2, b3, b4⟩, ⟨x0, x1, x2, x3, x4, x5, x6, x7, x8, x9⟩, _⟩ := hS; unfold execOp; dsimp only [W.tev, rTab]; go_simp)) | fail
          · cases fe <;> first | exact Or.inr ⟨rfl, fun d h => by cases h; rfl⟩ | (refine Or.inl ⟨rfl, ?_⟩; exact W.td_run (fun d h => by cases h; rfl) (fun w hS => by obtain ⟨⟨f0, f1, f2, f3⟩, ⟨b0, b1, b2, b3, b4⟩, ⟨x0, x1, x2, x3, x4, x5, x6, x7, x8, x9⟩, _⟩ := hS; unfold execOp; dsimp only [W.tev, rTab]; go_simp; try rw [hp3])) | fail
          · exact Or.inl ⟨rfl, W.td_pick (b := fe) rfl rfl (fun d h => by cases h; first | rfl | (cases fe <;> rfl))⟩
          · exact Or.inl ⟨rfl, W.td_move (Or.inl rfl) (fun d h => by cases h; rfl)⟩
          · cases fe <;> cases p3 <;> first | exact Or.inr ⟨rfl, fun d h => by cases h; rfl⟩ | exact Or.inl ⟨rfl, W.td_move (Or.inl rfl) (fun d h => by cases h; rfl)⟩ | fail
          · cases fe <;> cases p3 <;> first | exact Or.inr ⟨rfl, fun d h => by cases h; rfl⟩ | (refine Or.inl ⟨rfl, ?_⟩; exact W.td_run (fun d h => by cases h; rfl) (fun w hS => by obtain ⟨⟨f0, f1, f2, f3⟩, ⟨b0, b1, b2, b3, b4⟩, ⟨x0, x1, x2, x3, x4, x5, x6, x7, x8, x9⟩, _⟩ := hS; unfold execOp; dsimp only [W.tev, rTab]; go_simp)) | fail
          · cases fe <;> cases p3 <;> first | exact Or.inr ⟨rfl, fun d h => by cases h; rfl⟩ | (refine Or.inl ⟨rfl, ?_⟩; exact W.td_run (fun d h => by cases h; rfl) (fun w hS => by obtain ⟨⟨f0, f1, f2, f3⟩, ⟨b0, b1, b2, b3, b4⟩, ⟨x0, x1, x2, x3, x4, x5, x6, x7, x8, x9⟩, _⟩ := hS; unfold execOp; dsimp only [W.tev, rTab]; go_simp)) | fail
          · cases fe <;> cases p3 <;> first | exact Or.inr ⟨rfl, fun d h => by cases h; rfl⟩ | (refine Or.inl ⟨rfl, ?_⟩; exact W.td_run (fun d h => by cases h; rfl) (fun w hS => by obtain ⟨⟨f0, f1, f2, f3⟩, ⟨b0, b1, b2, b3, b4⟩, ⟨x0, x1, x2, x3, x4, x5, x6, x7, x8, x9⟩, _⟩ := hS; unfold execOp; dsimp only [W.tev, rTab]; go_simp; try rw [hp1])) | fail
          · refine Or.inl ⟨rfl, ?_⟩
            cases fe <;> cases p3 <;> first | exact W.td_pick (b := true) rfl rfl (fun d h => by cases h; rfl) | exact W.td_pick (b := false) rfl rfl (fun d h => by cases h; rfl) | fail
          · refine Or.inl ⟨rfl, ?_⟩
            exact W.td_run (fun d h => by cases h; rfl) (fun w hS => by obtain ⟨⟨f0, f1, f2, f3⟩, ⟨b0, b1, b2, b3, b4⟩, ⟨x0, x1, x2, x3, x4, x5, x6, x7, x8, x9⟩, _⟩ := hS; unfold execOp; dsimp only [W.tev, rTab]; go_simp)
          · exact Or.inl ⟨rfl, W.td_pick (b := false) rfl rfl (fun d h => by cases h; first | rfl | (cases false <;> rfl))⟩
        case rest =>
          clear H
          obtain ⟨rfl, H⟩ := hcut
          have HC := Lib.hid (fun Y => call_any (rX fr fw fe r1 r2 r3 g) k o Y)
          generalize dto (rX fr fw fe r1 r2 r3 g) k o = T at HC
          rw [der_in fr fw fe hb m0 m1] at HC
          have hw : wrap64 (k + 1) = k + 1 := by unfold wrap64; omega
          have ways := r_ways (fe := fe) (o := o) hb k0 (by omega) m0
          generalize cer true fe k r1 r2 r3 g o = E at HC ways
          clear HR HW HF ZR ZW ZF
          rcases ways with ⟨rfl, rfl⟩ | ⟨rfl, d1, rfl⟩ | ⟨rfl, d1, d2, rfl⟩ | ⟨rfl, d1, d2, d3, rfl⟩ | ⟨rfl, d1, d2, d3, d4, rfl⟩ | ⟨rfl, d1, d2, d3, d4, rfl⟩
          all_goals
            obtain ⟨⟨f0, f1, f2, f3⟩, ⟨b0, b1, b2, b3, b4⟩, ⟨x0, x1, x2, x3, x4, x5, x6, x7, x8, x9⟩, _⟩ := id H
            go_wp2_with (go_at_call 15; ((with_reducible refine (HC.out _).mono ?_); rintro e w2 ⟨rfl, h2⟩; have H2 := rb_below H h2; obtain ⟨⟨f0, f1, f2, f3⟩, ⟨b0, b1, b2, b3, b4⟩, ⟨x0, x1, x2, x3, x4, x5, x6, x7, x8, x9⟩, _⟩ := id H2))
            go_roundw
            case rel => exact ⟨k + 1, by omega, by omega, rfl, H2⟩
            case measure => simp [intOf]; omega
      · have d : decide (k < 8) = false := decide_eq_false c
        have HR : Hid (∀ Y, Calls Tryd.prog 17 #[rV fr fw fe r1 r2 r3 g, .int .i64 0, .int .i64 20] Y fun e w' => (∃ z : Int, (z != 0) = true ∧ e = .returned (.int .i64 z)) ∧ Below Y.heap.size Y w') := Lib.hid (fun Y => (read_any (rX fr fw fe r1 r2 r3 g) 0 20 Y).mono fun e w' h => ⟨⟨_, r_out (Or.inr (Int.le_refl 20)), h.1⟩, h.2⟩)
        have HW : Hid (∀ Y, Calls Tryd.prog 19 #[rV fr fw fe r1 r2 r3 g, .int .i64 0, .int .i64 (-1)] Y fun e w' => (∃ z : Int, (z != 0) = true ∧ e = .returned (.int .i64 z)) ∧ Below Y.heap.size Y w') := Lib.hid (fun Y => (write_any (rX fr fw fe r1 r2 r3 g) 0 (-1) Y).mono fun e w' h => ⟨⟨_, r_out (Or.inl (by omega)), h.1⟩, h.2⟩)
        obtain ⟨⟨f0, f1, f2, f3⟩, ⟨b0, b1, b2, b3, b4⟩, ⟨x0, x1, x2, x3, x4, x5, x6, x7, x8, x9⟩, hb'⟩ := id H
        go_wp2_with (first
          | (go_at_call 17; ((with_reducible refine (HR.out _).mono ?_); rintro e w2 ⟨⟨z2, q2, rfl⟩, h2⟩; have H2 := rb_below H h2; clear x0 x1 x2 x3 x4 x5 x6 x7 x8 x9; obtain ⟨⟨f0, f1, f2, f3⟩, ⟨b0, b1, b2, b3, b4⟩, ⟨x0, x1, x2, x3, x4, x5, x6, x7, x8, x9⟩, _⟩ := id H2))
          | (go_at_call 19; ((with_reducible refine (HW.out _).mono ?_); rintro e w3 ⟨⟨z3, q3, rfl⟩, h3⟩)))
        go_ret
        exact ⟨rfl, bel2 H2.2.2.2 h3⟩

end Go.Proofs.YtknfiepbibaklaaDoor.D
