/-
  The law AclKnown answers true: lists by hand.
-/
import Derived.Test.YtjgheccnakngpaaASetsWalk
import Derived.Deep.RegionHeld3
namespace Go.Proofs.Ytjgheccnakngpaa.A
open Go.ChangeShapes Go.WideShapes Go.ChangeAt Go.RowKit
open Go.Proofs.Ytjgheccnakngpaa.N

def kR : Fl := (true, false, false)
def kW : Fl := (false, true, false)
def kL : List Tm := [([117], kR)]
def kM : List Tm := [([42], kW), ([117], kR)]
def kN : List Tm := [([42], kW), ([117], noFl)]
def kI : List Tm := [([98], noFl), ([97], noFl)]
def kA : List Tm := [([97], noFl), ([97], noFl)]
def many : Nat → List Tm
  | 0 => []
  | k + 1 => many k ++ [([97 + UInt8.ofNat k], noFl)]
def kO : List Tm := setR (many 16) ([97], kR)

theorem set_known {a : Option Addr} {c : Nat} {l : List Tm} {w : World} (hr : TRow w a c l) (t : Tm) (hl : ∀ t ∈ l, t.1.length ≤ 100) (ht : t.1.length ≤ 100) {n : Int} {m : List Tm} (hn : setE l t = n) (hm : setR l t = m) {v : Value} (hv : v = TV t) {p q : Nat} (hp : l.length = p) (hq : m.length = q) :
    Calls Try.prog 10 #[.slice a p c, v] w fun e w' => ∃ a' c', e = .returned (.tuple #[.slice a' q c', .int .i64 n]) ∧ TRow w' a' c' m ∧ Below w.heap.size w w' := by
  subst hv hp hq
  exact set_is a c l t w hr (fun t h => Nat.le_trans (hl t h) (by unfold maxLen; omega)) (Nat.le_trans ht (by unfold maxLen; omega)) hn hm
theorem find_known {a : Option Addr} {c : Nat} {l : List Tm} {w : World} (hr : TRow w a c l) (u : List UInt8) (hl : ∀ t ∈ l, t.1.length ≤ 100) {f : Fl} (hf : findR l u = f) {s : ByteArray} (hs : s = bs u) {p : Nat} (hp : l.length = p) :
    Calls Try.prog 15 #[.slice a p c, .string s] w fun e w' => e = .returned (.agg #[.bool f.1, .bool f.2.1, .bool f.2.2]) ∧ Below w.heap.size w w' := by
  subst hs hp
  exact find_is a c l u w hr (fun t h => Nat.le_trans (hl t h) (by unfold maxLen; omega)) hf

theorem known1 (w : World) : Calls Try.prog 10 #[.slice none 0 0, .agg #[.string ⟨#[117]⟩, .bool true, .bool false, .bool false]] w fun e w' => ∃ a' c', e = .returned (.tuple #[.slice a' 1 c', .int .i64 0]) ∧ TRow w' a' c' kL ∧ Below w.heap.size w w' :=
  set_known (TRow.nil w) ([117], kR) (by simp) (by decide) (by decide) (by decide) rfl rfl rfl
theorem known2 {a : Option Addr} {c : Nat} {w : World} (h : TRow w a c kL) : Calls Try.prog 10 #[.slice a 1 c, .agg #[.string ⟨#[42]⟩, .bool false, .bool true, .bool false]] w fun e w' => ∃ a' c', e = .returned (.tuple #[.slice a' 2 c', .int .i64 0]) ∧ TRow w' a' c' kM ∧ Below w.heap.size w w' :=
  set_known h ([42], kW) (by decide) (by decide) (by decide) (by decide) rfl rfl rfl
theorem known3 {a : Option Addr} {c : Nat} {w : World} (h : TRow w a c kM) : Calls Try.prog 10 #[.slice a 2 c, .agg #[.string ⟨#[117]⟩, .bool false, .bool false, .bool false]] w fun e w' => ∃ a' c', e = .returned (.tuple #[.slice a' 2 c', .int .i64 0]) ∧ TRow w' a' c' kN ∧ Below w.heap.size w w' :=
  set_known h ([117], noFl) (by decide) (by decide) (by decide) (by decide) rfl rfl rfl
theorem known4 {a : Option Addr} {c : Nat} {w : World} (h : TRow w a c kL) : Calls Try.prog 10 #[.slice a 1 c, .agg #[.string ⟨#[97, 32, 98]⟩, .bool false, .bool false, .bool false]] w fun e w' => ∃ a' c', e = .returned (.tuple #[.slice a' 0 c', .int .i64 3]) ∧ TRow w' a' c' [] ∧ Below w.heap.size w w' :=
  set_known h ([97, 32, 98], noFl) (by decide) (by decide) (by decide) (by decide) rfl rfl rfl
theorem known5 {a : Option Addr} {c : Nat} {w : World} (h : TRow w a c kI) : Calls Try.prog 10 #[.slice a 2 c, .agg #[.string ⟨#[99]⟩, .bool false, .bool false, .bool false]] w fun e w' => ∃ a' c', e = .returned (.tuple #[.slice a' 0 c', .int .i64 1]) ∧ TRow w' a' c' [] ∧ Below w.heap.size w w' :=
  set_known h ([99], noFl) (by decide) (by decide) (by decide) (by decide) rfl rfl rfl
theorem known6 {a : Option Addr} {c : Nat} {w : World} (h : TRow w a c (many 16)) : Calls Try.prog 10 #[.slice a 16 c, .agg #[.string ⟨#[122]⟩, .bool false, .bool false, .bool false]] w fun e w' => ∃ a' c', e = .returned (.tuple #[.slice a' 0 c', .int .i64 7]) ∧ TRow w' a' c' [] ∧ Below w.heap.size w w' :=
  set_known h ([122], noFl) (by decide) (by decide) (by decide) (by decide) rfl rfl rfl
theorem known7 {a : Option Addr} {c : Nat} {w : World} (h : TRow w a c (many 16)) : Calls Try.prog 10 #[.slice a 16 c, .agg #[.string ⟨#[97]⟩, .bool true, .bool false, .bool false]] w fun e w' => ∃ a' c', e = .returned (.tuple #[.slice a' 16 c', .int .i64 0]) ∧ TRow w' a' c' kO ∧ Below w.heap.size w w' :=
  set_known h ([97], kR) (by decide) (by decide) (by decide) rfl rfl rfl (by decide)
theorem known8 {a : Option Addr} {c : Nat} {w : World} (h : TRow w a c kM) : Calls Try.prog 15 #[.slice a 2 c, .string ⟨#[117]⟩] w fun e w' => e = .returned (.agg #[.bool true, .bool false, .bool false]) ∧ Below w.heap.size w w' :=
  find_known h [117] (by decide) (f := kR) (by decide) rfl rfl
theorem known9 {a : Option Addr} {c : Nat} {w : World} (h : TRow w a c kM) : Calls Try.prog 15 #[.slice a 2 c, .string ⟨#[120]⟩] w fun e w' => e = .returned (.agg #[.bool false, .bool true, .bool false]) ∧ Below w.heap.size w w' :=
  find_known h [120] (by decide) (f := kW) (by decide) rfl rfl
theorem known10 {a : Option Addr} {c : Nat} {w : World} (h : TRow w a c kN) : Calls Try.prog 15 #[.slice a 2 c, .string ⟨#[117]⟩] w fun e w' => e = .returned (.agg #[.bool false, .bool false, .bool false]) ∧ Below w.heap.size w w' :=
  find_known h [117] (by decide) (f := noFl) (by decide) rfl rfl
theorem known11 {a : Option Addr} {c : Nat} {w : World} (h : TRow w a c kO) : Calls Try.prog 15 #[.slice a 16 c, .string ⟨#[97]⟩] w fun e w' => e = .returned (.agg #[.bool true, .bool false, .bool false]) ∧ Below w.heap.size w w' :=
  find_known h [97] (by decide) (f := kR) (by decide) rfl (by decide)
theorem known12 {a : Option Addr} {c : Nat} {w : World} (h : TRow w a c kA) : Calls Try.prog 12 #[.slice a 2 c] w fun e w' => e = .returned (.bool false) ∧ Below w.heap.size w w' :=
  may_is a c kA w h (by intro t ht; have : t.1.length ≤ 100 := (by revert ht; revert t; decide); exact Nat.le_trans this (by unfold maxLen; omega)) (by decide)
theorem known13 (w : World) : Calls Try.prog 18 #[.string ⟨#[117]⟩] w fun e w' => e = .returned (.bool true) ∧ w' = w := by
  have := userMay_any ⟨#[117]⟩ w (by decide)
  exact this

/-- two blocks of flags -/
def Two2 (b : Nat) (W : World) : Prop := FlAt W b kR ∧ FlAt W (b + 1) kW
theorem Two2.go {b : Nat} {W V : World} (h : Two2 b W) (hb : Below W.heap.size W V) : Two2 b V := ⟨h.1.below hb, h.2.below hb⟩
theorem Two2.facts {b : Nat} {W : World} (h : Two2 b W) : b < W.heap.size ∧ b + 1 < W.heap.size ∧ W.cell? ⟨b, 0, none⟩ = some (.bool true) ∧ W.cell? ⟨b, 1, none⟩ = some (.bool false) ∧ W.cell? ⟨b, 2, none⟩ = some (.bool false) ∧ W.cell? ⟨b + 1, 0, none⟩ = some (.bool false) ∧ W.cell? ⟨b + 1, 1, none⟩ = some (.bool true) ∧ W.cell? ⟨b + 1, 2, none⟩ = some (.bool false) :=
  ⟨h.1.facts.1, h.2.facts.1, h.1.facts.2.1, h.1.facts.2.2.1, h.1.facts.2.2.2.1, h.2.facts.2.1, h.2.facts.2.2.1, h.2.facts.2.2.2.1⟩

theorem Two2.new (w : World) : Two2 w.heap.size ((w.alloc (FO kR)).alloc (FO kW)) := by
  refine ⟨(FlAt.new w kR).below (one_new _ _), ?_⟩
  have h := FlAt.new (w.alloc (FO kR)) kW
  rw [show (w.alloc (FO kR)).heap.size = w.heap.size + 1 by simp] at h
  exact h
theorem two_below (w : World) : Below w.heap.size w ((w.alloc (FO kR)).alloc (FO kW)) := bel2 (one_new _ _) (one_new _ _)
theorem lit_two (w : World) : TRow (w.alloc (.cells #[.string ⟨#[98]⟩, .bool false, .bool false, .bool false, .string ⟨#[97]⟩, .bool false, .bool false, .bool false] 26)) (some ⟨w.heap.size, 0, none⟩) 2 kI := TRow.lit w kI 2 (by decide)
theorem lit_twice (w : World) : TRow (w.alloc (.cells #[.string ⟨#[97]⟩, .bool false, .bool false, .bool false, .string ⟨#[97]⟩, .bool false, .bool false, .bool false] 26)) (some ⟨w.heap.size, 0, none⟩) 2 kA := TRow.lit w kA 2 (by decide)

/-- what the law's last statement holds on to -/
@[reducible] def Kn (w : World) (b bk o c2 : Nat) (a3 : Option Addr) (c3 : Nat) (a7 : Option Addr) (c7 : Nat) (W : World) : Prop :=
  b < W.heap.size ∧ b + 1 < W.heap.size ∧ W.cell? ⟨b, 0, none⟩ = some (.bool true) ∧ W.cell? ⟨b, 1, none⟩ = some (.bool false) ∧ W.cell? ⟨b, 2, none⟩ = some (.bool false) ∧ W.cell? ⟨b + 1, 0, none⟩ = some (.bool false) ∧ W.cell? ⟨b + 1, 1, none⟩ = some (.bool true) ∧ W.cell? ⟨b + 1, 2, none⟩ = some (.bool false) ∧ W.cell? ⟨bk, o, none⟩ = some (.string ⟨#[42]⟩) ∧
    Two2 b W ∧ TRow W (some ⟨bk, o, none⟩) c2 kM ∧ TRow W a3 c3 kN ∧ TRow W a7 c7 kO ∧ Below w.heap.size w W
section
variable {w : World} {b bk o c2 : Nat} {a3 : Option Addr} {c3 : Nat} {a7 : Option Addr} {c7 : Nat} {W V : World}
theorem Kn.mk' (h : Two2 b W) (h1 : TRow W (some ⟨bk, o, none⟩) c2 kM) (h2 : TRow W a3 c3 kN) (h3 : TRow W a7 c7 kO) (h4 : Below w.heap.size w W) : Kn w b bk o c2 a3 c3 a7 c7 W := by
  obtain ⟨y, z, q1, q2, q3, q4, q5, q6⟩ := h.facts
  have h5 := (h1.here (k := 0) (by decide)).2.1
  exact ⟨y, z, q1, q2, q3, q4, q5, q6, h5, h, h1, h2, h3, h4⟩
theorem Kn.rows (h : Kn w b bk o c2 a3 c3 a7 c7 W) : TRow W (some ⟨bk, o, none⟩) c2 kM ∧ TRow W a3 c3 kN ∧ TRow W a7 c7 kO ∧ Below w.heap.size w W := h.2.2.2.2.2.2.2.2.2.2
theorem Kn.go (h : Kn w b bk o c2 a3 c3 a7 c7 W) (hb : Below W.heap.size W V) : Kn w b bk o c2 a3 c3 a7 c7 V := by
  obtain ⟨h1, h2, h3, h4⟩ := h.rows
  exact Kn.mk' (h.2.2.2.2.2.2.2.2.2.1.go hb) (h1.below hb) (h2.below hb) (h3.below hb) (bel2 h4 hb)
theorem Kn.drew (h : Kn w b bk o c2 a3 c3 a7 c7 W) : Kn w b bk o c2 a3 c3 a7 c7 W.drew := h.go (Below.refl _ _).drew
theorem Kn.alloc (h : Kn w b bk o c2 a3 c3 a7 c7 W) (ob : Obj) : Kn w b bk o c2 a3 c3 a7 c7 (W.alloc ob) := h.go (one_new _ _)
end

theorem SetL.alloc {w0 W : World} {v : Value} {m : List Tm} (h : SetL w0 W v m) (o : Obj) : SetL w0 (W.alloc o) v m := ⟨bel2 h.bel (one_new _ _), h.own.alloc o⟩
theorem letter_val {k : Nat} (hk : k < 16) : ((97 + UInt8.ofNat k : UInt8).toNat : Int) = 97 + (k : Int) := by
  rw [UInt8.toNat_add, UInt8.toNat_ofNat']
  have h1 : k % 2 ^ 8 = k := Nat.mod_eq_of_lt (by omega)
  rw [h1]
  have h2 : (97 : UInt8).toNat = 97 := rfl
  rw [h2, Nat.mod_eq_of_lt (by omega)]
  omega
theorem conv_one (w : World) {k : Nat} (hk : k < 16) : (convert 38 9 (.slice (some ⟨w.heap.size, 0, none⟩) 1 1)).run Try.prog (w.alloc (.cells #[.int .u8 (97 + (k : Int))] 5)) = .ok (.string (bs [97 + UInt8.ofNat k])) (w.alloc (.cells #[.int .u8 (97 + (k : Int))] 5)) := by
  refine run_convert_bytes_back _ 38 9 5 ⟨w.heap.size, 0, none⟩ 1 [97 + UInt8.ofNat k] Try.underlying38 Try.underlying5 Try.underlying9 (fun j hj => ?_)
  obtain rfl : j = 0 := by simp at hj; omega
  rw [Addr.add_lit, cell_of_row _ _ _ _ _ _ (heap_alloc_new w _)]
  have := letter_val hk
  simp only [List.getElem_cons_zero, this]
  rfl
theorem one_behind (w : World) (o : Obj) (t : Tm) : TRow ((w.alloc o).alloc (TO t)) (some ⟨w.heap.size + 1, 0, none⟩) 1 [t] := by
  have h := TRow.one (w.alloc o) t
  rw [show (w.alloc o).heap.size = w.heap.size + 1 by simp] at h
  exact h
theorem many_step (k : Nat) : many (k + 1) = many k ++ [([97 + UInt8.ofNat k], noFl)] := rfl
theorem many_len : ∀ k, (many k).length = k
  | 0 => rfl
  | k + 1 => by rw [many_step, List.length_append, many_len k]; rfl

set_option maxRecDepth 4000 in
set_option maxHeartbeats 4000000 in
theorem known_walk (w : World) : Calls Try.prog 5 #[] w fun e w' => e = .returned (.bool true) ∧ Below w.heap.size w w' := by
  go_enter Try.func5, Try.ntmps5
  go_wp2_with (first
    | (go_at_call 8; refine (awake_any _).mono ?_; rintro e w0 ⟨rfl, h0⟩)
    | (go_at_call 10; (with_reducible refine (known1 _).mono ?_); rintro e w1 ⟨a1, c1, rfl, r1, h1⟩; have R1 := Lib.hid r1; have T1 := Lib.hid ((Two2.new w0).go h1); have B1 := Lib.hid (bel2 (bel2 h0 (two_below w0)) h1); clear r1 h1 h0; obtain ⟨y1, z1, p1, p2, p3, p4, p5, p6⟩ := T1.out.facts)
    | (go_at_call 10; (with_reducible refine (known2 R1.out).mono ?_); rintro e w2 ⟨a2, c2, rfl, r2, h2⟩; have R2 := Lib.hid r2; have T2 := Lib.hid (T1.out.go h2); have B2 := Lib.hid (bel2 B1.out h2); have R12 := Lib.hid (R1.out.below h2); clear r2 h2)
    | (go_at_call 10; (with_reducible refine (known3 R2.out).mono ?_); rintro e w3 ⟨a3, c3, rfl, r3, h3⟩; have R3 := Lib.hid r3; have T3 := Lib.hid (T2.out.go h3); have B3 := Lib.hid (bel2 B2.out h3); have R13 := Lib.hid (R12.out.below h3); have R23 := Lib.hid (R2.out.below h3); clear r3 h3)
    | (go_at_call 10; (with_reducible refine (known4 R13.out).mono ?_); rintro e w4 ⟨a4, c4, rfl, r4, h4⟩; have T4 := Lib.hid (T3.out.go h4); have B4 := Lib.hid (bel2 B3.out h4); have R24 := Lib.hid (R23.out.below h4); have R34 := Lib.hid (R3.out.below h4); clear r4 h4)
    | (go_at_call 10; (with_reducible refine (known5 (lit_two w4)).mono ?_); rintro e w5 ⟨a5, c5, rfl, r5, h5'⟩; have h5 := bel2 (one_new _ _) h5'; have T5 := Lib.hid (T4.out.go h5); have B5 := Lib.hid (bel2 B4.out h5); have R25 := Lib.hid (R24.out.below h5); have R35 := Lib.hid (R34.out.below h5); clear r5 h5 h5'))
  clear R1 R2 R3 R12 R13 R23 R24 R34 T1 T2 T3 T4 B1 B2 B3 B4 p1 p2 p3 p4 p5 p6
  go_loopw [13, 14] (fun v i V => ∃ k : Nat, k ≤ 16 ∧ i = .int .i64 k ∧ Hid (SetL w5 V v (many k))) (fun _ i _ => 16 - (intOf i).toNat)
  case atStart => exact ⟨0, Nat.zero_le _, rfl, Lib.hid ⟨Below.refl _ _, Own.nil _ _⟩⟩
  case round =>
    obtain ⟨k, hk, rfl, hS⟩ := hrel
    by_cases hlt : k < 16
    · have hc := conv_one wr hlt
      have hml := many_len k
      have HML := Lib.hid (show (many k).length + 1 ≤ 1000000 by omega)
      clear hml
      go_wp2_with (at_builtin; refine wpList_terms rfl (.tmp 60) (.tmp 67) rfl rfl ((hS.out.own.alloc _).alloc _) _ _ [([97 + UInt8.ofNat k], noFl)] rfl (one_behind wr _ ([97 + UInt8.ofNat k], noFl)) HML.out (by have := hS.out.bel.size; simp; omega) ?_; intro v' w' h1 h2; have H1 := Lib.hid (SetL.put0 (t := ([97 + UInt8.ofNat k], noFl)) (hS.out.alloc _) h1 h2); clear h1 h2)
      go_roundw
      case rel => exact ⟨k + 1, by omega, by go_num, H1⟩
      case measure => simp [intOf]; omega
    · obtain rfl : k = 16 := by omega
      obtain ⟨av, cv, rfl, hrow⟩ := hS.out.own.row
      have RV := Lib.hid hrow
      have TV6 := Lib.hid (T5.out.go hS.out.bel)
      have BV := Lib.hid (bel2 B5.out hS.out.bel)
      have R26 := Lib.hid (R25.out.below hS.out.bel)
      have R36 := Lib.hid (R35.out.below hS.out.bel)
      rw [show (many 16).length = 16 from rfl, show ((16 : Nat) : Int) = 16 from rfl]
      clear hrow hS T5 B5 R25 R35 hk hlt
      go_wp2_with (first
        | (go_at_call 10; (with_reducible refine (known6 RV.out).mono ?_); rintro e w6 ⟨a6, c6, rfl, r6, h6⟩; have T6 := Lib.hid (TV6.out.go h6); have B6 := Lib.hid (bel2 BV.out h6); have RV6 := Lib.hid (RV.out.below h6); have R27 := Lib.hid (R26.out.below h6); have R37 := Lib.hid (R36.out.below h6); clear r6 h6; obtain ⟨y6, z6, q1, q2, q3, q4, q5, q6⟩ := T6.out.facts)
        | (go_at_call 10; (with_reducible refine (known7 RV6.out).mono ?_); rintro e w7 ⟨a7, c7, rfl, r7, h7⟩; have R7 := Lib.hid r7; have T7 := Lib.hid (T6.out.go h7); have B7 := Lib.hid (bel2 B6.out h7); have R28 := Lib.hid (R27.out.below h7); have R38 := Lib.hid (R37.out.below h7); clear r7 h7; obtain ⟨y7, z7, s1, s2, s3, s4, s5, s6⟩ := T7.out.facts))
      obtain ⟨bk, o, rfl, _, _⟩ := R28.out.at_ (k := 0) (by decide)
      have H : Kn w w0.heap.size bk o c2 a3 c3 a7 c7 w7.drew := (Kn.mk' T7.out R28.out R38.out R7.out B7.out).drew
      have gf := guard_flags
      have f1 := eql_own kR
      have f2 := eql_own kW
      have f3 := eql_own noFl
      simp only [kR, kW, noFl] at f1 f2 f3
      clear T6 TV6 T7 B6 BV B7 RV RV6 R26 R27 R28 R36 R37 R38 R7 q1 q2 q3 q4 q5 q6 s1 s2 s3 s4 s5 s6 y1 y6 y7 z1 z6 z7
      dsimp only [List.append]
      go_region_held3 (Kn w w0.heap.size bk o c2 a3 c3 a7 c7)
        (first
          | exact H
          | exact Kn.drew H
          | exact Kn.alloc H _)
        (first
          | (go_at_call 15; ((with_reducible refine (known8 H.rows.1).mono ?_); rintro e w8 ⟨rfl, h8⟩; have H := Kn.go H h8))
          | (go_at_call 15; ((with_reducible refine (known9 H.rows.1).mono ?_); rintro e w8 ⟨rfl, h8⟩; have H := Kn.go H h8))
          | (go_at_call 15; ((with_reducible refine (known10 H.rows.2.1).mono ?_); rintro e w8 ⟨rfl, h8⟩; have H := Kn.go H h8))
          | (go_at_call 15; ((with_reducible refine (known11 H.rows.2.2.1).mono ?_); rintro e w8 ⟨rfl, h8⟩; have H := Kn.go H h8))
          | (go_at_call 12; ((with_reducible refine (known12 (lit_twice _)).mono ?_); rintro e w8 ⟨rfl, h8⟩; have H := Kn.go (Kn.alloc H _) h8))
          | (go_at_call 18; ((with_reducible refine (known13 _).mono ?_); rintro e w8 ⟨rfl, rfl⟩)))
      go_wp2
      go_ret
      exact ⟨rfl, H.rows.2.2.2⟩

end Go.Proofs.Ytjgheccnakngpaa.A
