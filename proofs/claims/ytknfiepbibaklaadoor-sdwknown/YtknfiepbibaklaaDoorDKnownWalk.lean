/-
  The law SdwKnown answers true: descriptors by hand: a segment that is an object, who is not named, what no hierarchy names.
-/
import Derived.Test.YtknfiepbibaklaaDoorDDuo
namespace Go.Proofs.YtknfiepbibaklaaDoor.D
open Go.ChangeShapes Go.WideShapes Go.ChangeAt Go.RowKit
open Go.Proofs.YtknfiepbibaklaaDoor.N (bs bs_data bs_size bs_inj)
open Go.Proofs.YtknfiepbibaklaaDoor.A (Tm Fl TRow findR noFl)
open Go.Proofs.YtknfiepbibaklaaDoor.W (BV acc bmay cto cer inr one_new retI StoreAt SP)
open Go.Proofs.YtknfiepbibaklaaDoor.T (Br Nd St TreeAt TP BrV BrO BrAt noBr Txt rng segS segB nodeS aclX ringX noSt freeE)

section
variable {w0 Y V : World} {b c : Nat} {st : St} {s : Nat} {q u l : Int} {k : Nat} {S : Int → Option (List Int)}

theorem call_is {x : Sd} {r off t z : Int} (ht : dto x r off = t) (hz : der x r off = z) (w : World) :
    Calls Tryd.prog 15 #[SdV x, .int .i64 r, .int .i64 off] w fun e w' => e = .returned (.tuple #[.int .i64 t, .int .i64 z]) ∧ Below w.heap.size w w' := by
  subst ht hz
  exact call_any x r off w

end

def kAll : Fl := (true, true, true)
def kBr : Br := ⟨1, 1, 0, [], true, [([117], kAll)], 1, 1, 5, 9⟩
def kX : Sd := ⟨1, 5, true, false, true, 1, 1, 5, 9⟩
def kY : Sd := ⟨1, 5, false, false, false, 1, 1, 5, 9⟩
@[reducible] def kVX : Value := .agg #[.int .i64 1, .int .i64 5, .bool true, .bool false, .bool true, .int .i64 1, .int .i64 1, .int .i64 5, .int .i64 9]
@[reducible] def kVY : Value := .agg #[.int .i64 1, .int .i64 5, .bool false, .bool false, .bool false, .int .i64 1, .int .i64 1, .int .i64 5, .int .i64 9]
@[reducible] def kOX : Obj := .cells #[.int .i64 1, .int .i64 5, .bool true, .bool false, .bool true, .int .i64 1, .int .i64 1, .int .i64 5, .int .i64 9] 41
@[reducible] def kOY : Obj := .cells #[.int .i64 1, .int .i64 5, .bool false, .bool false, .bool false, .int .i64 1, .int .i64 1, .int .i64 5, .int .i64 9] 41
@[reducible] def kOZ : Obj := .cells #[.int .i64 0, .int .i64 0, .bool false, .bool false, .bool false, .int .i64 0, .int .i64 0, .int .i64 0, .int .i64 0] 41
theorem k_newx (w : World) : SdAt (w.alloc kOX) w.heap.size ⟨1, 5, true, false, true, 1, 1, 5, 9⟩ := sd_new w kX
theorem k_newy (w : World) : SdAt (w.alloc kOY) w.heap.size ⟨1, 5, false, false, false, 1, 1, 5, 9⟩ := sd_new w kY
theorem k_x : sdOf 1 (5 : Nat) (segB kBr) [117] = kX := by
  unfold sdOf flg
  rw [show (segB kBr).acl = [([117], kAll)] from rfl, find_same (by decide)]
  rfl
theorem k_y : sdOf 1 (5 : Nat) (segB kBr) [118] = kY := by
  unfold sdOf flg
  rw [show (segB kBr).acl = [([117], kAll)] from rfl, show findR [([117], kAll)] [118] = noFl from by decide]
  rfl
def twoS : Int → Option (List Int) := W.upd (oneS 1 5) 2 (some (wsN 5))
theorem k_store : twoS 1 = some (wsN 5) := by
  unfold twoS
  rw [W.upd_other _ _ (by decide), oneS_at]

theorem k_add {w0 Y : World} {b s p : Nat} {l u q : Int} {k : Nat} {S : Int → Option (List Int)} (h : Duo w0 Y b 0 noSt s q u l k S []) (hp : Y.heap.size = p) :
    Calls Tryd.prog 11 #[TP b, .int .i64 0, .string ⟨#[97]⟩, .agg #[.int .i64 1, .int .i64 1, .int .i64 0, .string ⟨#[]⟩, .bool true, .slice (some ⟨p, 0, none⟩) 1 1, .int .i64 1, .int .i64 1, .int .i64 5, .int .i64 9]] (Y.alloc (.cells #[.string ⟨#[117]⟩, .bool true, .bool true, .bool true] 56)) fun e w' => e = .returned (.tuple #[.int .i64 0, .int .i64 0]) ∧ ∃ g, Duo w0 w' b 4 (segS noSt g kBr 0 [97]) s q u l k S [] := by
  subst hp
  exact duo_add (h.alloc _) (d := 0) (n := [97]) (br := kBr) T.rng0 (T.short_txt (by decide)) (T.free_ok (by decide) rfl) (row_one Y ([117], kAll)) (by decide) rfl (by decide) (by decide) (may_one (by decide)) (by decide) rfl (by omega)
theorem k_ofx {w0 Y : World} {b s g : Nat} {l u q : Int} {k : Nat} (h : Duo w0 Y b 4 (segS noSt g kBr 0 [97]) s q u l k twoS []) :
    Calls Tryd.prog 12 #[TP b, SP s, .int .i64 1, .string ⟨#[117]⟩] Y fun e w' => e = .returned (.tuple #[kVX, .int .i64 0]) ∧ Below Y.heap.size Y w' :=
  duo_of h (uid := 1) (by unfold rng; omega) (seg_st g kBr).2.2.1 (seg_st g kBr).2.1 (by decide) k_store [117] k_x
theorem k_ofy {w0 Y : World} {b s g : Nat} {l u q : Int} {k : Nat} (h : Duo w0 Y b 4 (segS noSt g kBr 0 [97]) s q u l k twoS []) :
    Calls Tryd.prog 12 #[TP b, SP s, .int .i64 1, .string ⟨#[118]⟩] Y fun e w' => e = .returned (.tuple #[kVY, .int .i64 0]) ∧ Below Y.heap.size Y w' :=
  duo_of h (uid := 1) (by unfold rng; omega) (seg_st g kBr).2.2.1 (seg_st g kBr).2.1 (by decide) k_store [118] k_y
theorem k_of2 {w0 Y : World} {b s g : Nat} {l u q : Int} {k : Nat} (h : Duo w0 Y b 4 (segS noSt g kBr 0 [97]) s q u l k twoS []) {uid : Int} (h1 : uid ≠ 1) (hu : rng uid) :
    Calls Tryd.prog 12 #[TP b, SP s, .int .i64 uid, .string ⟨#[117]⟩] Y fun e w' => e = .returned (.tuple #[.agg #[.int .i64 0, .int .i64 0, .bool false, .bool false, .bool false, .int .i64 0, .int .i64 0, .int .i64 0, .int .i64 0], .int .i64 4]) ∧ Below Y.heap.size Y w' :=
  duo_none h hu ((seg_st g kBr).2.2.2 uid h1) [117]
theorem k_callx (r off : Int) (w : World) {t z : Int} (ht : dto kX r off = t) (hz : der kX r off = z) : Calls Tryd.prog 15 #[kVX, .int .i64 r, .int .i64 off] w fun e w' => e = .returned (.tuple #[.int .i64 t, .int .i64 z]) ∧ Below w.heap.size w w' := call_is ht hz w
theorem k_cally (r off : Int) (w : World) {t z : Int} (ht : dto kY r off = t) (hz : der kY r off = z) : Calls Tryd.prog 15 #[kVY, .int .i64 r, .int .i64 off] w fun e w' => e = .returned (.tuple #[.int .i64 t, .int .i64 z]) ∧ Below w.heap.size w w' := call_is ht hz w
theorem k_write (r off : Int) (w : World) {z : Int} (hz : bnd (acc (bmay 1 1 5 9) false r 0 1) off 5 = z) : Calls Tryd.prog 19 #[kVX, .int .i64 r, .int .i64 off] w fun e w' => e = .returned (.int .i64 z) ∧ Below w.heap.size w w' := by
  subst hz
  exact write_any kX r off w
theorem k_fetch (r off : Int) (w : World) {z : Int} (hz : bnd (acc (bmay 1 1 5 9) true r 1 1) off 5 = z) : Calls Tryd.prog 20 #[kVX, .int .i64 r, .int .i64 off] w fun e w' => e = .returned (.int .i64 z) ∧ Below w.heap.size w w' := by
  subst hz
  exact fetch_any kX r off w

/-- the two descriptors of the law, and nothing older changed -/
structure KBox (w W : World) (p r : Nat) : Prop where
  x : SdAt W p ⟨1, 5, true, false, true, 1, 1, 5, 9⟩
  y : SdAt W r ⟨1, 5, false, false, false, 1, 1, 5, 9⟩
  bel : Below w.heap.size w W
theorem KBox.below {w W V : World} {p r : Nat} (h : KBox w W p r) (hb : Below W.heap.size W V) : KBox w V p r := ⟨sd_below h.x hb, sd_below h.y hb, bel2 h.bel hb⟩
theorem KBox.cells {w W : World} {p r : Nat} (h : KBox w W p r) :
    W.cell? ⟨p, 0, none⟩ = some (.int .i64 1) ∧ W.cell? ⟨p, 1, none⟩ = some (.int .i64 5) ∧ W.cell? ⟨p, 2, none⟩ = some (.bool true) ∧ W.cell? ⟨p, 3, none⟩ = some (.bool false) ∧ W.cell? ⟨p, 4, none⟩ = some (.bool true) ∧ W.cell? ⟨p, 5, none⟩ = some (.int .i64 1) ∧ W.cell? ⟨p, 6, none⟩ = some (.int .i64 1) ∧ W.cell? ⟨p, 7, none⟩ = some (.int .i64 5) ∧ W.cell? ⟨p, 8, none⟩ = some (.int .i64 9) ∧
    W.cell? ⟨r, 0, none⟩ = some (.int .i64 1) ∧ W.cell? ⟨r, 1, none⟩ = some (.int .i64 5) ∧ W.cell? ⟨r, 2, none⟩ = some (.bool false) ∧ W.cell? ⟨r, 3, none⟩ = some (.bool false) ∧ W.cell? ⟨r, 4, none⟩ = some (.bool false) ∧ W.cell? ⟨r, 5, none⟩ = some (.int .i64 1) ∧ W.cell? ⟨r, 6, none⟩ = some (.int .i64 1) ∧ W.cell? ⟨r, 7, none⟩ = some (.int .i64 5) ∧ W.cell? ⟨r, 8, none⟩ = some (.int .i64 9) := by
  obtain ⟨_, a0, a1, a2, a3, a4, a5, a6, a7, a8⟩ := h.x
  obtain ⟨_, b0, b1, b2, b3, b4, b5, b6, b7, b8⟩ := h.y
  exact ⟨a0, a1, a2, a3, a4, a5, a6, a7, a8, b0, b1, b2, b3, b4, b5, b6, b7, b8⟩

theorem k_eqx (w : World) : (binOp .eql 39 (.agg #[.bool true, .bool false, .bool true]) (.agg #[.bool true, .bool false, .bool true])).run Tryd.prog w = .ok (.bool true) w := A.eql_flags (true, false, true) (true, false, true) w
theorem k_eqy (w : World) : (binOp .eql 39 (.agg #[.bool false, .bool false, .bool false]) (.agg #[.bool false, .bool false, .bool false])).run Tryd.prog w = .ok (.bool true) w := A.eql_flags (false, false, false) (false, false, false) w

set_option maxRecDepth 20000 in
set_option maxHeartbeats 8000000 in
theorem known_walk (w : World) : Calls Tryd.prog 5 #[] w fun e w' => e = .returned (.bool true) ∧ Below w.heap.size w w' := by
  have gf := A.guard_flags
  have ex := k_eqx
  have ey := k_eqy
  go_enter Tryd.func5, Tryd.ntmps5
  go_wp2_with (first
    | (go_at_call 7; ((with_reducible refine (awake_any w).mono ?_); rintro e wA ⟨rfl, bA⟩))
    | (go_at_call 8; ((with_reducible refine (T.new_at wA).mono ?_); rintro e w1 ⟨rfl, h1, b1, s1⟩))
    | (go_at_call 9; ((with_reducible refine (W.new_at (q := 20) (by omega) w1).mono ?_); rintro e w2 ⟨rfl, h2, b2, s2⟩; have D2 := Lib.hid (duo_new h1 (bel2 bA b1) (fun i hi => by have := bA.size; omega) (fun i hi => by omega) h2 b2); clear h1 b1 h2 b2 bA))
    | (go_at_call 10; ((with_reducible refine (duo_make D2.out (n := 5) (u' := 5) (l' := 1) (S' := oneS 1 5) (by omega) (by omega) (by omega) (by omega) (by omega) (by omega) (by omega) (by omega) (by omega) (by omega) (by omega) rfl).mono ?_); rintro e w3 ⟨rfl, h3⟩; have D3 := Lib.hid h3; clear h3))
    | (go_at_call 10; ((with_reducible refine (duo_make D3.out (n := 5) (u' := 10) (l' := 2) (S' := twoS) (by omega) (by omega) (by omega) (by omega) (by omega) (by omega) (by omega) (by omega) (by omega) (by omega) (by omega) rfl).mono ?_); rintro e w4 ⟨rfl, h4⟩; have D4 := Lib.hid (h4.alloc (.cells #[.bool true, .bool true, .bool true] 39)); clear h4))
    | (go_at_call 11; ((with_reducible refine (k_add D4.out (p := w4.heap.size + 1) (by simp)).mono ?_); rintro e w5 ⟨rfl, g, h5⟩; have D5 := Lib.hid h5; clear h5))
    | (go_at_call 12; ((with_reducible refine (k_ofx D5.out).mono ?_); rintro e w6 ⟨rfl, b6⟩; have D6 := Lib.hid ((D5.out.below b6).alloc kOX); clear b6; have X6 := Lib.hid (k_newx w6)))
    | (go_at_call 12; ((with_reducible refine (k_ofy D6.out).mono ?_); rintro e w7 ⟨rfl, b7⟩; have D7 := Lib.hid ((D6.out.below b7).alloc kOY); have K7 : Hid (KBox w (w7.alloc kOY) w6.heap.size w7.heap.size) := Lib.hid ⟨sd_below X6.out (bel2 b7 (one_new _ _)), k_newy w7, D7.out.bel⟩; clear b7))
    | (go_at_call 12; ((with_reducible refine (k_of2 D7.out (uid := 2) (by decide) (by unfold rng; omega)).mono ?_); rintro e w8 ⟨rfl, b8⟩; have D8 := Lib.hid ((D7.out.below b8).alloc kOZ); have K8 := Lib.hid ((K7.out.below b8).below (one_new _ kOZ)); clear b8))
    | (go_at_call 12; ((with_reducible refine (k_of2 D8.out (uid := 99) (by decide) (by unfold rng; omega)).mono ?_); rintro e w9 ⟨rfl, b9⟩; have K9 := Lib.hid ((K8.out.below b9).below (one_new _ kOZ)); clear b9; obtain ⟨p0, p1, p2, p3, p4, p5, p6, p7, p8, q0, q1, q2, q3, q4, q5, q6, q7, q8⟩ := K9.out.cells))
    | (go_at_call 15; ((with_reducible refine (k_callx 4 4 _ (t := 1) (z := 0) (by decide) (by decide)).mono ?_); rintro e w10 ⟨rfl, b10⟩; clear p0 p1 p2 p3 p4 p5 p6 p7 p8 q0 q1 q2 q3 q4 q5 q6 q7 q8; have K10 := Lib.hid (K9.out.below b10); clear b10; obtain ⟨p0, p1, p2, p3, p4, p5, p6, p7, p8, q0, q1, q2, q3, q4, q5, q6, q7, q8⟩ := K10.out.cells))
    | (go_at_call 15; ((with_reducible refine (k_callx 4 5 _ (t := 0) (z := 8) (by decide) (by decide)).mono ?_); rintro e w11 ⟨rfl, b11⟩; clear p0 p1 p2 p3 p4 p5 p6 p7 p8 q0 q1 q2 q3 q4 q5 q6 q7 q8; have K11 := Lib.hid (K10.out.below b11); clear b11; obtain ⟨p0, p1, p2, p3, p4, p5, p6, p7, p8, q0, q1, q2, q3, q4, q5, q6, q7, q8⟩ := K11.out.cells))
    | (go_at_call 15; ((with_reducible refine (k_callx 6 0 _ (t := 0) (z := 10) (by decide) (by decide)).mono ?_); rintro e w12 ⟨rfl, b12⟩; clear p0 p1 p2 p3 p4 p5 p6 p7 p8 q0 q1 q2 q3 q4 q5 q6 q7 q8; have K12 := Lib.hid (K11.out.below b12); clear b12; obtain ⟨p0, p1, p2, p3, p4, p5, p6, p7, p8, q0, q1, q2, q3, q4, q5, q6, q7, q8⟩ := K12.out.cells))
    | (go_at_call 15; ((with_reducible refine (k_cally 4 0 _ (t := 0) (z := 9) (by decide) (by decide)).mono ?_); rintro e w13 ⟨rfl, b13⟩; clear p0 p1 p2 p3 p4 p5 p6 p7 p8 q0 q1 q2 q3 q4 q5 q6 q7 q8; have K13 := Lib.hid (K12.out.below b13); clear b13; obtain ⟨p0, p1, p2, p3, p4, p5, p6, p7, p8, q0, q1, q2, q3, q4, q5, q6, q7, q8⟩ := K13.out.cells))
    | (go_at_call 19; ((with_reducible refine (k_write 0 0 _ (z := 9) (by decide)).mono ?_); rintro e w14 ⟨rfl, b14⟩; clear p0 p1 p2 p3 p4 p5 p6 p7 p8 q0 q1 q2 q3 q4 q5 q6 q7 q8; have K14 := Lib.hid (K13.out.below b14); clear b14; obtain ⟨p0, p1, p2, p3, p4, p5, p6, p7, p8, q0, q1, q2, q3, q4, q5, q6, q7, q8⟩ := K14.out.cells))
    | (go_at_call 20; ((with_reducible refine (k_fetch 1 4 _ (z := 0) (by decide)).mono ?_); rintro e w15 ⟨rfl, b15⟩; clear p0 p1 p2 p3 p4 p5 p6 p7 p8 q0 q1 q2 q3 q4 q5 q6 q7 q8; have K15 := Lib.hid (K14.out.below b15); clear b15; obtain ⟨p0, p1, p2, p3, p4, p5, p6, p7, p8, q0, q1, q2, q3, q4, q5, q6, q7, q8⟩ := K15.out.cells))
    | (go_at_call 20; ((with_reducible refine (k_fetch 1 5 _ (z := 8) (by decide)).mono ?_); rintro e w16 ⟨rfl, b16⟩; clear p0 p1 p2 p3 p4 p5 p6 p7 p8 q0 q1 q2 q3 q4 q5 q6 q7 q8; have K16 := Lib.hid (K15.out.below b16); clear b16; obtain ⟨p0, p1, p2, p3, p4, p5, p6, p7, p8, q0, q1, q2, q3, q4, q5, q6, q7, q8⟩ := K16.out.cells))
    | (go_at_call 20; ((with_reducible refine (k_fetch 4 0 _ (z := 10) (by decide)).mono ?_); rintro e w17 ⟨rfl, b17⟩; clear p0 p1 p2 p3 p4 p5 p6 p7 p8 q0 q1 q2 q3 q4 q5 q6 q7 q8; have K17 := Lib.hid (K16.out.below b17); clear b17; obtain ⟨p0, p1, p2, p3, p4, p5, p6, p7, p8, q0, q1, q2, q3, q4, q5, q6, q7, q8⟩ := K17.out.cells)))
  go_ret
  exact ⟨rfl, K17.out.bel⟩

end Go.Proofs.YtknfiepbibaklaaDoor.D
