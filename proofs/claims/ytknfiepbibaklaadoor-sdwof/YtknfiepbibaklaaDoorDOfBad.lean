/-
  The law SdwOf where the list is too long for it, or may not be, or the brackets may not be: it answers true.
-/
import Derived.Test.YtknfiepbibaklaaDoorDOfMem
import Derived.Test.YtknfiepbibaklaaDoorARefFind
import Derived.Deep.DeepCutAuto
set_option linter.unusedVariables false
namespace Go.Proofs.YtknfiepbibaklaaDoor.D
open Go.ChangeShapes Go.WideShapes Go.ChangeAt Go.RowKit
open Go.Proofs.YtknfiepbibaklaaDoor.N (bs bs_data bs_size bs_inj)
open Go.Proofs.YtknfiepbibaklaaDoor.A (Tm Fl TRow findR noFl)
open Go.Proofs.YtknfiepbibaklaaDoor.W (BV acc bmay cto cer inr one_new retI StoreAt SP)
open Go.Proofs.YtknfiepbibaklaaDoor.T (Br Nd St TreeAt TP BrV BrO BrAt noBr Txt rng segS segB nodeS aclX ringX noSt freeE)

/-- what the law reads at its end: a descriptor, flags, brackets, an offset, a size; and nothing older changed -/
@[reducible] def OB (w : World) (px pf pb pO pS : Nat) (m : Int) (f1 f2 f3 : Bool) (r1 r2 r3 g off : Int) (n : Nat) (Y : World) : Prop :=
  SdAt Y px ⟨1, m, f1, f2, f3, r1, r2, r3, g⟩ ∧ W.FlAt Y pf f1 f2 f3 ∧ (pb < Y.heap.size ∧ Y.cell? ⟨pb, 6, none⟩ = some (.int .i64 r1) ∧ Y.cell? ⟨pb, 7, none⟩ = some (.int .i64 r2) ∧ Y.cell? ⟨pb, 8, none⟩ = some (.int .i64 r3) ∧ Y.cell? ⟨pb, 9, none⟩ = some (.int .i64 g)) ∧
  (pO < Y.heap.size ∧ Y.cell? ⟨pO, 0, none⟩ = some (.int .i64 off)) ∧ (pS < Y.heap.size ∧ Y.cell? ⟨pS, 0, none⟩ = some (.int .u8 n)) ∧ Below w.heap.size w Y
theorem ob_below {w : World} {px pf pb pO pS : Nat} {m : Int} {f1 f2 f3 : Bool} {r1 r2 r3 g off : Int} {n : Nat} {Y V : World} (h : OB w px pf pb pO pS m f1 f2 f3 r1 r2 r3 g off n Y) (hb : Below Y.heap.size Y V) : OB w px pf pb pO pS m f1 f2 f3 r1 r2 r3 g off n V := by
  obtain ⟨h1, h2, ⟨b0, b1, b2, b3, b4⟩, ⟨o0, o1⟩, ⟨s0, s1⟩, h6⟩ := h
  have cb : ∀ i, V.cell? ⟨pb, i, none⟩ = Y.cell? ⟨pb, i, none⟩ := fun i => hb.cell (p := ⟨pb, i, none⟩) b0
  have co : V.cell? ⟨pO, 0, none⟩ = Y.cell? ⟨pO, 0, none⟩ := hb.cell (p := ⟨pO, 0, none⟩) o0
  have cs : V.cell? ⟨pS, 0, none⟩ = Y.cell? ⟨pS, 0, none⟩ := hb.cell (p := ⟨pS, 0, none⟩) s0
  have hs := hb.size
  exact ⟨sd_below h1 hb, W.fl_below hb h2, ⟨by omega, (cb 6).trans b1, (cb 7).trans b2, (cb 8).trans b3, (cb 9).trans b4⟩, ⟨by omega, co.trans o1⟩, ⟨by omega, cs.trans s1⟩, bel2 h6 hb⟩
theorem ob_drew {w : World} {px pf pb pO pS : Nat} {m : Int} {f1 f2 f3 : Bool} {r1 r2 r3 g off : Int} {n : Nat} {Y : World} (h : OB w px pf pb pO pS m f1 f2 f3 r1 r2 r3 g off n Y) : OB w px pf pb pO pS m f1 f2 f3 r1 r2 r3 g off n Y.drew := ob_below h (bel_drew Y)

theorem o_keep {Y : World} {p : Nat} {a b : Int} (h : Y.cell? ⟨p, 1, none⟩ = some (.int .i64 a) ∧ Y.cell? ⟨p, 2, none⟩ = some (.int .i64 b)) (hp : p < Y.heap.size) (o : Obj) : (Y.alloc o).cell? ⟨p, 1, none⟩ = some (.int .i64 a) ∧ (Y.alloc o).cell? ⟨p, 2, none⟩ = some (.int .i64 b) :=
  ⟨((one_new Y o).cell (p := ⟨p, 1, none⟩) hp).trans h.1, ((one_new Y o).cell (p := ⟨p, 2, none⟩) hp).trans h.2⟩

set_option maxRecDepth 20000 in
set_option maxHeartbeats 2000000 in
theorem of_long (y : Br) (a : Option Addr) (c : Nat) (n : Nat) (hn : n ≤ 255) (n0 n1 n2 : Int) (w : World) (hr : TRow w a c y.acl) (ht : ∀ t ∈ y.acl, t.1.length ≤ maxLen) (h40 : 40 < y.acl.length) :
    Calls Tryd.prog 3 #[BrV y (.slice a y.acl.length c), .int .u8 n, .agg #[.int .i64 n0, .int .i64 n1, .int .i64 n2]] w fun e w' => e = .returned (.bool true) ∧ Below w.heap.size w w' := by
  have HR := Lib.hid hr
  have HT := Lib.hid ht
  have m0 : 0 ≤ (n : Int) % 20 := by omega
  have m1 : (n : Int) % 20 < 20 := by omega
  clear hr ht
  go_enter Tryd.func3, Tryd.ntmps3
  go_upto_region 4 with (first
    | (go_at_call 7; ((with_reducible refine (awake_any _).mono ?_); rintro e wA ⟨rfl, bA⟩))
    | (go_at_call 8; ((with_reducible refine (T.new_at wA).mono ?_); rintro e w1 ⟨rfl, h1, b1, s1⟩))
    | (go_at_call 9; ((with_reducible refine (W.new_at (q := 2000) (by omega) w1).mono ?_); rintro e w2 ⟨rfl, h2, b2, s2⟩; obtain ⟨l1, s0, hK⟩ := o_start w _ _ _ bA b1; have D2 : Hid (Duo w w2 wA.heap.size 0 noSt w1.heap.size 2000 0 0 0 (fun _ => none) [(w.heap.size, oBr y.kind y.uid y.dir y.link y.obj (.slice a y.acl.length c) y.r1 y.r2 y.r3 y.gt), (w.heap.size + 1, oSz n), (w.heap.size + 1 + 1, oAr n0 n1 n2)]) := Lib.hid (duo_newK h1 l1 (fun i hi => by omega) (fun i hi => by omega) h2 b2 hK); clear h1 b1 h2 b2 bA hK l1)))
  obtain ⟨q0, q1, q2, q3, q4, q5, q6, q7, q8, q9, q10⟩ := o_br (D2.out.at_ (List.Mem.head _))
  obtain ⟨z0, z1⟩ := o_sz (D2.out.at_ (List.Mem.tail _ (List.Mem.head _)))
  have d1 : decide ((40 : Int) < (y.acl.length : Int)) = true := decide_eq_true (by omega)
  go_wp2
  go_ret
  exact ⟨rfl, D2.out.bel⟩

set_option maxRecDepth 20000 in
set_option maxHeartbeats 2000000 in
theorem of_badacl (y : Br) (a : Option Addr) (c : Nat) (n : Nat) (hn : n ≤ 255) (n0 n1 n2 : Int) (w : World) (hr : TRow w a c y.acl) (ht : ∀ t ∈ y.acl, t.1.length ≤ maxLen) (h40 : ¬ 40 < y.acl.length) (hl : A.lmay y.acl = false) :
    Calls Tryd.prog 3 #[BrV y (.slice a y.acl.length c), .int .u8 n, .agg #[.int .i64 n0, .int .i64 n1, .int .i64 n2]] w fun e w' => e = .returned (.bool true) ∧ Below w.heap.size w w' := by
  have HR := Lib.hid hr
  have HT := Lib.hid ht
  have m0 : 0 ≤ (n : Int) % 20 := by omega
  have m1 : (n : Int) % 20 < 20 := by omega
  clear hr ht
  have HL := Lib.hid hl
  clear hl
  go_enter Tryd.func3, Tryd.ntmps3
  go_upto_region 4 with (first
    | (go_at_call 7; ((with_reducible refine (awake_any _).mono ?_); rintro e wA ⟨rfl, bA⟩))
    | (go_at_call 8; ((with_reducible refine (T.new_at wA).mono ?_); rintro e w1 ⟨rfl, h1, b1, s1⟩))
    | (go_at_call 9; ((with_reducible refine (W.new_at (q := 2000) (by omega) w1).mono ?_); rintro e w2 ⟨rfl, h2, b2, s2⟩; obtain ⟨l1, s0, hK⟩ := o_start w _ _ _ bA b1; have D2 : Hid (Duo w w2 wA.heap.size 0 noSt w1.heap.size 2000 0 0 0 (fun _ => none) [(w.heap.size, oBr y.kind y.uid y.dir y.link y.obj (.slice a y.acl.length c) y.r1 y.r2 y.r3 y.gt), (w.heap.size + 1, oSz n), (w.heap.size + 1 + 1, oAr n0 n1 n2)]) := Lib.hid (duo_newK h1 l1 (fun i hi => by omega) (fun i hi => by omega) h2 b2 hK); clear h1 b1 h2 b2 bA hK l1)))
  obtain ⟨q0, q1, q2, q3, q4, q5, q6, q7, q8, q9, q10⟩ := o_br (D2.out.at_ (List.Mem.head _))
  obtain ⟨z0, z1⟩ := o_sz (D2.out.at_ (List.Mem.tail _ (List.Mem.head _)))
  have d1 : decide ((40 : Int) < (y.acl.length : Int)) = false := decide_eq_false (by omega)
  have hal : y.acl.length ≤ maxLen := by unfold maxLen; omega
  go_upto_region 8 with (first
    | (go_at_call 10; ((with_reducible refine (o_make m0 m1 D2.out).mono ?_); rintro e w3 ⟨rfl, h3⟩; have D3 := Lib.hid h3; clear h3 q0 q1 q2 q3 q4 q5 q6 q7 q8 q9 q10 z0 z1; obtain ⟨q0, q1, q2, q3, q4, q5, q6, q7, q8, q9, q10⟩ := o_br (D3.out.at_ (List.Mem.head _)); obtain ⟨z0, z1⟩ := o_sz (D3.out.at_ (List.Mem.tail _ (List.Mem.head _))))))
  clear d1
  have D4 : Hid (Duo w ((w3.setCell ⟨w.heap.size, 0, none⟩ (.int .i64 1)).setCell ⟨w.heap.size, 1, none⟩ (.int .i64 1)) wA.heap.size 0 noSt w1.heap.size 2000 (n % 20) 1 1 (oS (n % 20)) [(w.heap.size, oBr 1 1 y.dir y.link y.obj (.slice a y.acl.length c) y.r1 y.r2 y.r3 y.gt), (w.heap.size + 1, oSz n), (w.heap.size + 1 + 1, oAr n0 n1 n2)]) :=
    Lib.hid ((D3.out.put (Nat.le_refl _) (by simp; omega) (j := 0) (v := .int .i64 1) rfl).put (Nat.le_refl _) (by simp; omega) (j := 1) (v := .int .i64 1) rfl)
  clear D2 D3 q0 q1 q2 q3 q4 q5 q6 q7 q8 q9 q10 z0 z1
  generalize (w3.setCell ⟨w.heap.size, 0, none⟩ (.int .i64 1)).setCell ⟨w.heap.size, 1, none⟩ (.int .i64 1) = Y4 at *
  obtain ⟨q0, q1, q2, q3, q4, q5, q6, q7, q8, q9, q10⟩ := o_br (D4.out.at_ (List.Mem.head _))
  have HR4 := Lib.hid (HR.out.below D4.out.bel)
  go_wp2_with (first
    | (go_at_call 11; ((with_reducible refine (o_badacl HL.out HR4.out HT.out D4.out).mono ?_); rintro e w5 ⟨rfl, b5⟩; have D5 := Lib.hid (D4.out.below b5); clear b5))
    | (go_at_call 12; ((with_reducible refine (o_none D5.out).mono ?_); rintro e w6 ⟨rfl, b6⟩; have L6 := Lib.hid (bel2 (bel2 D5.out.bel b6) (one_new _ (SdO sdz))); clear b6)))
  go_ret
  exact ⟨rfl, L6.out⟩

set_option maxRecDepth 20000 in
set_option maxHeartbeats 2000000 in
theorem of_badring (y : Br) (a : Option Addr) (c : Nat) (n : Nat) (hn : n ≤ 255) (n0 n1 n2 : Int) (w : World) (hr : TRow w a c y.acl) (ht : ∀ t ∈ y.acl, t.1.length ≤ maxLen) (h40 : ¬ 40 < y.acl.length) (hl : A.lmay y.acl = true) (hb : bmay y.r1 y.r2 y.r3 y.gt = false) :
    Calls Tryd.prog 3 #[BrV y (.slice a y.acl.length c), .int .u8 n, .agg #[.int .i64 n0, .int .i64 n1, .int .i64 n2]] w fun e w' => e = .returned (.bool true) ∧ Below w.heap.size w w' := by
  have HR := Lib.hid hr
  have HT := Lib.hid ht
  have m0 : 0 ≤ (n : Int) % 20 := by omega
  have m1 : (n : Int) % 20 < 20 := by omega
  clear hr ht
  have HL := Lib.hid hl
  have HB := Lib.hid hb
  clear hl hb
  go_enter Tryd.func3, Tryd.ntmps3
  go_upto_region 4 with (first
    | (go_at_call 7; ((with_reducible refine (awake_any _).mono ?_); rintro e wA ⟨rfl, bA⟩))
    | (go_at_call 8; ((with_reducible refine (T.new_at wA).mono ?_); rintro e w1 ⟨rfl, h1, b1, s1⟩))
    | (go_at_call 9; ((with_reducible refine (W.new_at (q := 2000) (by omega) w1).mono ?_); rintro e w2 ⟨rfl, h2, b2, s2⟩; obtain ⟨l1, s0, hK⟩ := o_start w _ _ _ bA b1; have D2 : Hid (Duo w w2 wA.heap.size 0 noSt w1.heap.size 2000 0 0 0 (fun _ => none) [(w.heap.size, oBr y.kind y.uid y.dir y.link y.obj (.slice a y.acl.length c) y.r1 y.r2 y.r3 y.gt), (w.heap.size + 1, oSz n), (w.heap.size + 1 + 1, oAr n0 n1 n2)]) := Lib.hid (duo_newK h1 l1 (fun i hi => by omega) (fun i hi => by omega) h2 b2 hK); clear h1 b1 h2 b2 bA hK l1)))
  obtain ⟨q0, q1, q2, q3, q4, q5, q6, q7, q8, q9, q10⟩ := o_br (D2.out.at_ (List.Mem.head _))
  obtain ⟨z0, z1⟩ := o_sz (D2.out.at_ (List.Mem.tail _ (List.Mem.head _)))
  have d1 : decide ((40 : Int) < (y.acl.length : Int)) = false := decide_eq_false (by omega)
  have hal : y.acl.length ≤ maxLen := by unfold maxLen; omega
  go_upto_region 8 with (first
    | (go_at_call 10; ((with_reducible refine (o_make m0 m1 D2.out).mono ?_); rintro e w3 ⟨rfl, h3⟩; have D3 := Lib.hid h3; clear h3 q0 q1 q2 q3 q4 q5 q6 q7 q8 q9 q10 z0 z1; obtain ⟨q0, q1, q2, q3, q4, q5, q6, q7, q8, q9, q10⟩ := o_br (D3.out.at_ (List.Mem.head _)); obtain ⟨z0, z1⟩ := o_sz (D3.out.at_ (List.Mem.tail _ (List.Mem.head _))))))
  clear d1
  have D4 : Hid (Duo w ((w3.setCell ⟨w.heap.size, 0, none⟩ (.int .i64 1)).setCell ⟨w.heap.size, 1, none⟩ (.int .i64 1)) wA.heap.size 0 noSt w1.heap.size 2000 (n % 20) 1 1 (oS (n % 20)) [(w.heap.size, oBr 1 1 y.dir y.link y.obj (.slice a y.acl.length c) y.r1 y.r2 y.r3 y.gt), (w.heap.size + 1, oSz n), (w.heap.size + 1 + 1, oAr n0 n1 n2)]) :=
    Lib.hid ((D3.out.put (Nat.le_refl _) (by simp; omega) (j := 0) (v := .int .i64 1) rfl).put (Nat.le_refl _) (by simp; omega) (j := 1) (v := .int .i64 1) rfl)
  clear D2 D3 q0 q1 q2 q3 q4 q5 q6 q7 q8 q9 q10 z0 z1
  generalize (w3.setCell ⟨w.heap.size, 0, none⟩ (.int .i64 1)).setCell ⟨w.heap.size, 1, none⟩ (.int .i64 1) = Y4 at *
  obtain ⟨q0, q1, q2, q3, q4, q5, q6, q7, q8, q9, q10⟩ := o_br (D4.out.at_ (List.Mem.head _))
  have HR4 := Lib.hid (HR.out.below D4.out.bel)
  go_wp2_with (first
    | (go_at_call 11; ((with_reducible refine (o_badring HL.out HB.out HR4.out HT.out D4.out).mono ?_); rintro e w5 ⟨rfl, b5⟩; have D5 := Lib.hid (D4.out.below b5); clear b5))
    | (go_at_call 12; ((with_reducible refine (o_none D5.out).mono ?_); rintro e w6 ⟨rfl, b6⟩; have L6 := Lib.hid (bel2 (bel2 D5.out.bel b6) (one_new _ (SdO sdz))); clear b6)))
  go_ret
  exact ⟨rfl, L6.out⟩

end Go.Proofs.YtknfiepbibaklaaDoor.D
