/-
  The law SdwOf where the segment is added: it answers true.
-/
import Derived.Test.YtknfiepbibaklaaDoorDOfBad
import Derived.Test.YtknfiepbibaklaaDoorARefFind
import Derived.Deep.DeepCutAuto
import Derived.Deep.CutRange
namespace Go.Proofs.YtknfiepbibaklaaDoor.D
open Go.ChangeShapes Go.WideShapes Go.ChangeAt Go.RowKit
open Go.Proofs.YtknfiepbibaklaaDoor.N (bs bs_data bs_size bs_inj)
open Go.Proofs.YtknfiepbibaklaaDoor.A (Tm Fl TRow findR noFl)
open Go.Proofs.YtknfiepbibaklaaDoor.W (BV acc bmay cto cer inr one_new retI StoreAt SP)
open Go.Proofs.YtknfiepbibaklaaDoor.T (Br Nd St TreeAt TP BrV BrO BrAt noBr Txt rng segS segB nodeS aclX ringX noSt freeE)

set_option maxRecDepth 20000 in
set_option maxHeartbeats 2000000 in
theorem of_good (y : Br) (a : Option Addr) (c : Nat) (n : Nat) (hn : n ≤ 255) (n0 n1 n2 : Int) (w : World) (hr : TRow w a c y.acl) (ht : ∀ t ∈ y.acl, t.1.length ≤ maxLen) (h40 : ¬ 40 < y.acl.length) (hl : A.lmay y.acl = true) (hb : bmay y.r1 y.r2 y.r3 y.gt = true) :
    Calls Tryd.prog 3 #[BrV y (.slice a y.acl.length c), .int .u8 n, .agg #[.int .i64 n0, .int .i64 n1, .int .i64 n2]] w fun e w' => e = .returned (.bool true) ∧ Below w.heap.size w w' := by
  have HR := Lib.hid hr
  have HT := Lib.hid ht
  have m0 : 0 ≤ (n : Int) % 20 := by omega
  have m1 : (n : Int) % 20 < 20 := by omega
  clear hr ht
  have HL := Lib.hid hl
  have HB := Lib.hid hb
  clear hl hb
  go_enter Tryd.func3, Tryd.ntmps3
  go_upto_region 4 with (first
    | (go_at_call 7; ((with_reducible refine (awake_any _).mono ?_); rintro e wA ⟨rfl, bA⟩))
    | (go_at_call 8; ((with_reducible refine (T.new_at wA).mono ?_); rintro e w1 ⟨rfl, h1, b1, s1⟩))
    | (go_at_call 9; ((with_reducible refine (W.new_at (q := 2000) (by omega) w1).mono ?_); rintro e w2 ⟨rfl, h2, b2, s2⟩; obtain ⟨l1, s0, hK⟩ := o_start w _ _ _ bA b1; have D2 : Hid (Duo w w2 wA.heap.size 0 noSt w1.heap.size 2000 0 0 0 (fun _ => none) [(w.heap.size, oBr y.kind y.uid y.dir y.link y.obj (.slice a y.acl.length c) y.r1 y.r2 y.r3 y.gt), (w.heap.size + 1, oSz n), (w.heap.size + 1 + 1, oAr n0 n1 n2)]) := Lib.hid (duo_newK h1 l1 (fun i hi => by omega) (fun i hi => by omega) h2 b2 hK); clear h1 b1 h2 b2 bA hK l1)))
  obtain ⟨q0, q1, q2, q3, q4, q5, q6, q7, q8, q9, q10⟩ := o_br (D2.out.at_ (List.Mem.head _))
  obtain ⟨z0, z1⟩ := o_sz (D2.out.at_ (List.Mem.tail _ (List.Mem.head _)))
  have d1 : decide ((40 : Int) < (y.acl.length : Int)) = false := decide_eq_false (by omega)
  have hal : y.acl.length ≤ maxLen := by unfold maxLen; omega
  go_upto_region 8 with (first
    | (go_at_call 10; ((with_reducible refine (o_make m0 m1 D2.out).mono ?_); rintro e w3 ⟨rfl, h3⟩; have D3 := Lib.hid h3; clear h3 q0 q1 q2 q3 q4 q5 q6 q7 q8 q9 q10 z0 z1; obtain ⟨q0, q1, q2, q3, q4, q5, q6, q7, q8, q9, q10⟩ := o_br (D3.out.at_ (List.Mem.head _)); obtain ⟨z0, z1⟩ := o_sz (D3.out.at_ (List.Mem.tail _ (List.Mem.head _))))))
  clear d1
  have D4 : Hid (Duo w ((w3.setCell ⟨w.heap.size, 0, none⟩ (.int .i64 1)).setCell ⟨w.heap.size, 1, none⟩ (.int .i64 1)) wA.heap.size 0 noSt w1.heap.size 2000 (n % 20) 1 1 (oS (n % 20)) [(w.heap.size, oBr 1 1 y.dir y.link y.obj (.slice a y.acl.length c) y.r1 y.r2 y.r3 y.gt), (w.heap.size + 1, oSz n), (w.heap.size + 1 + 1, oAr n0 n1 n2)]) :=
    Lib.hid ((D3.out.put (Nat.le_refl _) (by simp; omega) (j := 0) (v := .int .i64 1) rfl).put (Nat.le_refl _) (by simp; omega) (j := 1) (v := .int .i64 1) rfl)
  clear D2 D3 q0 q1 q2 q3 q4 q5 q6 q7 q8 q9 q10 z0 z1
  generalize (w3.setCell ⟨w.heap.size, 0, none⟩ (.int .i64 1)).setCell ⟨w.heap.size, 1, none⟩ (.int .i64 1) = Y4 at *
  obtain ⟨q0, q1, q2, q3, q4, q5, q6, q7, q8, q9, q10⟩ := o_br (D4.out.at_ (List.Mem.head _))
  have HR4 := Lib.hid (HR.out.below D4.out.bel)
  go_upto_region 12 with (go_at_call 11; ((with_reducible refine (o_add HL.out HB.out HR4.out HT.out D4.out).mono ?_); rintro e w5 ⟨rfl, g1, h5⟩; have D5 := Lib.hid h5; clear h5))
  have HR5 := Lib.hid (HR.out.below D5.out.bel)
  clear q0 q1 q2 q3 q4 q5 q6 q7 q8 q9 q10 D4 HR4
  have a3 := and3 n0
  go_cut [15] from 85 to 90 (fun s15 Y => ∃ usr : Txt, s15 = .string (bs usr) ∧ ∃ o, Y = w5.alloc o)
  case first =>
    obtain ⟨z0, z1, z2, z3⟩ := o_ar (D5.out.at_ (List.Mem.tail _ (List.Mem.tail _ (List.Mem.head _))))
    have a4 : n0 % 4 = 0 ∨ n0 % 4 = 1 ∨ n0 % 4 = 2 ∨ n0 % 4 = 3 := by omega
    rcases a4 with e | e | e | e
    all_goals
      rw [e] at a3
      clear e
      go_wp2
      go_meet
      first
        | exact ⟨[117], rfl, _, rfl⟩
        | exact ⟨[118], rfl, _, rfl⟩
        | exact ⟨[42], rfl, _, rfl⟩
        | exact ⟨[113], rfl, _, rfl⟩
        | fail
  case rest =>
    obtain ⟨usr, rfl, o6, rfl⟩ := hcut
    have D6 := Lib.hid (D5.out.alloc o6)
    have HR6 := Lib.hid (HR5.out.alloc o6)
    clear D5 HR5 a3
    generalize w5.alloc o6 = Y6 at *
    obtain ⟨q0, q1, q2, q3, q4, q5, q6, q7, q8, q9, q10⟩ := o_br (D6.out.at_ (List.Mem.head _))
    obtain ⟨f1, f2, f3, hf⟩ : ∃ f1 f2 f3, findR y.acl usr = (f1, f2, f3) := ⟨_, _, _, rfl⟩
    have HF : Hid (Calls Tryd.prog 13 #[.slice a y.acl.length c, .string (bs usr)] Y6 fun e w' => e = .returned (.agg #[.bool f1, .bool f2, .bool f3]) ∧ Below Y6.heap.size Y6 w') := Lib.hid (by
      have := A.refFind_any a c y.acl usr Y6 HR6.out HT.out
      rw [hf] at this
      exact this)
    have HX : Hid (flg y.obj y.acl usr = (f1, f2 && !y.obj, f3)) := Lib.hid (by unfold flg; rw [hf])
    clear hf
    go_upto_region 14 with (go_at_call 13; ((with_reducible refine HF.out.mono ?_); rintro e w7 ⟨rfl, b7⟩; have w7lt : Hid (w.heap.size + 1 + 1 < w7.heap.size) := Lib.hid (Nat.lt_of_lt_of_le (lt_of_some (D6.out.at_ (List.Mem.tail _ (List.Mem.tail _ (List.Mem.head _))))) b7.size); have D7 := Lib.hid ((D6.out.below b7).push (W.FO f1 f2 f3)); have b7 := Lib.hid b7; clear q0 q1 q2 q3 q4 q5 q6 q7 q8 q9 q10; obtain ⟨q0, q1, q2, q3, q4, q5, q6, q7, q8, q9, q10⟩ := o_br (D7.out.at_ (List.Mem.tail _ (List.Mem.head _))); obtain ⟨p0, p1, p2, p3, p4⟩ := o_fl (D7.out.at_ (List.Mem.head _))))
    go_upto_if 96 with fail
    go_cut [16] from 97 to 97 (fun s16 Y => s16 = .pointer (some ⟨w7.heap.size, 0, none⟩) ∧ Duo w Y wA.heap.size 4 (segS noSt g1 (oB y) 0 [97]) w1.heap.size 2000 (n % 20) 1 1 (oS (n % 20)) [(w7.heap.size, W.FO f1 (f2 && !y.obj) f3), (w.heap.size, oBr 1 1 y.dir y.link y.obj (.slice a y.acl.length c) y.r1 y.r2 y.r3 y.gt), (w.heap.size + 1, oSz n), (w.heap.size + 1 + 1, oAr n0 n1 n2)])
    case first =>
      go_wp2
      · go_meet
        have hob : y.obj = true := by assumption
        have e : (f2 && !y.obj) = false := by rw [hob]; simp
        refine ⟨rfl, ?_⟩
        rw [e]
        exact (D6.out.below b7.out).push (W.FO f1 false f3)
      · go_meet
        have hob : y.obj = false := by first | assumption | exact Bool.eq_false_iff.2 (by assumption)
        have e : (f2 && !y.obj) = f2 := by rw [hob]; simp
        refine ⟨rfl, ?_⟩
        rw [e]
        exact D7.out
    case rest =>
      clear D6 D7 b7 HF HR6 q0 q1 q2 q3 q4 q5 q6 q7 q8 q9 q10 p0 p1 p2 p3 p4
      obtain ⟨rfl, D8'⟩ := hcut
      have D8 := Lib.hid D8'
      clear D8'
      generalize (f2 && !y.obj) = x2 at HX D8
      generalize w7.heap.size = pf at *
      have gf := A.guard_flags
      have gb := T.brk_guard
      have ef := A.neq_flags (f1, x2, f3) (f1, x2, f3)
      have eb := T.brk_neq y.r1 y.r2 y.r3 y.gt y.r1 y.r2 y.r3 y.gt
      simp only [ne_eq, not_true_eq_false, decide_false] at ef eb
      go_upto_region 19 with (go_at_call 12; ((with_reducible refine (o_sdw m0 HT.out usr D8.out HX.out).mono ?_); rintro e w9 ⟨rfl, b9⟩; have D9 := Lib.hid ((D8.out.below b9).push (oSd (n % 20) f1 x2 f3 y.r1 y.r2 y.r3 y.gt)); clear b9; obtain ⟨q0, q1, q2, q3, q4, q5, q6, q7, q8, q9, q10⟩ := o_br (D9.out.at_ (List.Mem.tail _ (List.Mem.tail _ (List.Mem.head _)))); obtain ⟨p0, p1, p2, p3, p4⟩ := o_fl (D9.out.at_ (List.Mem.tail _ (List.Mem.head _))); obtain ⟨x0, x1, x2', x3, x4, x5, x6, x7, x8, x9⟩ := o_sd (D9.out.at_ (List.Mem.head _)); obtain ⟨z0, z1⟩ := o_sz (D9.out.at_ (List.Mem.tail _ (List.Mem.tail _ (List.Mem.tail _ (List.Mem.head _)))))))
      clear q0 q1 q2 q3 q4 q5 q6 q7 q8 q9 q10 p0 p1 p2 p3 p4 x0 x1 x2' x3 x4 x5 x6 x7 x8 x9 z0 z1 ef eb
      generalize hV : w9.alloc (oSd (n % 20) f1 x2 f3 y.r1 y.r2 y.r3 y.gt) = V at *
      clear hV
      generalize w9.heap.size = px at *
      have D10 : Hid (Duo w ((V.alloc (oOf n2)).drew) wA.heap.size 4 (segS noSt g1 (oB y) 0 [97]) w1.heap.size 2000 (n % 20) 1 1 (oS (n % 20)) [(V.heap.size, oOf n2), (px, oSd (n % 20) f1 x2 f3 y.r1 y.r2 y.r3 y.gt), (pf, W.FO f1 x2 f3), (w.heap.size, oBr 1 1 y.dir y.link y.obj (.slice a y.acl.length c) y.r1 y.r2 y.r3 y.gt), (w.heap.size + 1, oSz n), (w.heap.size + 1 + 1, oAr n0 n1 n2)]) := Lib.hid ((D9.out.push (oOf n2)).drew)
      obtain ⟨z0, z1, z2, z3⟩ := o_ar (D9.out.at_ (List.Mem.tail _ (List.Mem.tail _ (List.Mem.tail _ (List.Mem.tail _ (List.Mem.head _))))))
      have O10 : Hid (OB w px pf w.heap.size V.heap.size (w.heap.size + 1) (n % 20) f1 x2 f3 y.r1 y.r2 y.r3 y.gt n2 n ((V.alloc (oOf n2)).drew)) := Lib.hid (by
        obtain ⟨q0, q1, q2, q3, q4, q5, q6, q7, q8, q9, q10⟩ := o_br (D10.out.at_ (List.Mem.tail _ (List.Mem.tail _ (List.Mem.tail _ (List.Mem.head _)))))
        obtain ⟨p0, p1, p2, p3, p4⟩ := o_fl (D10.out.at_ (List.Mem.tail _ (List.Mem.tail _ (List.Mem.head _))))
        exact ⟨o_sd (D10.out.at_ (List.Mem.tail _ (List.Mem.head _))), ⟨p0, p1, p2, p3⟩, ⟨q0, q5, q6, q7, q8⟩, o_of (D10.out.at_ (List.Mem.head _)), o_sz (D10.out.at_ (List.Mem.tail _ (List.Mem.tail _ (List.Mem.tail _ (List.Mem.tail _ (List.Mem.head _)))))), D10.out.bel⟩)
      clear D8 D9 D10
      go_cut [19, 20] from 135 to 138 (fun s19 s20 Y => s19 = .int .i64 n1 ∧ s20 = .pointer (some ⟨V.heap.size, 0, none⟩) ∧ OB w px pf w.heap.size V.heap.size (w.heap.size + 1) (n % 20) f1 x2 f3 y.r1 y.r2 y.r3 y.gt n2 n Y)
      case first =>
        have K0 : V.drew.cell? ⟨w.heap.size + 1 + 1, 1, none⟩ = some (.int .i64 n1) ∧ V.drew.cell? ⟨w.heap.size + 1 + 1, 2, none⟩ = some (.int .i64 n2) := ⟨z2, z3⟩
        have K1 : Hid ((V.alloc (oOf 0)).drew.cell? ⟨w.heap.size + 1 + 1, 1, none⟩ = some (.int .i64 n1) ∧ (V.alloc (oOf 0)).drew.cell? ⟨w.heap.size + 1 + 1, 2, none⟩ = some (.int .i64 n2)) := Lib.hid (o_keep ⟨z2, z3⟩ z0 (oOf 0))
        have K2 : Hid ((V.alloc (oOf n2)).drew.cell? ⟨w.heap.size + 1 + 1, 1, none⟩ = some (.int .i64 n1) ∧ (V.alloc (oOf n2)).drew.cell? ⟨w.heap.size + 1 + 1, 2, none⟩ = some (.int .i64 n2)) := Lib.hid (o_keep ⟨z2, z3⟩ z0 (oOf n2))
        have K0 := Lib.hid K0
        go_region_held3 (fun Y => Y.cell? ⟨w.heap.size + 1 + 1, 1, none⟩ = some (.int .i64 n1) ∧ Y.cell? ⟨w.heap.size + 1 + 1, 2, none⟩ = some (.int .i64 n2))
          (first | (with_reducible exact K0.out) | (with_reducible exact K1.out) | (with_reducible exact K2.out))
          (fail)
        go_wp2
        go_meet
        exact ⟨rfl, rfl, O10.out⟩
      case rest =>
        clear O10 z0 z1 z2 z3
        obtain ⟨rfl, rfl, O11⟩ := hcut
        generalize V.heap.size = pO at *
        generalize w.heap.size + 1 = pS at *
        obtain ⟨R1, C, U, E, hT, hE, hC, hU⟩ : ∃ R1 C U E : Int, R1 = (if E = 0 then C else 0) ∧ bnd U n2 (n % 20 : Int) = E ∧ (∀ Y, Calls Tryd.prog 15 #[oSv (n % 20) f1 x2 f3 y.r1 y.r2 y.r3 y.gt, .int .i64 n1, .int .i64 n2] Y fun e w' => e = .returned (.tuple #[.int .i64 R1, .int .i64 E]) ∧ Below Y.heap.size Y w') ∧ (∀ Y, Calls Tryd.prog 16 #[BV y.r1 y.r2 y.r3 y.gt, W.FV f1 x2 f3, .int .i64 n1, .int .i64 n2] Y fun e w' => e = .returned (.tuple #[.int .i64 C, .int .i64 U]) ∧ Below Y.heap.size Y w') :=
          ⟨dto ⟨1, n % 20, f1, x2, f3, y.r1, y.r2, y.r3, y.gt⟩ n1 n2, _, _, der ⟨1, n % 20, f1, x2, f3, y.r1, y.r2, y.r3, y.gt⟩ n1 n2, rfl, rfl, fun Y => call_any ⟨1, n % 20, f1, x2, f3, y.r1, y.r2, y.r3, y.gt⟩ n1 n2 Y, fun Y => W.rcall_any y.r1 y.r2 y.r3 y.gt f1 x2 f3 n1 n2 Y⟩
        obtain ⟨aR, aW, aF, hR1, hR2, hW1, hW2, hF1, hF2⟩ : ∃ aR aW aF : Int, (∀ Y, Calls Tryd.prog 17 #[oSv (n % 20) f1 x2 f3 y.r1 y.r2 y.r3 y.gt, .int .i64 n1, .int .i64 n2] Y fun e w' => e = .returned (.int .i64 (bnd aR n2 (n % 20 : Int))) ∧ Below Y.heap.size Y w') ∧ (∀ Y, Calls Tryd.prog 18 #[.int .i64 2, BV y.r1 y.r2 y.r3 y.gt, W.FV f1 x2 f3, .int .i64 n1] Y fun e w' => e = .returned (.int .i64 aR) ∧ Below Y.heap.size Y w') ∧
            (∀ Y, Calls Tryd.prog 19 #[oSv (n % 20) f1 x2 f3 y.r1 y.r2 y.r3 y.gt, .int .i64 n1, .int .i64 n2] Y fun e w' => e = .returned (.int .i64 (bnd aW n2 (n % 20 : Int))) ∧ Below Y.heap.size Y w') ∧ (∀ Y, Calls Tryd.prog 18 #[.int .i64 3, BV y.r1 y.r2 y.r3 y.gt, W.FV f1 x2 f3, .int .i64 n1] Y fun e w' => e = .returned (.int .i64 aW) ∧ Below Y.heap.size Y w') ∧
            (∀ Y, Calls Tryd.prog 20 #[oSv (n % 20) f1 x2 f3 y.r1 y.r2 y.r3 y.gt, .int .i64 n1, .int .i64 n2] Y fun e w' => e = .returned (.int .i64 (bnd aF n2 (n % 20 : Int))) ∧ Below Y.heap.size Y w') ∧ (∀ Y, Calls Tryd.prog 18 #[.int .i64 1, BV y.r1 y.r2 y.r3 y.gt, W.FV f1 x2 f3, .int .i64 n1] Y fun e w' => e = .returned (.int .i64 aF) ∧ Below Y.heap.size Y w') :=
          ⟨_, _, _, fun Y => read_any ⟨1, n % 20, f1, x2, f3, y.r1, y.r2, y.r3, y.gt⟩ n1 n2 Y, fun Y => W.rread_any y.r1 y.r2 y.r3 y.gt f1 x2 f3 n1 Y, fun Y => write_any ⟨1, n % 20, f1, x2, f3, y.r1, y.r2, y.r3, y.gt⟩ n1 n2 Y, fun Y => W.rwrite_any y.r1 y.r2 y.r3 y.gt f1 x2 f3 n1 Y, fun Y => fetch_any ⟨1, n % 20, f1, x2, f3, y.r1, y.r2, y.r3, y.gt⟩ n1 n2 Y, fun Y => W.rfetch_any y.r1 y.r2 y.r3 y.gt f1 x2 f3 n1 Y⟩
        have HC := Lib.hid hC
        have HU := Lib.hid hU
        have HTT := Lib.hid hT
        have HE := Lib.hid hE
        have HR1 := Lib.hid hR1
        have HR2 := Lib.hid hR2
        have HW1 := Lib.hid hW1
        have HW2 := Lib.hid hW2
        have HF1 := Lib.hid hF1
        have HF2 := Lib.hid hF2
        clear hC hU hT hE hR1 hR2 hW1 hW2 hF1 hF2
        obtain ⟨⟨x0, x1, x2', x3, x4, x5, x6, x7, x8, x9⟩, ⟨p0, p1, p2, p3⟩, ⟨b0, b1, b2, b3, b4⟩, ⟨o0, o1⟩, ⟨z0, z1⟩, _⟩ := id O11
        go_upto_if 160 with (first
          | (go_at_call 15; ((with_reducible refine (HC.out _).mono ?_); rintro e w11 ⟨rfl, h11⟩; have O12 := ob_below O11 h11; clear x0 x1 x2' x3 x4 x5 x6 x7 x8 x9 p0 p1 p2 p3 b0 b1 b2 b3 b4 o0 o1 z0 z1; obtain ⟨⟨x0, x1, x2', x3, x4, x5, x6, x7, x8, x9⟩, ⟨p0, p1, p2, p3⟩, ⟨b0, b1, b2, b3, b4⟩, ⟨o0, o1⟩, ⟨z0, z1⟩, _⟩ := id O12))
          | (go_at_call 16; ((with_reducible refine (HU.out _).mono ?_); rintro e w12 ⟨rfl, h12⟩; have O13 := ob_below O12 h12; clear x0 x1 x2' x3 x4 x5 x6 x7 x8 x9 p0 p1 p2 p3 b0 b1 b2 b3 b4 o0 o1 z0 z1; obtain ⟨⟨x0, x1, x2', x3, x4, x5, x6, x7, x8, x9⟩, ⟨p0, p1, p2, p3⟩, ⟨b0, b1, b2, b3, b4⟩, ⟨o0, o1⟩, ⟨z0, z1⟩, _⟩ := id O13))
          | (go_at_call 14; (refine (o_bound o1 z1 hn U).mono ?_); rw [HE.out]; rintro e w13 ⟨rfl, rfl⟩))
        go_cut [24] from 160 to 160 (fun s24 Y => s24 = .int .i64 R1 ∧ Y = w12)
        case first =>
          go_wp2
          all_goals
            go_meet
            first
              | exact ⟨by rw [HTT.out, if_neg (by simpa using ‹(E != 0) = true›)], rfl⟩
              | exact ⟨by rw [HTT.out, if_pos (by simpa using ‹(E != 0) = false›)], rfl⟩
              | fail
        case rest =>
          obtain ⟨rfl, rfl⟩ := hcut
          clear x0 x1 x2' x3 x4 x5 x6 x7 x8 x9 p0 p1 p2 p3 b0 b1 b2 b3 b4 o0 o1 z0 z1
          go_wp2
          have H := ob_drew O13
          go_region_held3 (fun Y => SdAt Y px ⟨1, n % 20, f1, x2, f3, y.r1, y.r2, y.r3, y.gt⟩ ∧ W.FlAt Y pf f1 x2 f3 ∧ (w.heap.size < Y.heap.size ∧ Y.cell? ⟨w.heap.size, 6, none⟩ = some (.int .i64 y.r1) ∧ Y.cell? ⟨w.heap.size, 7, none⟩ = some (.int .i64 y.r2) ∧ Y.cell? ⟨w.heap.size, 8, none⟩ = some (.int .i64 y.r3) ∧ Y.cell? ⟨w.heap.size, 9, none⟩ = some (.int .i64 y.gt)) ∧ (pO < Y.heap.size ∧ Y.cell? ⟨pO, 0, none⟩ = some (.int .i64 n2)) ∧ (pS < Y.heap.size ∧ Y.cell? ⟨pS, 0, none⟩ = some (.int .u8 n)) ∧ Below w.heap.size w Y)
            (first | exact H | exact ob_drew H)
            (first
              | (go_at_call 17; ((with_reducible refine (HR1.out _).mono ?_); rintro e w20 ⟨rfl, h20⟩; have H := ob_below H h20))
              | (go_at_call 19; ((with_reducible refine (HW1.out _).mono ?_); rintro e w20 ⟨rfl, h20⟩; have H := ob_below H h20))
              | (go_at_call 20; ((with_reducible refine (HF1.out _).mono ?_); rintro e w20 ⟨rfl, h20⟩; have H := ob_below H h20))
              | (go_at_call 18; ((with_reducible refine (HR2.out _).mono ?_); rintro e w20 ⟨rfl, h20⟩; have H := ob_below H h20))
              | (go_at_call 18; ((with_reducible refine (HW2.out _).mono ?_); rintro e w20 ⟨rfl, h20⟩; have H := ob_below H h20))
              | (go_at_call 18; ((with_reducible refine (HF2.out _).mono ?_); rintro e w20 ⟨rfl, h20⟩; have H := ob_below H h20))
              | (go_at_call 14; (refine (o_bound H.2.2.2.1.2 H.2.2.2.2.1.2 hn _).mono ?_); rintro e w20 ⟨rfl, rfl⟩))
          go_wp2
          go_ret
          exact ⟨rfl, H.2.2.2.2.2⟩

end Go.Proofs.YtknfiepbibaklaaDoor.D
