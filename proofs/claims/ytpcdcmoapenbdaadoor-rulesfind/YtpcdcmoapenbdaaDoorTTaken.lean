/-
  What a tree takes of a branch that is added (taken), by its ways: a segment, a directory, nothing.
-/
import Derived.Test.YtpcdcmoapenbdaaDoorTBind
namespace Go.Proofs.YtpcdcmoapenbdaaDoor.T
open Go.ChangeShapes Go.WideShapes Go.ChangeAt Go.RowKit
open Go.Proofs.YtpcdcmoapenbdaaDoor.N (bs bs_data bs_size bs_inj)
open Go.Proofs.YtpcdcmoapenbdaaDoor.A (Tm TRow)

/-- what the tree keeps of a segment, a directory, a link -/
def segB (b : Br) : Br := ⟨1, b.uid, 0, [], b.obj, b.acl, b.r1, b.r2, b.r3, b.gt⟩
def dirB : Br := ⟨2, 0, 0, [], false, [], 0, 0, 0, 0⟩
def linkB (l : Txt) : Br := ⟨3, 0, 0, l, false, [], 0, 0, 0, 0⟩

theorem aclMay_is {w : World} {a : Option Addr} {c : Nat} {l : List Tm} (hr : TRow w a c l) (hl : ∀ t ∈ l, t.1.length ≤ maxLen) {r : Bool} (e : A.lmay l = r) :
    Calls Tryd.prog 53 #[.slice a l.length c] w fun e w' => e = .returned (.bool r) ∧ Below w.heap.size w w' := by
  subst e
  exact A.may_any a c l w hr hl
theorem ringMay_is {r1 r2 r3 g : Int} (w : World) {r : Bool} (e : W.bmay r1 r2 r3 g = r) :
    Calls Tryd.prog 56 #[.agg #[.int .i64 r1, .int .i64 r2, .int .i64 r3, .int .i64 g]] w fun e w' => e = .returned (.bool r) ∧ Below w.heap.size w w' := by
  cases r with
  | true => exact (W.may_yes r1 r2 r3 g w e).mono fun _ _ h => ⟨h.1, h.2 ▸ one_new _ _⟩
  | false => exact (W.may_no r1 r2 r3 g w e).mono fun _ _ h => ⟨h.1, h.2 ▸ one_new _ _⟩

/-- what of a branch is read -/
theorem BrAt.seven {V : World} {k : Nat} {b : Br} {va : Value} (h : BrAt V k b va) : V.cell? ⟨k, 1, none⟩ = some (.int .i64 b.uid) ∧ V.cell? ⟨k, 4, none⟩ = some (.bool b.obj) ∧ V.cell? ⟨k, 5, none⟩ = some va ∧ V.cell? ⟨k, 6, none⟩ = some (.int .i64 b.r1) ∧ V.cell? ⟨k, 7, none⟩ = some (.int .i64 b.r2) ∧ V.cell? ⟨k, 8, none⟩ = some (.int .i64 b.r3) ∧ V.cell? ⟨k, 9, none⟩ = some (.int .i64 b.gt) := by
  obtain ⟨q0, q1, q2, q3, q4, q5, q6, q7, q8, q9⟩ := h.cell
  exact ⟨q1, q4, q5, q6, q7, q8, q9⟩
theorem BrAt.setBr {V : World} {k j : Nat} {b : Br} {va : Value} (h : BrAt V k b va) (hj : k ≠ j) (b' : Br) (va' : Value) : BrAt (setBr V j b' va') k b va :=
  (((((((((h.set hj).set hj).set hj).set hj).set hj).set hj).set hj).set hj).set hj).set hj

/-- the two boxes of taken -/
structure Box2 (w W : World) (br : Br) (va : Value) : Prop where
  one : BrAt W w.heap.size br va
  two : BrAt W (w.heap.size + 1) noBr (.slice none 0 0)
  bel : Below w.heap.size w W
theorem Box2.new (w : World) (br : Br) (va : Value) : Box2 w ((w.alloc (BrO br va)).alloc (BrO noBr (.slice none 0 0))) br va :=
  ⟨(BrAt.new w br va).alloc _, BrAt.behind w _ _ _, bel2 (one_new _ _) (one_new _ _)⟩
theorem Box2.below {w V V' : World} {br : Br} {va : Value} (h : Box2 w V br va) (hb : Below V.heap.size V V') : Box2 w V' br va :=
  ⟨h.one.below hb, h.two.below hb, bel2 h.bel hb⟩
theorem Box2.drew {w V : World} {br : Br} {va : Value} (h : Box2 w V br va) : Box2 w V.drew br va := ⟨h.one, h.two, ⟨h.bel.os, h.bel.tape, h.bel.output, h.bel.size, h.bel.block⟩⟩
theorem Box2.lt {w V : World} {br : Br} {va : Value} (h : Box2 w V br va) : w.heap.size + 1 < V.heap.size := h.two.lt

section
variable {w : World} {b : Nat} {F : Nat → Prop} {c : Nat} {st : St}

set_option maxHeartbeats 4000000 in
theorem taken_seg (h : TreeAt w b F c st) {br : Br} {a : Option Addr} {cc : Nat} (hr : TRow w a cc br.acl) (htx : ∀ t ∈ br.acl, t.1.length ≤ maxLen) (hk : br.kind = 1) (hu : 1 ≤ br.uid) (hu' : br.uid ≤ 9223372036854775807) (ha : A.lmay br.acl = true) (hb : W.bmay br.r1 br.r2 br.r3 br.gt = true) (hG : st.G br.uid = none) :
    Calls Tryd.prog 40 #[TP b, BrV br (.slice a br.acl.length cc)] w fun e w' => ∃ a' c', e = .returned (.tuple #[BrV (segB br) (.slice a' br.acl.length c'), .int .i64 0]) ∧ A.Own w.heap.size w' (.slice a' br.acl.length c') br.acl ∧ Below w.heap.size w w' := by
  obtain ⟨mp, mg, mz, av, nv, h⟩ := h
  have hal : br.acl.length ≤ 1000000 := by have := (A.lmay_parts ha).1; omega
  have HR := Lib.hid hr
  have HT := Lib.hid htx
  have H := Lib.hid h
  have HG := Lib.hid hG
  have HA := Lib.hid ha
  have HB := Lib.hid hb
  have HK := Lib.hid hk
  have hbl := h.lt
  clear hr htx h hG ha hb
  have e1 : (br.kind == 1) = true := by simpa using hk
  have e2 : decide (br.uid < 1) = false := by simp; omega
  have hU : rng br.uid := ⟨by omega, hu'⟩
  clear hk HK hu hu'
  go_enter Tryd.func40, Tryd.ntmps40
  go_wp2_with (first
    | (go_at_call 53; ((refine (aclMay_is ((HR.out.alloc _).alloc _) HT.out HA.out).mono ?_); rintro e w1 ⟨rfl, b1⟩; have X1 := Lib.hid ((Box2.new w br (.slice a br.acl.length cc)).below b1); obtain ⟨q0, q1, q2, q3, q4, q5, q6, q7, q8, q9⟩ := X1.out.one.cell; clear b1))
    | (go_at_call 56; ((refine (ringMay_is w1 HB.out).mono ?_); rintro e w2 ⟨rfl, b2⟩; have X2 := Lib.hid (X1.out.below b2); obtain ⟨s0, s1, s2, s3, s4, s5, s6, s7, s8, s9⟩ := X2.out.one.cell; clear b2; have T2 := Lib.hid (H.out.below X2.out.bel).drew; have t2 := T2.out.c2; have t3 := T2.out.lookG (u := br.uid) hU; rw [HG.out] at t3; simp only [ptrOf, Option.isSome_none] at t3)))
  go_region
  go_wp2
  clear q0 q1 q2 q3 q4 q5 q6 q7 q8 q9 s0 s1 s2 s3 s4 s5 s6 s7 s8 s9 t2 t3
  have X3 := Lib.hid X2.out.drew
  have HR2 : Hid (TRow w2.drew a cc br.acl) := Lib.hid (HR.out.below X3.out.bel)
  clear X1 X2 T2
  generalize w2.drew = V2 at *
  have HR3 : Hid (TRow V2.drew a cc br.acl) := Lib.hid (HR2.out.drewN 1)
  have Y3 := Lib.hid X3.out.drew
  have k3 := Lib.hid Y3.out.one.seven
  go_region_held3 (fun V => V.cell? ⟨w.heap.size, 1, none⟩ = some (.int .i64 br.uid) ∧ V.cell? ⟨w.heap.size, 4, none⟩ = some (.bool br.obj) ∧ V.cell? ⟨w.heap.size, 5, none⟩ = some (.slice a br.acl.length cc) ∧ V.cell? ⟨w.heap.size, 6, none⟩ = some (.int .i64 br.r1) ∧ V.cell? ⟨w.heap.size, 7, none⟩ = some (.int .i64 br.r2) ∧ V.cell? ⟨w.heap.size, 8, none⟩ = some (.int .i64 br.r3) ∧ V.cell? ⟨w.heap.size, 9, none⟩ = some (.int .i64 br.gt))
    (first | (with_reducible exact k3.out) | (with_reducible exact k4.out) | exact k5.out)
    ((go_at_call 54; ((refine (copied_any HR3.out hal).mono ?_); rintro e w3 ⟨a', c', rfl, o3, b3⟩; have X4 := Lib.hid (Y3.out.below b3); obtain ⟨s0, s1, s2, s3, s4, s5, s6, s7, s8, s9⟩ := X4.out.two.cell; have f3 := X4.out.two.fz; have O3 := Lib.hid o3; have k4 := Lib.hid X4.out.one.seven; have k5 := Lib.hid (X4.out.one.setBr (j := w.heap.size + 1) (by omega) (segB br) (.slice a' br.acl.length c')).seven; clear o3 b3)))
  have B5 := X4.out.two.stored (segB br) (.slice a' br.acl.length c')
  have L5 := Below.setBr X4.out.bel (k := w.heap.size + 1) (by omega) (segB br) (.slice a' br.acl.length c')
  have hsz := Y3.out.lt
  have O5 := own_base (base' := w.heap.size) (own_setBr (k := w.heap.size + 1) O3.out hsz (segB br) (.slice a' br.acl.length c')) (by omega)
  clear k3 k4 k5 s0 s1 s2 s3 s4 s5 s6 s7 s8 s9 f3
  refine (show Exit.then _ _ _ _ (setBr w3 (w.heap.size + 1) (segB br) (.slice a' br.acl.length c')) from ?_)
  generalize setBr w3 (w.heap.size + 1) (segB br) (.slice a' br.acl.length c') = W5 at B5 L5 O5 ⊢
  obtain ⟨g0, g1, g2, g3, g4, g5, g6, g7, g8, g9⟩ := B5.cell
  go_wp2
  exact bodyPost_ret (v := .tuple #[BrV (segB br) (.slice a' br.acl.length c'), .int .i64 0]) (by simp [results, Tryd.results40, go_sem, g0, g1, g2, g3, g4, g5, g6, g7, g8, g9]) rfl ⟨a', c', rfl, O5, L5⟩

/-- a branch on top of another -/
structure Top (w V : World) (b : Br) : Prop where
  at_ : BrAt V (w.heap.size + 1) b (.slice none 0 0)
  bel : Below w.heap.size w V
theorem Top.new (w : World) (br : Br) (va : Value) (b : Br) : Top w ((w.alloc (BrO br va)).alloc (BrO b (.slice none 0 0))) b :=
  ⟨BrAt.behind w _ _ _, bel2 (one_new _ _) (one_new _ _)⟩
theorem Top.of {w V : World} {br : Br} {va : Value} (h : Box2 w V br va) (b : Br) : Top w (setBr V (w.heap.size + 1) b (.slice none 0 0)) b :=
  ⟨h.two.stored b _, Below.setBr h.bel (by omega) _ _⟩

set_option maxHeartbeats 2000000 in
theorem taken_dir {br : Br} {a : Option Addr} {n cc : Nat} (hk : br.kind = 2) (w : World) :
    Calls Tryd.prog 40 #[TP b, BrV br (.slice a n cc)] w fun e w' => e = .returned (.tuple #[BrV dirB (.slice none 0 0), .int .i64 0]) ∧ Below w.heap.size w w' := by
  have e1 : (br.kind == 1) = false := by simp [hk]
  have e2 : (br.kind == 2) = true := by simp [hk]
  clear hk
  have X := Lib.hid (Top.new w br (.slice a n cc) dirB)
  go_enter Tryd.func40, Tryd.ntmps40
  go_wp2
  refine (show bodyPost _ _ _ _ _ ((w.alloc (BrO br (.slice a n cc))).alloc (BrO dirB (.slice none 0 0))) from ?_)
  generalize (w.alloc (BrO br (.slice a n cc))).alloc (BrO dirB (.slice none 0 0)) = V at X ⊢
  obtain ⟨g0, g1, g2, g3, g4, g5, g6, g7, g8, g9⟩ := X.out.at_.cell
  exact bodyPost_ret (v := .tuple #[BrV dirB (.slice none 0 0), .int .i64 0]) (by simp [results, Tryd.results40, go_sem, g0, g1, g2, g3, g4, g5, g6, g7, g8, g9]) rfl ⟨rfl, X.out.bel⟩

set_option maxHeartbeats 2000000 in
theorem taken_kind {br : Br} {a : Option Addr} {n cc : Nat} (h1 : ¬ br.kind = 1) (h2 : ¬ br.kind = 2) (h3 : ¬ br.kind = 3) (w : World) :
    Calls Tryd.prog 40 #[TP b, BrV br (.slice a n cc)] w fun e w' => e = .returned (.tuple #[BrV noBr (.slice none 0 0), .int .i64 15]) ∧ Below w.heap.size w w' := by
  have e1 : (br.kind == 1) = false := by simpa using h1
  have e2 : (br.kind == 2) = false := by simpa using h2
  have e3 : (br.kind == 3) = false := by simpa using h3
  clear h1 h2 h3
  have X := Lib.hid (Top.new w br (.slice a n cc) noBr)
  go_enter Tryd.func40, Tryd.ntmps40
  go_wp2
  refine (show bodyPost _ _ _ _ _ ((w.alloc (BrO br (.slice a n cc))).alloc (BrO noBr (.slice none 0 0))) from ?_)
  generalize (w.alloc (BrO br (.slice a n cc))).alloc (BrO noBr (.slice none 0 0)) = V at X ⊢
  obtain ⟨g0, g1, g2, g3, g4, g5, g6, g7, g8, g9⟩ := X.out.at_.cell
  exact bodyPost_ret (v := .tuple #[BrV noBr (.slice none 0 0), .int .i64 15]) (by simp [results, Tryd.results40, go_sem, g0, g1, g2, g3, g4, g5, g6, g7, g8, g9]) rfl ⟨rfl, X.out.bel⟩

set_option maxHeartbeats 2000000 in
theorem taken_low {br : Br} {a : Option Addr} {n cc : Nat} (h1 : br.kind = 1) (h2 : br.uid < 1) (w : World) :
    Calls Tryd.prog 40 #[TP b, BrV br (.slice a n cc)] w fun e w' => e = .returned (.tuple #[BrV noBr (.slice none 0 0), .int .i64 1]) ∧ Below w.heap.size w w' := by
  have e1 : (br.kind == 1) = true := by simpa using h1
  have e2 : decide (br.uid < 1) = true := by simpa using h2
  clear h1 h2
  have X := Lib.hid (Top.new w br (.slice a n cc) noBr)
  go_enter Tryd.func40, Tryd.ntmps40
  go_wp2
  refine (show bodyPost _ _ _ _ _ ((w.alloc (BrO br (.slice a n cc))).alloc (BrO noBr (.slice none 0 0))) from ?_)
  generalize (w.alloc (BrO br (.slice a n cc))).alloc (BrO noBr (.slice none 0 0)) = V at X ⊢
  obtain ⟨g0, g1, g2, g3, g4, g5, g6, g7, g8, g9⟩ := X.out.at_.cell
  exact bodyPost_ret (v := .tuple #[BrV noBr (.slice none 0 0), .int .i64 1]) (by simp [results, Tryd.results40, go_sem, g0, g1, g2, g3, g4, g5, g6, g7, g8, g9]) rfl ⟨rfl, X.out.bel⟩

end

end Go.Proofs.YtpcdcmoapenbdaaDoor.T
