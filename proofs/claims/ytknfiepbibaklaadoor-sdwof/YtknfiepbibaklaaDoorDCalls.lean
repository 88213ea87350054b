/-
  What a branch lets a user do (flags), and a descriptor made of a tree and a store (Of), by its ways: there, not in the tree, not in the store, no tree.
-/
import Derived.Test.YtknfiepbibaklaaDoorDAsk
import Derived.Test.YtknfiepbibaklaaDoorTAccess
import Derived.Test.YtknfiepbibaklaaDoorSSteps
import Derived.Test.YtknfiepbibaklaaDoorARefFind
namespace Go.Proofs.YtknfiepbibaklaaDoor.D
open Go.ChangeShapes Go.WideShapes Go.ChangeAt Go.RowKit
open Go.Proofs.YtknfiepbibaklaaDoor.N (bs bs_data bs_size bs_inj)
open Go.Proofs.YtknfiepbibaklaaDoor.A (Tm Fl TRow findR noFl)
open Go.Proofs.YtknfiepbibaklaaDoor.W (BV acc bmay cto cer inr one_new retI StoreAt SP)
open Go.Proofs.YtknfiepbibaklaaDoor.T (Br Nd St TreeAt TP BrV BrO BrAt noBr Txt rng)

/-- what a branch lets a user do: of an object no writing -/
def flg (obj : Bool) (l : List Tm) (u : Txt) : Fl := ((findR l u).1, (findR l u).2.1 && !obj, (findR l u).2.2)

theorem fl_put {W : World} {b : Nat} {f : Fl} (h : A.FlAt W b f) (x : Bool) : A.FlAt (W.setCell ⟨b, 1, none⟩ (.bool x)) b (f.1, x, f.2.2) := by
  unfold A.FlAt at h ⊢
  simp [World.setCell, Array.getElem?_modify, h]

theorem fl_ret {w w1 : World} {f0 : Fl} {f1 x f3 : Bool} {a : Act} (h : A.FlAt w1 (w.heap.size + 1) f0) (L : Below w.heap.size w w1) (ha : a.tmps[4]? = some (.pointer (some ⟨w.heap.size + 1, 0, none⟩))) (hd : a.defers = []) :
    bodyPost Tryd.prog Tryd.f34 (fun e w' => e = .returned (A.FV (f1, x, f3)) ∧ Below w.heap.size w w') .ret a ((((w1.setCell ⟨w.heap.size + 1, 0, none⟩ (.bool f1)).setCell ⟨w.heap.size + 1, 1, none⟩ (.bool x)).setCell ⟨w.heap.size + 1, 2, none⟩ (.bool f3)).alloc (.cells #[.bool f1, .bool x, .bool f3] 39)) := by
  obtain ⟨_, k1, k2, k3, _⟩ := ((h.put (f1, x, f3)).below (one_new _ (A.FO (f1, x, f3)))).facts
  exact bodyPost_ret (v := A.FV (f1, x, f3)) (by simp [results, Tryd.results34, go_sem, ha, k1, k2, k3]) hd ⟨rfl, (A.wrote L (Nat.le_succ _) _ _ _).alloc (by simpa using L.size) _⟩

set_option maxHeartbeats 2000000 in
theorem flags_any (br : Br) (a : Option Addr) (cc : Nat) (u : Txt) (w : World) (hr : TRow w a cc br.acl) (hl : ∀ t ∈ br.acl, t.1.length ≤ maxLen) :
    Calls Tryd.prog 34 #[BrV br (.slice a br.acl.length cc), .string (bs u)] w fun e w' => e = .returned (A.FV (flg br.obj br.acl u)) ∧ Below w.heap.size w w' := by
  have B0 := Lib.hid ((BrAt.new w br (.slice a br.acl.length cc)).alloc (A.FO noFl))
  have F0 : Hid (A.FlAt ((w.alloc (BrO br (.slice a br.acl.length cc))).alloc (A.FO noFl)) (w.heap.size + 1) noFl) := Lib.hid (by simpa using A.FlAt.new (w.alloc (BrO br (.slice a br.acl.length cc))) noFl)
  have L0 := Lib.hid (bel2 (one_new w (BrO br (.slice a br.acl.length cc))) (one_new _ (A.FO noFl)))
  have HR := Lib.hid ((hr.alloc (BrO br (.slice a br.acl.length cc))).alloc (A.FO noFl))
  have HL := Lib.hid hl
  obtain ⟨q0, q1, q2, q3, q4, q5, q6, q7, q8, q9⟩ := B0.out.cell
  clear hr hl
  generalize hf : findR br.acl u = f at *
  have hfl : flg br.obj br.acl u = (f.1, f.2.1 && !br.obj, f.2.2) := by unfold flg; rw [hf]
  rw [hfl]
  have HF := Lib.hid hf
  clear hf hfl
  obtain ⟨f1, f2, f3⟩ := f
  have h01 : Hid (∀ w1, Below ((w.alloc (BrO br (.slice a br.acl.length cc))).alloc (A.FO noFl)).heap.size ((w.alloc (BrO br (.slice a br.acl.length cc))).alloc (A.FO noFl)) w1 → w.heap.size < w1.heap.size ∧ w.heap.size + 1 < w1.heap.size) := Lib.hid (fun w1 h => by have := h.size; simp at this; omega)
  cases f2
  all_goals
    go_enter Tryd.func34, Tryd.ntmps34
    go_wp2_with (go_at_call 52; refine (A.find_any a cc br.acl u _ HR.out HL.out).mono ?_; rw [HF.out]; rintro e w1 ⟨rfl, h1⟩; obtain ⟨s1, s2⟩ := h01.out w1 h1; obtain ⟨_, _, _, _, p4, _⟩ := (B0.out.below h1).cell; have F1 := Lib.hid (F0.out.below h1); obtain ⟨k0, k1, k2, k3, k4, k5, k6⟩ := F1.out.facts; have L1 := Lib.hid (bel2 L0.out h1); clear h1)
    first
      | exact fl_ret F1.out L1.out rfl rfl
      | exact fl_ret (x := !br.obj) F1.out L1.out rfl rfl
      | fail

/-- a block that is a descriptor -/
def SdB (W : World) (b : Nat) (x : Sd) : Prop := W.heap[b]? = some (SdO x)
@[reducible] def setSd (w : World) (k : Nat) (x : Sd) : World :=
  ((((((((w.setCell ⟨k, 0, none⟩ (.int .i64 x.uid)).setCell ⟨k, 1, none⟩ (.int .i64 x.size)).setCell ⟨k, 2, none⟩ (.bool x.fr)).setCell ⟨k, 3, none⟩ (.bool x.fw)).setCell ⟨k, 4, none⟩ (.bool x.fe)).setCell ⟨k, 5, none⟩ (.int .i64 x.r1)).setCell ⟨k, 6, none⟩ (.int .i64 x.r2)).setCell ⟨k, 7, none⟩ (.int .i64 x.r3)).setCell ⟨k, 8, none⟩ (.int .i64 x.gt)
theorem SdB.lt {w : World} {k : Nat} {x : Sd} (h : SdB w k x) : k < w.heap.size := (Array.getElem?_eq_some_iff.1 h).1
theorem SdB.new (w : World) (x : Sd) : SdB (w.alloc (SdO x)) w.heap.size x := heap_alloc_new w _
theorem SdB.below {w v : World} {k : Nat} {x : Sd} (h : SdB w k x) (hb : Below w.heap.size w v) : SdB v k x := (hb.block k h.lt).trans h
theorem SdB.at_ {w : World} {k : Nat} {x : Sd} (h : SdB w k x) : SdAt w k x := by
  have e : w.heap[k]? = some (SdO x) := h
  refine ⟨h.lt, ?_⟩
  simp [World.cell?, e]
theorem SdB.fz {w : World} {k : Nat} {x : Sd} (h : SdB w k x) (i : Nat) : w.frozen? ⟨k, i, none⟩ = false := by
  have e : w.heap[k]? = some (SdO x) := h
  simp [World.frozen?, e]
theorem SdB.stored {w : World} {k : Nat} {x0 : Sd} (h : SdB w k x0) (x : Sd) : SdB (setSd w k x) k x := by
  unfold SdB at h ⊢
  have h1 := T.head_set h 0 (.int .i64 x.uid)
  have h2 := T.head_set h1 1 (.int .i64 x.size)
  have h3 := T.head_set h2 2 (.bool x.fr)
  have h4 := T.head_set h3 3 (.bool x.fw)
  have h5 := T.head_set h4 4 (.bool x.fe)
  have h6 := T.head_set h5 5 (.int .i64 x.r1)
  have h7 := T.head_set h6 6 (.int .i64 x.r2)
  have h8 := T.head_set h7 7 (.int .i64 x.r3)
  have h9 := T.head_set h8 8 (.int .i64 x.gt)
  exact h9.trans (by simp)
theorem below_setSd {B : Nat} {a w : World} (h : Below B a w) {k : Nat} (hk : B ≤ k) (x : Sd) : Below B a (setSd w k x) :=
  ((((((((h.setCell hk _).setCell hk _).setCell hk _).setCell hk _).setCell hk _).setCell hk _).setCell hk _).setCell hk _).setCell hk _
theorem br_setSd {w : World} {k j : Nat} {b : Br} {av : Value} (h : BrAt w k b av) (hj : k ≠ j) (x : Sd) : BrAt (setSd w j x) k b av :=
  ((((((((h.set hj).set hj).set hj).set hj).set hj).set hj).set hj).set hj).set hj

def sdz : Sd := ⟨0, 0, false, false, false, 0, 0, 0, 0⟩
/-- the descriptor of a branch, for a user -/
def sdOf (uid n : Int) (br : Br) (u : Txt) : Sd := ⟨uid, n, (flg br.obj br.acl u).1, (flg br.obj br.acl u).2.1, (flg br.obj br.acl u).2.2, br.r1, br.r2, br.r3, br.gt⟩

theorem bel_drew (w : World) : Below w.heap.size w w.drew := ⟨rfl, rfl, rfl, Nat.le_refl _, fun _ _ => rfl⟩
theorem row_is {base : Nat} {w : World} {a : Option Addr} {c : Nat} {l : List Tm} (h : A.Own base w (.slice a l.length c) l) : TRow w a c l := by
  obtain ⟨a', c', e, r⟩ := h.row
  cases e
  exact r

section
variable {w : World} {b s : Nat} {F G : Nat → Prop} {c k : Nat} {st : St} {q u l : Int} {S : Int → Option (List Int)}

set_option maxHeartbeats 4000000 in
theorem of_yes (ht : TreeAt w b F c st) (hs : StoreAt w s G q u l k S) {uid : Int} (hu : rng uid) {g : Nat} {x : Nd} (hG : st.G uid = some g) (hN : st.N g = some x) (hx : ∀ t ∈ x.br.acl, t.1.length ≤ maxLen) {ws : List Int} (hS : S uid = some ws) (usr : Txt) :
    Calls Tryd.prog 12 #[TP b, SP s, .int .i64 uid, .string (bs usr)] w fun e w' => e = .returned (.tuple #[SdV (sdOf uid ws.length x.br usr), .int .i64 0]) ∧ Below w.heap.size w w' := by
  have H := Lib.hid ht
  have HS := Lib.hid hs
  have HX := Lib.hid hx
  have HG := Lib.hid hG
  have HN := Lib.hid hN
  have HW := Lib.hid hS
  have hlen : Hid (rng ws.length) := Lib.hid (by obtain ⟨m, loc, h⟩ := hs; have := (h.rows uid ws hS).2.2.1; unfold rng; omega)
  have Z0 := Lib.hid (SdB.new w sdz)
  have L0 := Lib.hid (one_new w (SdO sdz))
  generalize hz : sdOf uid ws.length x.br usr = z
  have hz' := Lib.hid hz
  clear ht hs hx hG hN hS hz
  go_enter Tryd.func12, Tryd.ntmps12
  go_wp2_with (first
    | (go_at_call 32; refine (T.uid_yes (H.out.below L0.out) hu HG.out HN.out).mono ?_; rintro e w1 ⟨a', c', rfl, o1, b1⟩; have R1 := Lib.hid (row_is o1); have L1 := Lib.hid (bel2 L0.out b1); have Z1 := Lib.hid (Z0.out.below b1); clear o1 b1; have L2 := Lib.hid (bel2 L1.out (one_new w1 (BrO x.br (.slice a' x.br.acl.length c')))))
    | (go_at_call 33; refine (W.size_at (HS.out.below L2.out) hu.1 hu.2 HW.out).mono ?_; rintro e w2 ⟨rfl, rfl⟩))
  have X2 := Lib.hid (BrAt.new w1 x.br (.slice a' x.br.acl.length c'))
  have Z2 := Lib.hid (Z1.out.below (one_new w1 (BrO x.br (.slice a' x.br.acl.length c'))))
  have R2 := Lib.hid (R1.out.alloc (BrO x.br (.slice a' x.br.acl.length c')))
  have ne := Lib.hid (show w1.heap.size ≠ w.heap.size by have := Z1.out.lt; omega)
  clear H HS L0 L1 R1 Z0 Z1
  generalize w1.alloc (BrO x.br (.slice a' x.br.acl.length c')) = V at *
  have X3 := Lib.hid (X2.out.below (bel_drew V))
  have Z3 := Lib.hid (Z2.out.below (bel_drew V))
  have R3 := Lib.hid (R2.out.below (bel_drew V))
  have L3 := Lib.hid (bel2 L2.out (bel_drew V))
  have k3 := Lib.hid X3.out.cell
  clear X2 Z2 R2 L2
  go_region_held3 (fun V => V.cell? ⟨w1.heap.size, 0, none⟩ = some (.int .i64 x.br.kind) ∧ V.cell? ⟨w1.heap.size, 1, none⟩ = some (.int .i64 x.br.uid) ∧ V.cell? ⟨w1.heap.size, 2, none⟩ = some (.int .i64 x.br.dir) ∧ V.cell? ⟨w1.heap.size, 3, none⟩ = some (.string (bs x.br.link)) ∧ V.cell? ⟨w1.heap.size, 4, none⟩ = some (.bool x.br.obj) ∧ V.cell? ⟨w1.heap.size, 5, none⟩ = some (.slice a' x.br.acl.length c') ∧ V.cell? ⟨w1.heap.size, 6, none⟩ = some (.int .i64 x.br.r1) ∧ V.cell? ⟨w1.heap.size, 7, none⟩ = some (.int .i64 x.br.r2) ∧ V.cell? ⟨w1.heap.size, 8, none⟩ = some (.int .i64 x.br.r3) ∧ V.cell? ⟨w1.heap.size, 9, none⟩ = some (.int .i64 x.br.gt))
    (first | (with_reducible exact k3.out) | (with_reducible exact k4.out) | exact k5.out)
    ((go_at_call 34; ((refine (flags_any x.br a' c' usr _ R3.out HX.out).mono ?_); rintro e w3 ⟨rfl, b3⟩; have X4 := Lib.hid (X3.out.below b3); have Z4 := Lib.hid (Z3.out.below b3); have f3 := Z4.out.fz; obtain ⟨l3, s0, s1, s2, s3, s4, s5, s6, s7, s8⟩ := Z4.out.at_; have L4 := Lib.hid (bel2 L3.out b3); have k4 := Lib.hid X4.out.cell; have k5 := Lib.hid (br_setSd X4.out ne.out (sdOf uid ws.length x.br usr)).cell; clear b3)))
  have Z5 := Z4.out.stored (sdOf uid ws.length x.br usr)
  have L5 := below_setSd L4.out (Nat.le_refl _) (sdOf uid ws.length x.br usr)
  clear k3 k4 k5 f3 l3 s0 s1 s2 s3 s4 s5 s6 s7 s8
  refine (show Exit.then _ _ _ _ (setSd w3 w.heap.size (sdOf uid ws.length x.br usr)) from ?_)
  rw [hz'.out] at Z5 L5 ⊢
  generalize setSd w3 w.heap.size z = W5 at Z5 L5 ⊢
  go_wp2
  obtain ⟨_, g1, g2, g3, g4, g5, g6, g7, g8, g9⟩ := Z5.at_
  exact bodyPost_ret (v := .tuple #[SdV z, .int .i64 0]) (by simp [results, Tryd.results12, go_sem, g1, g2, g3, g4, g5, g6, g7, g8, g9]) rfl ⟨rfl, L5⟩

theorem size_gone (hs : StoreAt w s G q u l k S) {uid : Int} (hu : rng uid) (hS : S uid = none) :
    Calls Tryd.prog 33 #[SP s, .int .i64 uid] w fun e w' => e = .returned (.tuple #[.int .i64 0, .int .i64 4]) ∧ w = w' := by
  obtain ⟨m, loc, h⟩ := hs
  exact W.size_no h hu.1 hu.2 hS

set_option maxHeartbeats 4000000 in
theorem of_none (ht : TreeAt w b F c st) {uid : Int} (hu : rng uid) (hG : st.G uid = none) (usr : Txt) :
    Calls Tryd.prog 12 #[TP b, SP s, .int .i64 uid, .string (bs usr)] w fun e w' => e = .returned (.tuple #[SdV sdz, .int .i64 4]) ∧ Below w.heap.size w w' := by
  have H := Lib.hid ht
  have HG := Lib.hid hG
  have Z0 := Lib.hid (SdB.new w sdz)
  have L0 := Lib.hid (one_new w (SdO sdz))
  clear ht hG
  go_enter Tryd.func12, Tryd.ntmps12
  go_wp2_with (go_at_call 32; refine (T.uid_no (H.out.below L0.out) hu HG.out).mono ?_; rintro e w1 ⟨rfl, b1⟩; have L1 := Lib.hid (bel2 L0.out b1); have Z1 := Lib.hid (Z0.out.below b1); clear b1; have Z2 := Lib.hid (Z1.out.below (one_new w1 (BrO noBr (.slice none 0 0)))); have L2 := Lib.hid (bel2 L1.out (one_new w1 (BrO noBr (.slice none 0 0)))); have f2 := Z1.out.fz; obtain ⟨l2, s0, s1, s2, s3, s4, s5, s6, s7, s8⟩ := Z1.out.at_)
  have Z5 := (Z1.out.stored sdz).below (one_new _ (BrO noBr (.slice none 0 0)))
  have L5 := (below_setSd L1.out (Nat.le_refl _) sdz).alloc (by simpa using L1.out.size) (BrO noBr (.slice none 0 0))
  refine (show bodyPost _ _ _ _ _ ((setSd w1 w.heap.size sdz).alloc (BrO noBr (.slice none 0 0))) from ?_)
  generalize (setSd w1 w.heap.size sdz).alloc (BrO noBr (.slice none 0 0)) = W5 at Z5 L5 ⊢
  obtain ⟨_, g1, g2, g3, g4, g5, g6, g7, g8, g9⟩ := Z5.at_
  exact bodyPost_ret (v := .tuple #[SdV sdz, .int .i64 4]) (by simp [results, Tryd.results12, go_sem, g1, g2, g3, g4, g5, g6, g7, g8, g9]) rfl ⟨rfl, L5⟩

set_option maxHeartbeats 4000000 in
theorem of_gone (ht : TreeAt w b F c st) (hs : StoreAt w s G q u l k S) {uid : Int} (hu : rng uid) {g : Nat} {x : Nd} (hG : st.G uid = some g) (hN : st.N g = some x) (hS : S uid = none) (usr : Txt) :
    Calls Tryd.prog 12 #[TP b, SP s, .int .i64 uid, .string (bs usr)] w fun e w' => e = .returned (.tuple #[SdV sdz, .int .i64 4]) ∧ Below w.heap.size w w' := by
  have H := Lib.hid ht
  have HS := Lib.hid hs
  have HG := Lib.hid hG
  have HN := Lib.hid hN
  have HW := Lib.hid hS
  have Z0 := Lib.hid (SdB.new w sdz)
  have L0 := Lib.hid (one_new w (SdO sdz))
  clear ht hs hG hN hS
  go_enter Tryd.func12, Tryd.ntmps12
  go_wp2_with (first
    | (go_at_call 32; refine (T.uid_yes (H.out.below L0.out) hu HG.out HN.out).mono ?_; rintro e w1 ⟨a', c', rfl, o1, b1⟩; have L1 := Lib.hid (bel2 L0.out b1); have Z1 := Lib.hid (Z0.out.below b1); clear o1 b1; have Z2 := Lib.hid (Z1.out.below (one_new w1 (BrO x.br (.slice a' x.br.acl.length c')))); have L2 := Lib.hid (bel2 L1.out (one_new w1 (BrO x.br (.slice a' x.br.acl.length c')))); have f2 := Z1.out.fz; obtain ⟨l2, s0, s1, s2, s3, s4, s5, s6, s7, s8⟩ := Z1.out.at_)
    | (go_at_call 33; refine (size_gone (HS.out.below L2.out) hu HW.out).mono ?_; rintro e w2 ⟨rfl, rfl⟩))
  have Z5 := (Z1.out.stored sdz).below (one_new _ (BrO x.br (.slice a' x.br.acl.length c')))
  have L5 := (below_setSd L1.out (Nat.le_refl _) sdz).alloc (by simpa using L1.out.size) (BrO x.br (.slice a' x.br.acl.length c'))
  refine (show bodyPost _ _ _ _ _ ((setSd w1 w.heap.size sdz).alloc (BrO x.br (.slice a' x.br.acl.length c'))) from ?_)
  generalize (setSd w1 w.heap.size sdz).alloc (BrO x.br (.slice a' x.br.acl.length c')) = W5 at Z5 L5 ⊢
  obtain ⟨_, g1, g2, g3, g4, g5, g6, g7, g8, g9⟩ := Z5.at_
  exact bodyPost_ret (v := .tuple #[SdV sdz, .int .i64 4]) (by simp [results, Tryd.results12, go_sem, g1, g2, g3, g4, g5, g6, g7, g8, g9]) rfl ⟨rfl, L5⟩

theorem of_nil (sv : Option Addr) (uid : Int) (usr : Txt) :
    Calls Tryd.prog 12 #[.pointer none, .pointer sv, .int .i64 uid, .string (bs usr)] w fun e w' => e = .returned (.tuple #[SdV sdz, .int .i64 1]) ∧ Below w.heap.size w w' := by
  have Z0 := Lib.hid (SdB.new w sdz)
  have L0 := Lib.hid (one_new w (SdO sdz))
  go_enter Tryd.func12, Tryd.ntmps12
  go_wp2
  refine (show bodyPost _ _ _ _ _ (w.alloc (SdO sdz)) from ?_)
  generalize w.alloc (SdO sdz) = W5 at Z0 L0 ⊢
  obtain ⟨_, g1, g2, g3, g4, g5, g6, g7, g8, g9⟩ := Z0.out.at_
  exact bodyPost_ret (v := .tuple #[SdV sdz, .int .i64 1]) (by simp [results, Tryd.results12, go_sem, g1, g2, g3, g4, g5, g6, g7, g8, g9]) rfl ⟨rfl, L0.out⟩

end

end Go.Proofs.YtknfiepbibaklaaDoor.D
