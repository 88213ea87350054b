/-
  The law SdwRings answers true: ring by ring: what may be read, written, executed, called at each, for whatever access. No condition.
-/
import Derived.Test.YtknfiepbibaklaaDoorCards
import Derived.Test.YtknfiepbibaklaaDoorTie
import Derived.Test.YtknfiepbibaklaaDoorDRingsWalk
import Derived.WalkKit
import Derived.ProofKit
import Derived.OpenShut
import Derived.ShutString
import Derived.SliceStrings
import Derived.ChangeOld
import Derived.Below
import Derived.Lib.SmallJoins
import Derived.Deep.DeepHandedRow
import Derived.Lay
import Derived.SevenTiedAt
import Derived.Stop.Joined
namespace Go.Proofs.YtknfiepbibaklaaDoor.sdwRings
open Go.ChangeShapes Go.WideShapes Go.ChangeAt Go.RowKit
open Go.ChangeMaps (open_string shut_string)
set_option linter.unusedVariables false

theorem own : ownKnob Tryd.prog.godebug = none := by kernel_rfl
theorem laidOut : laidOutB Tryd.prog = true := by kernel_rfl

set_option maxRecDepth 100000 in
theorem contract (H : Type) (enc : TypeId × Value → H) (X : World) (base : Nat) (args : Array Value) (ds gs : List (DataW H)) (before : List MemPlace)
    (hval : ∀ (j : Nat) t v, Tryd.f6.params[j]? = some t → args[j]? = some v → Value.okWide Tryd.prog X .any base t v)
    (hW : DataW.Whole enc Tryd.prog Tryd.f6.params.toList Rows.sdwRingsSpec.vars false X args.toList ds gs before) (hsh : X.ShapedOpen Tryd.prog) :
    Calls Tryd.prog 6 args X fun e X' => ∃ v, e = .returned v ∧ Rows.sdwRingsSpec.post enc Tryd.prog Tryd.f6 false true false false X args v X' := by
  have hW' := hW
  obtain ⟨p, q, hA0, hV, rfl, hfz, hnd⟩ := hW
  have hA : DataW.TrodAll enc Tryd.prog X 0 (fun _ => true) true Tryd.f6.params.toList args.toList ds p := hA0
  rw [Tryd.params6] at hA hval
  obtain ⟨v0, vs0, d0, ds0, p0, q0, hargs, rfl, rfl, h0, r0⟩ := trodAll_cons hA
  obtain ⟨v1, vs1, d1, ds1, p1, q1, rfl, rfl, rfl, h1, r1⟩ := trodAll_cons r0
  obtain ⟨v2, vs2, d2, ds2, p2, q2, rfl, rfl, rfl, h2, r2⟩ := trodAll_cons r1
  obtain ⟨rfl, rfl, rfl⟩ := trodAll_nil r2
  obtain rfl : args = #[v0, v1, v2] := by cases args; simp_all
  obtain ⟨rfl, rfl⟩ := trodVars_none hV
  have k0 := h0
  have lt0 : ∀ x ∈ p0, x.block < X.heap.size := by obtain ⟨m, hm⟩ := k0; exact DataW.trod_lt m _ _ _ hm
  have k1 := h1
  have lt1 : ∀ x ∈ p1, x.block < X.heap.size := by obtain ⟨m, hm⟩ := k1; exact DataW.trod_lt m _ _ _ hm
  have k2 := h2
  have lt2 : ∀ x ∈ p2, x.block < X.heap.size := by obtain ⟨m, hm⟩ := k2; exact DataW.trod_lt m _ _ _ hm
  obtain ⟨v0x0, v0x1, v0x2, y0x0, y0x1, y0x2, n0, rfl, rfl, rfl, g0x0, g0x1, g0x2⟩ := Go.Joins.open_agg3 Tryd.underlying39 (by kernel_rfl) (by kernel_rfl) (hval 0 39 v0 rfl rfl) h0
  obtain ⟨a0x0, c0x0, rfl⟩ := DataW.trod_bool Tryd.underlying4 g0x0
  obtain rfl := (List.cons.inj c0x0).1
  clear c0x0
  obtain ⟨a0x1, c0x1, rfl⟩ := DataW.trod_bool Tryd.underlying4 g0x1
  obtain rfl := (List.cons.inj c0x1).1
  clear c0x1
  obtain ⟨a0x2, c0x2, rfl⟩ := DataW.trod_bool Tryd.underlying4 g0x2
  obtain rfl := (List.cons.inj c0x2).1
  clear c0x2
  obtain ⟨v1x0, v1x1, v1x2, v1x3, y1x0, y1x1, y1x2, y1x3, n1, rfl, rfl, rfl, g1x0, g1x1, g1x2, g1x3⟩ := Go.Joins.open_agg4 Tryd.underlying24 (by kernel_rfl) (by kernel_rfl) (hval 1 24 v1 rfl rfl) h1
  obtain ⟨a1x0, c1x0, rfl, w1x0⟩ := DataW.trod_int Tryd.underlying3 g1x0
  obtain rfl := (List.cons.inj c1x0).1
  clear c1x0
  obtain ⟨a1x1, c1x1, rfl, w1x1⟩ := DataW.trod_int Tryd.underlying3 g1x1
  obtain rfl := (List.cons.inj c1x1).1
  clear c1x1
  obtain ⟨a1x2, c1x2, rfl, w1x2⟩ := DataW.trod_int Tryd.underlying3 g1x2
  obtain rfl := (List.cons.inj c1x2).1
  clear c1x2
  obtain ⟨a1x3, c1x3, rfl, w1x3⟩ := DataW.trod_int Tryd.underlying3 g1x3
  obtain rfl := (List.cons.inj c1x3).1
  clear c1x3
  obtain ⟨a2, rfl, rfl, rfl, w2⟩ := open_int Tryd.underlying5 (hval 2 5 v2 rfl rfl) h2
  obtain ⟨n2', rfl⟩ := Int.eq_ofNat_of_zero_le (bounds_u8 w2).1
  clear hA0
  refine (D.rings_walk a0x0 a0x1 a0x2 a1x0 a1x1 a1x2 a1x3 n2' (by have := (bounds_u8 w2).2; omega) X).mono fun e X' ⟨he, bel⟩ => ?_
  subst he
  exact ⟨_, rfl, _, _, _, [], _, [], hW', trodAll_mk1 (shut_bool Tryd.underlying4 _), (trodAll_cons_mk (Below.trod laidOut (by kernel_rfl) (of_decide_eq_true (by kernel_rfl)) k0 bel lt0) (trodAll_cons_mk (Below.trod laidOut (by kernel_rfl) (of_decide_eq_true (by kernel_rfl)) k1 bel lt1) (trodAll_cons_mk (Below.trod laidOut (by kernel_rfl) (of_decide_eq_true (by kernel_rfl)) k2 bel lt2) trodAll_mk0))), rfl, bel.frame _, fun h => by cases h⟩

theorem met (os : Os) : laidMetH Tryd.prog Rows.sdwRingsRow.laid ((World.laidAll Tryd.prog os Rows.sdwRingsRow.laid).forCall (fun _ _ => 0) ⟨#[], #[.agg #[.bool false, .bool false, .bool false], .agg #[.int .i64 0, .int .i64 0, .int .i64 0, .int .i64 0], .int .u8 0], []⟩).memory := by
  rw [MakeChecks.laidMetH_plain _ _ _ (by kernel_rfl)]
  exact laidMet_laidAll _ (by kernel_rfl) (by kernel_rfl)
theorem reads (os : Os) {H : Type} (enc : TypeId × Value → H) : ∃ places, DataW.whole enc Tryd.prog ((World.laidAll Tryd.prog os Rows.sdwRingsRow.laid).forCall (fun _ _ => 0) ⟨#[], #[.agg #[.bool false, .bool false, .bool false], .agg #[.int .i64 0, .int .i64 0, .int .i64 0, .int .i64 0], .int .u8 0], []⟩).memory Tryd.f6.params.toList Rows.sdwRingsSpec.vars false (#[.agg #[.bool false, .bool false, .bool false], .agg #[.int .i64 0, .int .i64 0, .int .i64 0, .int .i64 0], .int .u8 0] : Array Value).toList 8 = some ([.agg [.lit (.bool false), .lit (.bool false), .lit (.bool false)], .agg [.lit (.int .i64 0), .lit (.int .i64 0), .lit (.int .i64 0), .lit (.int .i64 0)], .lit (.int .u8 0)], [], places) :=
  ⟨[], by kernel_rfl⟩

set_option maxRecDepth 100000 in
theorem lifted (os : Os) (started : os.Started) (H : Type) (enc : TypeId × Value → H) (F : Stop.Interp) :
    ReturnsInHanded {} Tryd.checked os 6 .any ((OpenSpec.ofChange Rows.sdwRingsSpec).preRow enc Tryd.prog Tryd.f6 Rows.sdwRingsRow.domain false Rows.sdwRingsRow.laid) (((OpenSpec.ofChange Rows.sdwRingsSpec).at F).post enc Tryd.prog Tryd.f6 false true false false) := by
  obtain ⟨places, hx⟩ := reads os enc
  refine returnsInHanded_of_row (C := Tryd.checked) (s := OpenSpec.ofChange Rows.sdwRingsSpec) own started (by kernel_rfl) Tryd.func6
    (witness_row_at (enc := enc) (C := Tryd.checked) false (World.laidAll Tryd.prog os Rows.sdwRingsRow.laid) #[.agg #[.bool false, .bool false, .bool false], .agg #[.int .i64 0, .int .i64 0, .int .i64 0, .int .i64 0], .int .u8 0] (World.laidAll_os _ _ _) (by kernel_rfl) (by kernel_rfl) (by kernel_rfl)
      (OpenSpec.preRow_of_cond 8 hx (by kernel_rfl) (fun k hk => by cases hk) (by kernel_rfl) (met os))) ?_
  intro X base args ds gs before hval hW _ hcond _ _ hsh _
  exact contract H enc X base args ds gs before hval hW hsh

theorem over : Rows.SdwRingsSaid :=
  OpenClaim.holds_of_cond 6 Tryd.f6 rfl rfl rfl rfl rfl rfl rfl ⟨rfl, rfl, rfl, rfl, rfl⟩ rfl rfl rfl rfl rfl (by kernel_rfl) Tryd.func6 (by kernel_rfl)
    (of_decide_eq_true (by kernel_rfl)) (by unfold Func.isWrapper; first | (rw [if_pos (by decide +kernel)]; kernel_rfl) | (rw [if_neg (by decide +kernel)]; exact ⟨rfl, rfl⟩))
    (fun os started H enc _ F => by rw [OpenClaim.pre_eq_preRow]; exact lifted os started H enc F)

theorem plain (f : FuncId) (fn : Func) (hf : Tryd.pinned.checked.prog.funcNamed Rows.sdwRingsRow.func = some f) (hfn : Tryd.pinned.checked.prog.funcs[f]? = some fn) :
    false = Tryd.pinned.checked.prog.looks [] ∧ ∀ (j : Nat) t, fn.params[j]? = some t → Tryd.pinned.checked.prog.wantsStandIn t = false := by
  obtain rfl : f = 6 := Option.some.inj ((show Tryd.prog.funcNamed Rows.sdwRingsRow.func = some 6 by kernel_rfl).symm.trans hf) |>.symm
  obtain rfl : fn = Tryd.f6 := (Option.some.inj (Tryd.func6.symm.trans hfn)).symm
  refine ⟨by kernel_rfl, fun j t ht => ?_⟩
  rw [Tryd.params6] at ht
  have hm : t ∈ [39, 24, 5] := by have := Array.mem_of_getElem? ht; simp at this; simp [this]
  have hall : ([39, 24, 5].all fun u => !Tryd.prog.wantsStandIn u) = true := by kernel_rfl
  have := List.all_eq_true.1 hall t hm
  have e : (!Tryd.prog.wantsStandIn t) = true := this
  show Tryd.prog.wantsStandIn t = false
  revert e
  cases Tryd.prog.wantsStandIn t <;> simp

/-- the given statement -/
theorem proved : Rows.SdwRingsCardSaid :=
  Claim7.holds_tied_plain_at .later [] _ _ _ _ over (fun _ h => by cases h) (by kernel_rfl) (fun _ h => by cases h) sdwRings_row_tie rfl ⟨rfl, rfl⟩ (by kernel_rfl) rfl plain (by kernel_rfl)
#print axioms proved
end Go.Proofs.YtknfiepbibaklaaDoor.sdwRings
