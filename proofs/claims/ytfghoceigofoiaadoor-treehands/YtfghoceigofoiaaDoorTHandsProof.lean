/-
  TreeHands answers true at every input: what is handed in and out may be changed by who has it, and the hierarchy hears nothing of it. No condition.
-/
import Derived.Test.YtfghoceigofoiaaDoorCards
import Derived.Test.YtfghoceigofoiaaDoorTie
import Derived.Test.YtfghoceigofoiaaDoorTHandsWalk
import Derived.WalkKit
import Derived.ProofKit
import Derived.OpenShut
import Derived.ShutString
import Derived.SliceStrings
import Derived.ChangeOld
import Derived.Below
import Derived.Lib.SmallJoins
import Derived.Deep.DeepHandedRow
import Derived.Lay
import Derived.SevenTiedAt
import Derived.Stop.Joined
namespace Go.Proofs.YtfghoceigofoiaaDoor.treeHands
open Go.ChangeShapes Go.WideShapes Go.ChangeAt Go.RowKit
open Go.ChangeMaps (open_string shut_string)
set_option linter.unusedVariables false

theorem own : ownKnob Tryd.prog.godebug = none := by kernel_rfl
theorem laidOut : laidOutB Tryd.prog = true := by kernel_rfl

set_option maxRecDepth 100000 in
theorem contract (H : Type) (enc : TypeId × Value → H) (X : World) (base : Nat) (args : Array Value) (ds gs : List (DataW H)) (before : List MemPlace)
    (hval : ∀ (j : Nat) t v, Tryd.f6.params[j]? = some t → args[j]? = some v → Value.okWide Tryd.prog X .any base t v)
    (hW : DataW.Whole enc Tryd.prog Tryd.f6.params.toList Rows.treeHandsSpec.vars false X args.toList ds gs before) (hsh : X.ShapedOpen Tryd.prog) :
    Calls Tryd.prog 6 args X fun e X' => ∃ v, e = .returned v ∧ Rows.treeHandsSpec.post enc Tryd.prog Tryd.f6 false true false false X args v X' := by
  have hW' := hW
  obtain ⟨p, q, hA0, hV, rfl, hfz, hnd⟩ := hW
  have hA : DataW.TrodAll enc Tryd.prog X 0 (fun _ => true) true Tryd.f6.params.toList args.toList ds p := hA0
  rw [Tryd.params6] at hA hval
  obtain ⟨v0, vs0, d0, ds0, p0, q0, hargs, rfl, rfl, h0, r0⟩ := trodAll_cons hA
  obtain ⟨rfl, rfl, rfl⟩ := trodAll_nil r0
  obtain rfl : args = #[v0] := by cases args; simp_all
  obtain ⟨rfl, rfl⟩ := trodVars_none hV
  have k0 := h0
  have lt0 : ∀ x ∈ p0, x.block < X.heap.size := by obtain ⟨m, hm⟩ := k0; exact DataW.trod_lt m _ _ _ hm
  obtain ⟨v0x0, v0x1, v0x2, y0x0, y0x1, y0x2, n0, rfl, rfl, rfl, g0x0, g0x1, g0x2⟩ := Go.Joins.open_agg3 Tryd.underlying48 (by kernel_rfl) (by kernel_rfl) (hval 0 48 v0 rfl rfl) h0
  obtain ⟨a0x0, c0x0, rfl⟩ := DataW.trod_bool Tryd.underlying4 g0x0
  obtain rfl := (List.cons.inj c0x0).1
  clear c0x0
  obtain ⟨a0x1, c0x1, rfl⟩ := DataW.trod_bool Tryd.underlying4 g0x1
  obtain rfl := (List.cons.inj c0x1).1
  clear c0x1
  obtain ⟨a0x2, c0x2, rfl⟩ := DataW.trod_bool Tryd.underlying4 g0x2
  obtain rfl := (List.cons.inj c0x2).1
  clear c0x2
  clear hA0
  refine (T.hands_walk (a0x0, a0x1, a0x2) X).mono fun e X' ⟨he, bel⟩ => ?_
  subst he
  exact ⟨_, rfl, _, _, _, [], _, [], hW', trodAll_mk1 (shut_bool Tryd.underlying4 _), (trodAll_cons_mk (Below.trod laidOut (by kernel_rfl) (of_decide_eq_true (by kernel_rfl)) k0 bel lt0) trodAll_mk0), rfl, bel.frame _, fun h => by cases h⟩

theorem met (os : Os) : laidMetH Tryd.prog Rows.treeHandsRow.laid ((World.laidAll Tryd.prog os Rows.treeHandsRow.laid).forCall (fun _ _ => 0) ⟨#[], #[.agg #[.bool false, .bool false, .bool false]], []⟩).memory := by
  rw [MakeChecks.laidMetH_plain _ _ _ (by kernel_rfl)]
  exact laidMet_laidAll _ (by kernel_rfl) (by kernel_rfl)
theorem reads (os : Os) {H : Type} (enc : TypeId × Value → H) : ∃ places, DataW.whole enc Tryd.prog ((World.laidAll Tryd.prog os Rows.treeHandsRow.laid).forCall (fun _ _ => 0) ⟨#[], #[.agg #[.bool false, .bool false, .bool false]], []⟩).memory Tryd.f6.params.toList Rows.treeHandsSpec.vars false (#[.agg #[.bool false, .bool false, .bool false]] : Array Value).toList 8 = some ([.agg [.lit (.bool false), .lit (.bool false), .lit (.bool false)]], [], places) :=
  ⟨[], by kernel_rfl⟩

set_option maxRecDepth 100000 in
theorem lifted (os : Os) (started : os.Started) (H : Type) (enc : TypeId × Value → H) (F : Stop.Interp) :
    ReturnsInHanded {} Tryd.checked os 6 .any ((OpenSpec.ofChange Rows.treeHandsSpec).preRow enc Tryd.prog Tryd.f6 Rows.treeHandsRow.domain false Rows.treeHandsRow.laid) (((OpenSpec.ofChange Rows.treeHandsSpec).at F).post enc Tryd.prog Tryd.f6 false true false false) := by
  obtain ⟨places, hx⟩ := reads os enc
  refine returnsInHanded_of_row (C := Tryd.checked) (s := OpenSpec.ofChange Rows.treeHandsSpec) own started (by kernel_rfl) Tryd.func6
    (witness_row_at (enc := enc) (C := Tryd.checked) false (World.laidAll Tryd.prog os Rows.treeHandsRow.laid) #[.agg #[.bool false, .bool false, .bool false]] (World.laidAll_os _ _ _) (by kernel_rfl) (by kernel_rfl) (by kernel_rfl)
      (OpenSpec.preRow_of_cond 8 hx (by kernel_rfl) (fun k hk => by cases hk) (by kernel_rfl) (met os))) ?_
  intro X base args ds gs before hval hW _ hcond _ _ hsh _
  exact contract H enc X base args ds gs before hval hW hsh

theorem over : Rows.TreeHandsSaid :=
  OpenClaim.holds_of_cond 6 Tryd.f6 rfl rfl rfl rfl rfl rfl rfl ⟨rfl, rfl, rfl, rfl, rfl⟩ rfl rfl rfl rfl rfl (by kernel_rfl) Tryd.func6 (by kernel_rfl)
    (of_decide_eq_true (by kernel_rfl)) (by unfold Func.isWrapper; first | (rw [if_pos (by decide +kernel)]; kernel_rfl) | (rw [if_neg (by decide +kernel)]; exact ⟨rfl, rfl⟩))
    (fun os started H enc _ F => by rw [OpenClaim.pre_eq_preRow]; exact lifted os started H enc F)

theorem plain (f : FuncId) (fn : Func) (hf : Tryd.pinned.checked.prog.funcNamed Rows.treeHandsRow.func = some f) (hfn : Tryd.pinned.checked.prog.funcs[f]? = some fn) :
    false = Tryd.pinned.checked.prog.looks [] ∧ ∀ (j : Nat) t, fn.params[j]? = some t → Tryd.pinned.checked.prog.wantsStandIn t = false := by
  obtain rfl : f = 6 := Option.some.inj ((show Tryd.prog.funcNamed Rows.treeHandsRow.func = some 6 by kernel_rfl).symm.trans hf) |>.symm
  obtain rfl : fn = Tryd.f6 := (Option.some.inj (Tryd.func6.symm.trans hfn)).symm
  refine ⟨by kernel_rfl, fun j t ht => ?_⟩
  rw [Tryd.params6] at ht
  have hm : t ∈ [48] := by have := Array.mem_of_getElem? ht; simp at this; simp [this]
  have hall : ([48].all fun u => !Tryd.prog.wantsStandIn u) = true := by kernel_rfl
  have := List.all_eq_true.1 hall t hm
  have e : (!Tryd.prog.wantsStandIn t) = true := this
  show Tryd.prog.wantsStandIn t = false
  revert e
  cases Tryd.prog.wantsStandIn t <;> simp

/-- the given statement -/
theorem proved : Rows.TreeHandsCardSaid :=
  Claim7.holds_tied_plain_at .later [] _ _ _ _ over (fun _ h => by cases h) (by kernel_rfl) (fun _ h => by cases h) treeHands_row_tie rfl ⟨rfl, rfl⟩ (by kernel_rfl) rfl plain (by kernel_rfl)
#print axioms proved
end Go.Proofs.YtfghoceigofoiaaDoor.treeHands
