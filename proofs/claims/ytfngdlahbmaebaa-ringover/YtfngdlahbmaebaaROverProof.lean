/-
  The given statement RingOver: the walk of its function, within the frame of a law.
-/
import Derived.Test.YtfngdlahbmaebaaRows
import Derived.Test.YtfngdlahbmaebaaOpens
import Derived.Test.YtfngdlahbmaebaaROverWalk
import Derived.WalkKit
import Derived.ProofKit
import Derived.OpenShut
import Derived.ShutString
import Derived.ChangeOld
import Derived.Below
import Derived.Lib.SmallJoins
namespace Go.Proofs.Ytfngdlahbmaebaa.ringOver
open Go.ChangeShapes Go.WideShapes Go.ChangeAt Go.RowKit
open Go.ChangeMaps (open_string shut_string)
set_option linter.unusedVariables false

theorem own : ownKnob Try.prog.godebug = none := by kernel_rfl
theorem laidOut : laidOutB Try.prog = true := by kernel_rfl

set_option maxRecDepth 100000 in
theorem lifted (os : Os) (started : os.Started) (H : Type) (enc : TypeId × Value → H) :
    ReturnsInHanded {} Try.checked os 7 .any (Rows.ringOverSpec.pre6 enc Try.prog Try.f7 Rows.ringOverRow.domain false) (Rows.ringOverSpec.post enc Try.prog Try.f7 false true false false) := by
  refine returnsInHanded_of_change (C := Try.checked) own started (by kernel_rfl) Try.func7
    (ChangeSpec.witness6 (enc := enc) (C := Try.checked) false ⟨#[], #[.agg #[.int .i64 0, .int .i64 0, .int .i64 0, .int .i64 0], .agg #[.bool false, .bool false, .bool false], .agg #[.int .i64 0, .int .i64 0]], []⟩ 8 (by kernel_rfl) (by kernel_rfl) (by kernel_rfl) (by kernel_rfl)) ?_
  intro X base args ds gs before hval0 hW hcnd _
  have hval : ∀ (j : Nat) t v, Try.f7.params[j]? = some t → args[j]? = some v → Value.okWide Try.prog X .any base t v := hval0
  have hW' := hW
  obtain ⟨p, q, hA0, hV, rfl, hfz, hnd⟩ := hW
  have hA : DataW.TrodAll enc Try.prog X 0 (fun _ => true) true Try.f7.params.toList args.toList ds p := hA0
  rw [Try.params7] at hA hval
  obtain ⟨v0, vs0, d0, ds0, p0, q0, hargs, rfl, rfl, h0, r0⟩ := trodAll_cons hA
  obtain ⟨v1, vs1, d1, ds1, p1, q1, rfl, rfl, rfl, h1, r1⟩ := trodAll_cons r0
  obtain ⟨v2, vs2, d2, ds2, p2, q2, rfl, rfl, rfl, h2, r2⟩ := trodAll_cons r1
  obtain ⟨rfl, rfl, rfl⟩ := trodAll_nil r2
  obtain rfl : args = #[v0, v1, v2] := by cases args; simp_all
  obtain ⟨rfl, rfl⟩ := trodVars_none hV
  have k0 := h0
  have lt0 : ∀ x ∈ p0, x.block < X.heap.size := by obtain ⟨m, hm⟩ := k0; exact DataW.trod_lt m _ _ _ hm
  have k1 := h1
  have lt1 : ∀ x ∈ p1, x.block < X.heap.size := by obtain ⟨m, hm⟩ := k1; exact DataW.trod_lt m _ _ _ hm
  have k2 := h2
  have lt2 : ∀ x ∈ p2, x.block < X.heap.size := by obtain ⟨m, hm⟩ := k2; exact DataW.trod_lt m _ _ _ hm
  obtain ⟨v0x0, v0x1, v0x2, v0x3, y0x0, y0x1, y0x2, y0x3, n0, rfl, rfl, rfl, g0x0, g0x1, g0x2, g0x3⟩ := Go.Joins.open_agg4 Try.underlying23 (by kernel_rfl) (by kernel_rfl) (hval 0 23 v0 rfl rfl) h0
  obtain ⟨a0x0, c0x0, rfl, w0x0⟩ := DataW.trod_int Try.underlying3 g0x0
  obtain rfl := (List.cons.inj c0x0).1
  clear c0x0
  obtain ⟨a0x1, c0x1, rfl, w0x1⟩ := DataW.trod_int Try.underlying3 g0x1
  obtain rfl := (List.cons.inj c0x1).1
  clear c0x1
  obtain ⟨a0x2, c0x2, rfl, w0x2⟩ := DataW.trod_int Try.underlying3 g0x2
  obtain rfl := (List.cons.inj c0x2).1
  clear c0x2
  obtain ⟨a0x3, c0x3, rfl, w0x3⟩ := DataW.trod_int Try.underlying3 g0x3
  obtain rfl := (List.cons.inj c0x3).1
  clear c0x3
  obtain ⟨v1x0, v1x1, v1x2, y1x0, y1x1, y1x2, n1, rfl, rfl, rfl, g1x0, g1x1, g1x2⟩ := Go.Joins.open_agg3 Try.underlying25 (by kernel_rfl) (by kernel_rfl) (hval 1 25 v1 rfl rfl) h1
  obtain ⟨a1x0, c1x0, rfl⟩ := DataW.trod_bool Try.underlying4 g1x0
  obtain rfl := (List.cons.inj c1x0).1
  clear c1x0
  obtain ⟨a1x1, c1x1, rfl⟩ := DataW.trod_bool Try.underlying4 g1x1
  obtain rfl := (List.cons.inj c1x1).1
  clear c1x1
  obtain ⟨a1x2, c1x2, rfl⟩ := DataW.trod_bool Try.underlying4 g1x2
  obtain rfl := (List.cons.inj c1x2).1
  clear c1x2
  obtain ⟨a2x0, a2x1, rfl, w2x0, w2x1⟩ := W.open_arr2 Try.underlying26 Try.underlying3 (by kernel_rfl) (by kernel_rfl) (hval 2 26 v2 rfl rfl) h2
  clear hA0 hval0
  refine (W.over_walk a0x0 a0x1 a0x2 a0x3 a1x0 a1x1 a1x2 a2x0 a2x1 X).mono fun e X' ⟨he, bel⟩ => ?_
  subst he
  exact ⟨_, rfl, _, _, _, [], _, [], hW', trodAll_mk1 (shut_bool Try.underlying4 _), (trodAll_cons_mk (Below.trod laidOut (by kernel_rfl) (of_decide_eq_true (by kernel_rfl)) k0 bel lt0) (trodAll_cons_mk (Below.trod laidOut (by kernel_rfl) (of_decide_eq_true (by kernel_rfl)) k1 bel lt1) (trodAll_cons_mk (Below.trod laidOut (by kernel_rfl) (of_decide_eq_true (by kernel_rfl)) k2 bel lt2) trodAll_mk0))), rfl, bel.frame _, fun h => by cases h⟩

theorem over : Rows.ringOverRow.holds Try.pinned (OpenSpec.ofChange Rows.ringOverSpec) :=
  OpenClaim.holds_of_wide 7 Try.f7 rfl rfl rfl rfl rfl rfl rfl ⟨rfl, rfl, rfl, rfl, rfl⟩ rfl rfl rfl rfl rfl (by kernel_rfl) Try.func7 (by kernel_rfl)
    (of_decide_eq_true (by kernel_rfl)) (by unfold Func.isWrapper; first | (rw [if_pos (by decide +kernel)]; kernel_rfl) | (rw [if_neg (by decide +kernel)]; exact ⟨rfl, rfl⟩))
    (fun os started H enc _ => lifted os started H enc)

/-- the given statement -/
theorem proved : Rows.RingOverSaid := over
#print axioms proved
end Go.Proofs.Ytfngdlahbmaebaa.ringOver
