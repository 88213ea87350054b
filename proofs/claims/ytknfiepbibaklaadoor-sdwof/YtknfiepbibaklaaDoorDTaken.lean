/-
  What a tree refuses of a segment: a list that may not be, brackets that may not be. A tree and a store side by side with blocks beside them that are older, or that are stored into.
-/
import Derived.Test.YtknfiepbibaklaaDoorDDuo
namespace Go.Proofs.YtknfiepbibaklaaDoor.T
open Go.ChangeShapes Go.WideShapes Go.ChangeAt Go.RowKit
open Go.Proofs.YtknfiepbibaklaaDoor.N (bs bs_data bs_size bs_inj)
open Go.Proofs.YtknfiepbibaklaaDoor.A (Tm TRow)

section
variable {w : World} {b : Nat} {F : Nat → Prop} {c : Nat} {st : St}

set_option maxHeartbeats 4000000 in
theorem taken_ring {br : Br} {a : Option Addr} {cc : Nat} (hr : TRow w a cc br.acl) (htx : ∀ t ∈ br.acl, t.1.length ≤ maxLen) (hk : br.kind = 1) (hu : 1 ≤ br.uid) (ha : A.lmay br.acl = true) (hb : W.bmay br.r1 br.r2 br.r3 br.gt = false) :
    Calls Tryd.prog 29 #[TP b, BrV br (.slice a br.acl.length cc)] w fun e w' => e = .returned (.tuple #[BrV noBr (.slice none 0 0), .int .i64 1]) ∧ Below w.heap.size w w' := by
  have HR := Lib.hid hr
  have HT := Lib.hid htx
  have HA := Lib.hid ha
  have HB := Lib.hid hb
  have e1 : (br.kind == 1) = true := by simpa using hk
  have e2 : decide (br.uid < 1) = false := by simp; omega
  clear hr htx ha hb hk hu
  go_enter Tryd.func29, Tryd.ntmps29
  go_wp2_with (first
    | (go_at_call 42; ((refine (aclMay_is ((HR.out.alloc _).alloc _) HT.out HA.out).mono ?_); rintro e w1 ⟨rfl, b1⟩; have X1 := Lib.hid ((Box2.new w br (.slice a br.acl.length cc)).below b1); obtain ⟨q0, q1, q2, q3, q4, q5, q6, q7, q8, q9⟩ := X1.out.one.cell; clear b1))
    | (go_at_call 44; ((refine (ringMay_is w1 HB.out).mono ?_); rintro e w2 ⟨rfl, b2⟩; have X2 := Lib.hid (X1.out.below b2); obtain ⟨s0, s1, s2, s3, s4, s5, s6, s7, s8, s9⟩ := X2.out.two.cell; have f2 := X2.out.two.fz; clear b2)))
  have X5 := Top.of X2.out noBr
  refine (show bodyPost _ _ _ _ _ (setBr w2 (w.heap.size + 1) noBr (.slice none 0 0)) from ?_)
  generalize setBr w2 (w.heap.size + 1) noBr (.slice none 0 0) = V at X5 ⊢
  obtain ⟨g0, g1, g2, g3, g4, g5, g6, g7, g8, g9⟩ := X5.at_.cell
  exact bodyPost_ret (v := .tuple #[BrV noBr (.slice none 0 0), .int .i64 1]) (by simp [results, Tryd.results29, go_sem, g0, g1, g2, g3, g4, g5, g6, g7, g8, g9]) rfl ⟨rfl, X5.bel⟩

set_option maxHeartbeats 4000000 in
theorem taken_acl {br : Br} {a : Option Addr} {cc : Nat} (hr : TRow w a cc br.acl) (htx : ∀ t ∈ br.acl, t.1.length ≤ maxLen) (hk : br.kind = 1) (hu : 1 ≤ br.uid) (ha : A.lmay br.acl = false) :
    Calls Tryd.prog 29 #[TP b, BrV br (.slice a br.acl.length cc)] w fun e w' => e = .returned (.tuple #[BrV noBr (.slice none 0 0), .int .i64 1]) ∧ Below w.heap.size w w' := by
  have HR := Lib.hid hr
  have HT := Lib.hid htx
  have HA := Lib.hid ha
  have e1 : (br.kind == 1) = true := by simpa using hk
  have e2 : decide (br.uid < 1) = false := by simp; omega
  clear hr htx ha hk hu
  go_enter Tryd.func29, Tryd.ntmps29
  go_wp2_with (go_at_call 42; ((refine (aclMay_is ((HR.out.alloc _).alloc _) HT.out HA.out).mono ?_); rintro e w2 ⟨rfl, b1⟩; have X2 := Lib.hid ((Box2.new w br (.slice a br.acl.length cc)).below b1); obtain ⟨s0, s1, s2, s3, s4, s5, s6, s7, s8, s9⟩ := X2.out.two.cell; have f2 := X2.out.two.fz; clear b1))
  have X5 := Top.of X2.out noBr
  refine (show bodyPost _ _ _ _ _ (setBr w2 (w.heap.size + 1) noBr (.slice none 0 0)) from ?_)
  generalize setBr w2 (w.heap.size + 1) noBr (.slice none 0 0) = V at X5 ⊢
  obtain ⟨g0, g1, g2, g3, g4, g5, g6, g7, g8, g9⟩ := X5.at_.cell
  exact bodyPost_ret (v := .tuple #[BrV noBr (.slice none 0 0), .int .i64 1]) (by simp [results, Tryd.results29, go_sem, g0, g1, g2, g3, g4, g5, g6, g7, g8, g9]) rfl ⟨rfl, X5.bel⟩

end

end Go.Proofs.YtknfiepbibaklaaDoor.T

namespace Go.Proofs.YtknfiepbibaklaaDoor.D
open Go.ChangeShapes Go.WideShapes Go.ChangeAt Go.RowKit
open Go.Proofs.YtknfiepbibaklaaDoor.N (bs bs_data bs_size bs_inj)
open Go.Proofs.YtknfiepbibaklaaDoor.A (Tm Fl TRow findR noFl)
open Go.Proofs.YtknfiepbibaklaaDoor.W (BV acc bmay cto cer inr one_new retI StoreAt SP)
open Go.Proofs.YtknfiepbibaklaaDoor.T (Br Nd St TreeAt TP BrV BrO BrAt noBr Txt rng segS segB nodeS aclX ringX noSt freeE)

section
variable {w0 Y V : World} {b c : Nat} {st : St} {s : Nat} {q u l : Int} {k : Nat} {S : Int → Option (List Int)} {K : List (Nat × Obj)}

theorem duo_badacl (h : Duo w0 Y b c st s q u l k S K) {d : Int} {n : Txt} (hd : rng d) (hs : n.length ≤ maxLen) (hf : freeE st d n = 0) {br : Br} {a : Option Addr} {cc : Nat} (hr : TRow Y a cc br.acl) (htx : ∀ t ∈ br.acl, t.1.length ≤ maxLen) (hk : br.kind = 1) (hu : 1 ≤ br.uid) (ha : A.lmay br.acl = false) :
    Calls Tryd.prog 11 #[TP b, .int .i64 d, .string (bs n), BrV br (.slice a br.acl.length cc)] Y fun e w' => e = .returned (.tuple #[.int .i64 0, .int .i64 1]) ∧ Below Y.heap.size Y w' := by
  obtain ⟨F, G, h1, h2, h3, h4, h5, h6, h7⟩ := h
  exact T.add_bad h1 hd hs hf hr (by decide) (fun V _ hV => T.taken_acl hV htx hk hu ha)
theorem duo_badring (h : Duo w0 Y b c st s q u l k S K) {d : Int} {n : Txt} (hd : rng d) (hs : n.length ≤ maxLen) (hf : freeE st d n = 0) {br : Br} {a : Option Addr} {cc : Nat} (hr : TRow Y a cc br.acl) (htx : ∀ t ∈ br.acl, t.1.length ≤ maxLen) (hk : br.kind = 1) (hu : 1 ≤ br.uid) (ha : A.lmay br.acl = true) (hb : bmay br.r1 br.r2 br.r3 br.gt = false) :
    Calls Tryd.prog 11 #[TP b, .int .i64 d, .string (bs n), BrV br (.slice a br.acl.length cc)] Y fun e w' => e = .returned (.tuple #[.int .i64 0, .int .i64 1]) ∧ Below Y.heap.size Y w' := by
  obtain ⟨F, G, h1, h2, h3, h4, h5, h6, h7⟩ := h
  exact T.add_bad h1 hd hs hf hr (by decide) (fun V _ hV => T.taken_ring hV htx hk hu ha hb)

/-- a new tree and store beside elder blocks -/
theorem duo_newK {F : Nat → Prop} (h1 : TreeAt Y b F c st) (hb : Below w0.heap.size w0 Y) (hF : ∀ i, F i → w0.heap.size ≤ i) (hlt : ∀ i, F i → i < Y.heap.size) {q : Int} (h2 : StoreAt V Y.heap.size (fun i => i = Y.heap.size) q 0 0 0 (fun _ => none)) (hv : Below Y.heap.size Y V) (hK : ∀ p ∈ K, Y.heap[p.1]? = some p.2 ∧ ¬ F p.1) : Duo w0 V b c st Y.heap.size q 0 0 0 (fun _ => none) K :=
  ⟨F, _, h1.below hv, h2, hb.trans (hv.mono hb.size), hF, fun i hi => by have := hb.size; omega, fun i hi hg => by have := hlt i hi; omega,
    fun p hp => ⟨(hv.block _ (lt_of_some (hK p hp).1)).trans (hK p hp).1, (hK p hp).2, fun e => by have := lt_of_some (hK p hp).1; omega⟩⟩

/-- a store into a block beside both -/
theorem Duo.put {i : Nat} {cs cs' : Array Value} {t : TypeId} {fr : Nat × Nat} (h : Duo w0 Y b c st s q u l k S ((i, .cells cs t fr) :: K)) (hi : w0.heap.size ≤ i) (hK : ∀ p ∈ K, p.1 ≠ i) {j : Nat} {v : Value} (e : cs.setIfInBounds j v = cs') : Duo w0 (Y.setCell ⟨i, j, none⟩ v) b c st s q u l k S ((i, .cells cs' t fr) :: K) := by
  subst e
  obtain ⟨F, G, h1, h2, h3, h4, h5, h6, h7⟩ := h
  have h0 := h7 _ List.mem_cons_self
  refine ⟨F, G, h1.set h0.2.1, h2.set h0.2.2, h3.setCell hi _, h4, h5, h6, fun p hp => ?_⟩
  rcases List.mem_cons.1 hp with rfl | hp
  · exact ⟨T.head_set h0.1 j v, h0.2⟩
  · exact ⟨(T.other_set j v (hK p hp)).trans (h7 p (List.mem_cons_of_mem _ hp)).1, (h7 p (List.mem_cons_of_mem _ hp)).2⟩

end

end Go.Proofs.YtknfiepbibaklaaDoor.D
