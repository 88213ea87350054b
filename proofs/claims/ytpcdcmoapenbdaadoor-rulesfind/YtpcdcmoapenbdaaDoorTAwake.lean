/-
  The law's own example of the document (its function awake). A tree under a law's hands: younger than the law's first world. Brackets compared.
-/
import Derived.Test.YtpcdcmoapenbdaaDoorTAccess
namespace Go.Proofs.YtpcdcmoapenbdaaDoor.T
open Go.ChangeShapes Go.WideShapes Go.ChangeAt Go.RowKit
open Go.Proofs.YtpcdcmoapenbdaaDoor.N (bs bs_data bs_size bs_inj)
open Go.Proofs.YtpcdcmoapenbdaaDoor.A (Tm TRow)

/-- a tree, all of whose blocks are younger than w0, and which is as Φ says -/
def Has (w0 W : World) (b c : Nat) (Φ : St → Prop) : Prop := ∃ F st, TreeAt W b F c st ∧ Φ st ∧ Below w0.heap.size w0 W ∧ ∀ i, F i → w0.heap.size ≤ i

section
variable {w0 V : World} {b c : Nat} {Φ : St → Prop}

theorem Has.bel (h : Has w0 V b c Φ) : Below w0.heap.size w0 V := by
  obtain ⟨_, _, _, _, h, _⟩ := h
  exact h
theorem Has.below (h : Has w0 V b c Φ) {V' : World} (hb : Below V.heap.size V V') : Has w0 V' b c Φ := by
  obtain ⟨F, st, h1, h2, h3, h4⟩ := h
  exact ⟨F, st, h1.below hb, h2, h3.trans (hb.mono h3.size), h4⟩
theorem Has.alloc (h : Has w0 V b c Φ) (o : Obj) : Has w0 (V.alloc o) b c Φ := h.below (one_new _ _)
theorem Has.imp (h : Has w0 V b c Φ) {Ψ : St → Prop} (hi : ∀ st, Φ st → Ψ st) : Has w0 V b c Ψ := by
  obtain ⟨F, st, h1, h2, h3⟩ := h
  exact ⟨F, st, h1, hi st h2, h3⟩
theorem Has.mono (h : Has w0 V b c Φ) {c' : Nat} (hc : c ≤ c') : Has w0 V b c' Φ := by
  obtain ⟨F, st, h1, h2, h3⟩ := h
  exact ⟨F, st, h1.mono hc, h2, h3⟩
theorem has_went {F F' : Nat → Prop} {V V' : World} {st : St} {Ψ : St → Prop} (h3 : Below w0.heap.size w0 V) (h4 : ∀ i, F i → w0.heap.size ≤ i) (h : TreeAt V' b F' c st) (hp : Ψ st) (hw : Went F V F' V') : Has w0 V' b c Ψ :=
  ⟨F', st, h, hp, h3.trans (hw.below h4 h3.size), hw.ge h4 h3.size⟩

end

theorem brk_fields : Tryd.prog.underlying 34 = some (.struct (Tryd.prog.fieldsOf 34)) := by kernel_rfl
theorem brk_held : Tryd.prog.stoodInHeld 34 = false := by kernel_rfl
theorem brk_guard : Tryd.prog.eqGuardType Tryd.prog.depth 34 = false := by kernel_rfl
theorem brk_eq (n : Nat) (a b c d a' b' c' d' : Int) (w : World) : (Op.equalIn (n + 2) 34 (.agg #[.int .i64 a, .int .i64 b, .int .i64 c, .int .i64 d]) (.agg #[.int .i64 a', .int .i64 b', .int .i64 c', .int .i64 d'])).run Tryd.prog w = .ok (decide ((a, b, c, d) = (a', b', c', d'))) w := by
  have u := Tryd.underlying3
  have g := Tryd.isAgg3
  have z := Tryd.sizeOf3
  rw [run_equalIn_agg w (n + 1) 34 _ _ brk_fields brk_held]
  simp only [Program.fieldsOf, Tryd.underlying34]
  go_simp
  by_cases h1 : a = a' <;> by_cases h2 : b = b' <;> by_cases h3 : c = c' <;> by_cases h4 : d = d' <;> simp [h1, h2, h3, h4]
theorem brk_eql (a b c d a' b' c' d' : Int) (w : World) : (binOp .eql 34 (.agg #[.int .i64 a, .int .i64 b, .int .i64 c, .int .i64 d]) (.agg #[.int .i64 a', .int .i64 b', .int .i64 c', .int .i64 d'])).run Tryd.prog w = .ok (.bool (decide ((a, b, c, d) = (a', b', c', d')))) w := by
  rw [run_eql_struct, show (10000 : Nat) = 9998 + 2 from rfl, brk_eq]
  rfl
theorem brk_neq (a b c d a' b' c' d' : Int) (w : World) : (binOp .neq 34 (.agg #[.int .i64 a, .int .i64 b, .int .i64 c, .int .i64 d]) (.agg #[.int .i64 a', .int .i64 b', .int .i64 c', .int .i64 d'])).run Tryd.prog w = .ok (.bool (decide ((a, b, c, d) ≠ (a', b', c', d')))) w := by
  rw [run_neq_struct, show (10000 : Nat) = 9998 + 2 from rfl, brk_eq]
  by_cases h : (a, b, c, d) = (a', b', c', d') <;> simp [h]

def dirIn : Br := ⟨2, 0, 0, [], false, [], 0, 0, 0, 0⟩

theorem rng0 : rng 0 := ⟨by omega, by omega⟩
theorem short_txt {s : Txt} (h : s.length ≤ 1000) : s.length ≤ maxLen := by unfold maxLen; omega
theorem isD0 (st : St) : isD st 0 = true := by simp [isD]
theorem free_ok {st : St} {s : Txt} (hm : N.may 32 s = true) (hP : st.P (0, s) = none) : freeE st 0 s = 0 := by
  unfold freeE
  rw [isD0, hm, hP]
  rfl

/-- what awake's tree has behind the Add -/
theorem awake_st (g : Nat) : (dirS noSt g 0 [100]).P (0, [100]) = some g ∧ (dirS noSt g 0 [100]).N g = some ⟨⟨2, 0, 1, [], false, [], 0, 0, 0, 0⟩, 0, [[100]]⟩ ∧ ((dirS noSt g 0 [100]).Z 0).getD 0 = 1 := by
  refine ⟨?_, ?_, ?_⟩ <;> simp [dirS, bindS, noSt, dirX, upd]

theorem add_dir_is {w : World} {b : Nat} {F : Nat → Prop} {c : Nat} {st : St} (h : TreeAt w b F c st) {d : Int} {s : Txt} (hd : rng d) (hs : s.length ≤ maxLen) (hf : freeE st d s = 0) {l : Int} (hl : st.last + 1 = l) (hc : c < 10000) :
    Calls Tryd.prog 18 #[TP b, .int .i64 d, .string (bs s), BrV dirIn (.slice none 0 0)] w fun e w' => e = .returned (.tuple #[.int .i64 l, .int .i64 0]) ∧ ∃ F' g, w.heap.size ≤ g ∧ TreeAt w' b F' (c + 5) (dirS st g d s) ∧ Went F w F' w' := by
  subst hl
  exact add_dir h hd hs hf (br := dirIn) (a := none) (n := 0) (cc := 0) rfl hc

end Go.Proofs.YtpcdcmoapenbdaaDoor.T
