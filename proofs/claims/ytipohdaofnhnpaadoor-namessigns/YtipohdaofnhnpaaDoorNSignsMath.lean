/-
  A text of one sign c among letters: whether it is a name, its parts as a path. No program stands in this text but for the conversion of bytes to a text.
-/
import Derived.Test.YtipohdaofnhnpaaDoorNSplitWalk
import Derived.Laws.IdiomStrings
namespace Go.Proofs.YtipohdaofnhnpaaDoor.N
open Go.ChangeShapes Go.WideShapes Go.ChangeAt Go.RowKit

def v8 (l : List UInt8) : List Value := l.map fun b => Value.int .u8 (b.toNat : Int)
/-- i letters, then noughts -/
def D (K i : Nat) : List UInt8 := List.replicate i 97 ++ List.replicate (K - i) 0
/-- one sign among letters -/
def LL (P R : Nat) (c : UInt8) : List UInt8 := List.replicate P 97 ++ c :: List.replicate R 97

theorem D_zero (K : Nat) : v8 (D K 0) = List.replicate K (.int .u8 0) := by simp [v8, D]
theorem D_step {K i : Nat} (h : i < K) : (v8 (D K i)).set i (.int .u8 97) = v8 (D K (i + 1)) := by
  obtain ⟨r, hr⟩ : ∃ r, K - i = r + 1 := ⟨K - i - 1, by omega⟩
  have e : D K i = List.replicate i 97 ++ 0 :: List.replicate r 0 := by rw [D, hr]; rfl
  have e2 : D K (i + 1) = List.replicate i 97 ++ 97 :: List.replicate r 0 := by
    rw [D, show K - (i + 1) = r by omega, List.replicate_succ']
    simp
  rw [e, e2]
  simp [v8]
theorem D_len {K i : Nat} (h : i ≤ K) : (D K i).length = K := by simp [D]; omega
theorem D_end {P R : Nat} (c : UInt8) : (v8 (D (P + R + 1) (P + R + 1))).set P (.int .u8 (c.toNat : Int)) = v8 (LL P R c) := by
  have e : D (P + R + 1) (P + R + 1) = List.replicate P 97 ++ 97 :: List.replicate R 97 := by
    rw [D, Nat.sub_self, show P + R + 1 = P + (R + 1) by omega, ← List.replicate_append_replicate, List.replicate_succ]
    simp
  rw [e]
  simp [v8, LL]
theorem LL_len (P R : Nat) (c : UInt8) : (LL P R c).length = P + R + 1 := by simp [LL]; omega

theorem LL_all (P R : Nat) (c : UInt8) : (LL P R c).all okSign = okSign c := by
  have h97 : okSign 97 = true := by decide
  simp [LL, List.all_append, List.all_replicate, h97]
theorem LL_may (P R : Nat) (c : UInt8) (m : Nat) : may m (LL P R c) = (decide (P + R + 1 ≤ m) && okSign c) := by
  rw [may, LL_all, LL_len]
  simp
theorem LL_free (P R : Nat) (c : UInt8) (h : ¬ c = 62) : (62 : UInt8) ∉ LL P R c := by
  simp [LL, Ne.symm h]
theorem rep_free (n : Nat) : (62 : UInt8) ∉ List.replicate n (97 : UInt8) := by simp
theorem LL_cut (P R : Nat) : (cut (LL P R 62)).length = 2 := by
  rw [LL, cut_app _ _ (rep_free P), cut_free _ (rep_free R)]
  rfl

theorem LL_parts (P R : Nat) (c : UInt8) (h : P + R + 1 ≤ 40) :
    partsOf (62 :: LL P R c) = if 16 < (cut (LL P R c)).length ∨ (cut (LL P R c)).all (may 32) = false then none else some (cut (LL P R c)) :=
  parts_rest (l := 62 :: LL P R c) (by rw [List.length_cons, LL_len]; omega) (by simp [Lib.hasPrefix, List.isPrefixOf]) (by
    intro e
    have := congrArg List.length e
    rw [List.length_cons, LL_len] at this
    simp at this)
theorem LL_fine {P R : Nat} {c : UInt8} (h : P + R + 1 ≤ 32) (hc : okSign c = true) : ps (62 :: LL P R c) = [LL P R c] ∧ er (62 :: LL P R c) = 0 := by
  have h62 : ¬ c = 62 := by rintro rfl; cases hc
  refine ps_some ?_
  rw [LL_parts P R c (by omega), cut_free _ (LL_free P R c h62), if_neg]
  rintro (a | a)
  · simp at a
  · simp [LL_may, hc] at a
    omega
theorem LL_not {P R : Nat} {c : UInt8} (h : P + R + 1 ≤ 40) (h62 : ¬ c = 62) (hm : may 32 (LL P R c) = false) : ps (62 :: LL P R c) = [] ∧ er (62 :: LL P R c) = 3 := by
  refine ps_none ?_
  rw [LL_parts P R c h, cut_free _ (LL_free P R c h62), if_pos]
  right
  simp [hm]
theorem LL_stroke {P R : Nat} {c : UInt8} (h : P + R + 1 ≤ 40) (hc : c = 62) : (∃ X, ps (62 :: LL P R c) = X ∧ X.length = 2 ∧ er (62 :: LL P R c) = 0) ∨ (ps (62 :: LL P R c) = [] ∧ er (62 :: LL P R c) = 3) := by
  subst hc
  have hp := LL_parts P R 62 h
  by_cases hx : 16 < (cut (LL P R 62)).length ∨ (cut (LL P R 62)).all (may 32) = false
  · rw [if_pos hx] at hp
    exact Or.inr (ps_none hp)
  · rw [if_neg hx] at hp
    obtain ⟨a, b⟩ := ps_some hp
    exact Or.inl ⟨_, a, LL_cut P R, b⟩

theorem stroke_bs (l : List UInt8) : (⟨#[62]⟩ : ByteArray) ++ bs l = bs (62 :: l) := by rw [bs_stroke, bs_app]; rfl
theorem sp_of (l : List UInt8) (w : World) (hg : Glob w) (hl : l.length ≤ 1000) {X : List (List UInt8)} {n : Nat} {E : Int} (hp : ps (62 :: l) = X) (hn : X.length = n) (he : er (62 :: l) = E) :
    Calls Tryd.prog 9 #[.string (⟨#[62]⟩ ++ bs l)] w (SplitAt X n E w) := by
  rw [stroke_bs]
  exact split_at (bs (62 :: l)) w (by rw [bs_size]; unfold maxLen; simp; omega) hg (by rw [bs_data]; exact hp) hn (by rw [bs_data]; exact he)

/-- bytes turned into a text -/
theorem conv_of {w : World} {B g cap : Nat} {l : List UInt8} (h : w.ownsRow B 5 1 (.slice (some ⟨g, 0, none⟩) l.length cap) l.length (v8 l)) :
    (convert 35 9 (.slice (some ⟨g, 0, none⟩) l.length cap)).run Tryd.prog w = .ok (.string (bs l)) w := by
  refine run_convert_bytes_back w 35 9 5 ⟨g, 0, none⟩ cap l Tryd.underlying35 Tryd.underlying5 Tryd.underlying9 (fun j hj => ?_)
  have e : (⟨g, 0, none⟩ : Addr).add j = ⟨g, j, none⟩ := by unfold Addr.add; split <;> simp_all
  rw [e, World.ownsRow.cellAt h j (by omega), v8, List.getElem?_map, List.getElem?_eq_getElem hj]
  rfl

theorem info_u8 : (Tryd.prog.info? 5).map (fun i => (i.zero, i.size, i.bytes)) = some (some (.int .u8 0), 1, 1) := by kernel_rfl

end Go.Proofs.YtipohdaofnhnpaaDoor.N
