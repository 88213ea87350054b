/-
  A slice of terms of a call's own, appended to; a row of terms.
-/
import Derived.Test.YtpcdcmoapenbdaaDoorACalls
import Derived.Laws.AppendOwnNone
import Derived.Lib.AppendZeros
namespace Go.Proofs.YtpcdcmoapenbdaaDoor.A
open Go.ChangeShapes Go.WideShapes Go.ChangeAt Go.RowKit
open Go.Proofs.YtpcdcmoapenbdaaDoor.N

theorem TRow.here {w : World} {bk o c : Nat} {l : List Tm} (h : TRow w (some ⟨bk, o, none⟩) c l) {k : Nat} (hk : k < l.length) : bk < w.heap.size ∧ TAt w bk (o + k * 4) l[k] := by
  obtain ⟨bk', o', e, h1, h2⟩ := h.at_ hk
  cases e
  exact ⟨h1, h2⟩

def tcells (t : Tm) : List Value := [.string (bs t.1), .bool t.2.1, .bool t.2.2.1, .bool t.2.2.2]
def flat : List Tm → List Value
  | [] => []
  | t :: l => tcells t ++ flat l

theorem flat_len : ∀ l, (flat l).length = l.length * 4
  | [] => rfl
  | t :: l => by simp [flat, tcells, flat_len l]; omega
theorem flat_app : ∀ l m, flat (l ++ m) = flat l ++ flat m
  | [], m => rfl
  | t :: l, m => by simp [flat, flat_app l m]
theorem flat_get : ∀ (l : List Tm) (j r : Nat) (h : j < l.length), r < 4 → (flat l)[j * 4 + r]? = (tcells l[j])[r]?
  | t :: l, 0, r, _, hr => by
    rw [flat, List.getElem?_append_left (by simp [tcells]; omega)]
    simp
  | t :: l, j + 1, r, h, hr => by
    have := flat_get l j r (by simpa using h) hr
    rw [flat, List.getElem?_append_right (by simp [tcells]; omega)]
    rw [show (j + 1) * 4 + r - (tcells t).length = j * 4 + r by simp [tcells]; omega, this]
    rfl
theorem flat_one : ∀ l, ∀ u ∈ flat l, u.oneCell' = true
  | [], u, h => by cases h
  | t :: l, u, h => by
    rw [flat, List.mem_append] at h
    rcases h with h | h
    · simp [tcells] at h
      rcases h with rfl | rfl | rfl | rfl <;> rfl
    · exact flat_one l u h

/-- the cells of a row, one by one -/
theorem TRow.cells {w : World} {bk o c : Nat} {l : List Tm} (h : TRow w (some ⟨bk, o, none⟩) c l) : ∀ j u, (flat l)[j]? = some u → w.cell? ((⟨bk, o, none⟩ : Addr).add j) = some u := by
  intro j u hj
  have hl : j < l.length * 4 := by rw [← flat_len]; exact (List.getElem?_eq_some_iff.1 hj).1
  have hi : j / 4 < l.length := by omega
  obtain ⟨_, c0, c1, c2, c3⟩ := h.here hi
  have e : j = j / 4 * 4 + j % 4 := by omega
  have hg := flat_get l (j / 4) (j % 4) hi (by omega)
  rw [← e, hj] at hg
  rw [Addr.add_lit]
  have hr : j % 4 = 0 ∨ j % 4 = 1 ∨ j % 4 = 2 ∨ j % 4 = 3 := by omega
  rcases hr with hr | hr | hr | hr
  · rw [hr] at hg
    simp [tcells] at hg
    rw [show o + j = o + j / 4 * 4 by omega, c0, hg]
  · rw [hr] at hg
    simp [tcells] at hg
    rw [show o + j = o + j / 4 * 4 + 1 by omega, c1, hg]
  · rw [hr] at hg
    simp [tcells] at hg
    rw [show o + j = o + j / 4 * 4 + 2 by omega, c2, hg]
  · rw [hr] at hg
    simp [tcells] at hg
    rw [show o + j = o + j / 4 * 4 + 3 by omega, c3, hg]

/-- .. told by its cells -/
theorem TRow.of {w : World} {bk o c : Nat} {l : List Tm} (hc : l.length ≤ c) (hb : bk < w.heap.size) (h : ∀ j, j < l.length * 4 → w.cell? ⟨bk, o + j, none⟩ = (flat l)[j]?) : TRow w (some ⟨bk, o, none⟩) c l := by
  refine ⟨hc, fun h => (by cases h), fun _ => ⟨bk, o, rfl, hb, fun j hj => ?_⟩⟩
  have f : ∀ r, r < 4 → w.cell? ⟨bk, o + j * 4 + r, none⟩ = (tcells l[j])[r]? := fun r hr => by
    rw [← flat_get l j r hj hr, ← h (j * 4 + r) (by omega), Nat.add_assoc]
  exact ⟨f 0 (by omega), f 1 (by omega), f 2 (by omega), f 3 (by omega)⟩

/-- a literal of terms -/
theorem TRow.lit (w : World) (l : List Tm) (n : Nat) (hn : l.length ≤ n) : TRow (w.alloc (.cells (flat l).toArray 91)) (some ⟨w.heap.size, 0, none⟩) n l :=
  TRow.of hn (by simp) (fun j _ => by rw [cell_of_row _ _ _ _ _ _ (heap_alloc_new w _)]; simp)

/-- terms of the call's own -/
def Own (base : Nat) (w : World) (v : Value) (l : List Tm) : Prop := w.ownsRow base 91 4 v l.length (flat l)

theorem Own.nil (base : Nat) (w : World) : Own base w (.slice none 0 0) [] := World.ownsRow_nil w base _ _
theorem Own.alloc {base : Nat} {w : World} {v : Value} {l : List Tm} (h : Own base w v l) (o : Obj) : Own base (w.alloc o) v l := World.ownsRow.alloc h o
theorem Own.row {base : Nat} {w : World} {v : Value} {l : List Tm} (h : Own base w v l) : ∃ a c, v = .slice a l.length c ∧ TRow w a c l := by
  have h' := h
  rcases h.2 with ⟨rfl, e⟩ | ⟨g, cap, cur, rfl, hb, hg, hn, hm, hs, ht⟩
  · have : l = [] := List.length_eq_zero_iff.1 e
    subst this
    exact ⟨none, 0, rfl, TRow.nil w⟩
  · refine ⟨some ⟨g, 0, none⟩, cap, rfl, TRow.of hn (lt_of_block hg) (fun j hj => ?_)⟩
    rw [Nat.zero_add]
    exact World.ownsRow.cellAt (w := w) (base := base) (e := 91) (size := 4) h' j hj
theorem Own.keep {base : Nat} {w w' : World} {v : Value} {l : List Tm} (h : Own base w v l) (hb : Below w.heap.size w w') : Own base w' v l := by
  refine ⟨h.1, ?_⟩
  rcases h.2 with e | ⟨g, cap, cur, rfl, hbs, hg, r⟩
  · exact Or.inl e
  · exact Or.inr ⟨g, cap, cur, rfl, hbs, (hb.block g (lt_of_block hg)).trans hg, r⟩
theorem Own.lt {base : Nat} {w : World} {v : Value} {l : List Tm} (h : Own base w v l) : ∀ k, v.ownBlock = some k → base ≤ k := fun k hk => (World.ownsRow.lt h k hk).1

theorem info_term : (Tryd.prog.info? 91).map (fun i => (i.zero, i.size, i.bytes)) = some (some (.agg #[.string ByteArray.empty, .bool false, .bool false, .bool false]), 4, 24) := by kernel_rfl

theorem wpList_terms {base : Nat} {w : World} {v : Value} {l : List Tm} {ops : Array Oper} {rest : List Oper} {o : Oper} {a : Act} {Q : Exit → Act → World → Prop} (hgd : o.guard = none) (s y : Operand)
    (ho : o.op = .call { callee := .builtin .append, args := #[s, y], argTypes := #[32, 32] })
    (hs : a.eval s = v) (hown : Own base w v l) (ao : Option Addr) (c : Nat) (ms : List Tm) (hy : a.eval y = .slice ao ms.length c) (hrow : TRow w ao c ms) (hlen : l.length + ms.length ≤ 1000000) (hbase : base ≤ w.heap.size)
    (h : ∀ v' w', Own base w' v' (l ++ ms) → w.grownBy w' v.ownBlock → wpList Tryd.prog ops Q rest (a.put o.dst v') w') : wpList Tryd.prog ops Q (o :: rest) a w := by
  obtain ⟨i0, hi, hz0, hz1, hz2⟩ := info_parts info_term
  cases ao with
  | none =>
    have hc : c = 0 := hrow.2.1 rfl
    have hm : ms = [] := List.length_eq_zero_iff.1 (by have := hrow.1; omega)
    subst hc hm
    refine wpList_append_own_none hgd s y 32 ho base 91 i0 4 Tryd.underlying32 hi v _ _ hs hown (by simpa using hy) ?_
    exact h v w (by simpa using hown) (World.grownBy.refl _ _)
  | some ad =>
    refine wpList_append_own w hgd s y 32 ho base 91 i0 _ 4 24 Tryd.underlying32 hi hz0 hz1 hz2 rfl (by decide) v _ _ hs hown ad ms.length c (flat ms) hy (flat_len ms) ?_ (flat_one ms) (by unfold maxLen; omega) (by omega) hbase ?_
    · by_cases h0 : 0 < ms.length
      · obtain ⟨bk, o', e, _, _⟩ := hrow.2.2 h0
        cases e
        exact hrow.cells
      · have hm : ms = [] := List.length_eq_zero_iff.1 (by omega)
        subst hm
        intro j u hj
        simp [flat] at hj
    · intro v' w' h1 h2 _
      refine h v' w' ?_ h2
      unfold Own
      rw [List.length_append, flat_app]
      exact h1

/-- what an append leaves of what was there -/
theorem Own.grown {base : Nat} {w0 w w' : World} {v : Value} {l : List Tm} (h : Own base w v l) (hb : Below w0.heap.size w0 w) (hbase : w0.heap.size ≤ base) (hg : w.grownBy w' v.ownBlock) : Below w0.heap.size w0 w' :=
  hb.grown hg hb.size (fun k hk => Nat.le_trans hbase (h.lt k hk))

end Go.Proofs.YtpcdcmoapenbdaaDoor.A
