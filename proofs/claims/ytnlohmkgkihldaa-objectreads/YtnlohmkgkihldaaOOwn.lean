/-
  Definitions and links in rows of a call's own: one appended; what they hold, as slices that are read; and the program's reader: what defs and links do to it.
-/
import Derived.Test.YtnlohmkgkihldaaOReadWords
import Derived.Deep.AppendLies
namespace Go.Proofs.Ytnlohmkgkihldaa.W
open Go.ChangeShapes Go.WideShapes Go.ChangeAt Go.RowKit
open Go.Proofs.Ytnlohmkgkihldaa.N (bs bs_data bs_of bs_size may may_pos retB)

def dC (d : Txt × Int) : List Value := [.string (bs d.1), .int .i64 d.2]
def kC (d : Txt × Txt × Int) : List Value := [.string (bs d.1), .string (bs d.2.1), .int .i64 d.2.2]
def OwnD (base : Nat) (w : World) (v : Value) (ds : List (Txt × Int)) : Prop := w.ownsRow base 41 2 v ds.length (ds.flatMap dC)
def OwnK (base : Nat) (w : World) (v : Value) (ds : List (Txt × Txt × Int)) : Prop := w.ownsRow base 43 3 v ds.length (ds.flatMap kC)
theorem info_def : (Try.prog.info? 41).map (fun i => (i.zero, i.size, i.bytes)) = some (some (.agg #[.string ByteArray.empty, .int .i64 0]), 2, 24) := by kernel_rfl
theorem info_link : (Try.prog.info? 43).map (fun i => (i.zero, i.size, i.bytes)) = some (some (.agg #[.string ByteArray.empty, .string ByteArray.empty, .int .i64 0]), 3, 40) := by kernel_rfl

theorem flat_at {α : Type} (f : α → List Value) {s : Nat} (hf : ∀ x, (f x).length = s) : ∀ (l : List α) (j r : Nat) (hj : j < l.length), r < s → (l.flatMap f)[j * s + r]? = (f l[j])[r]?
  | [], j, r, hj, _ => by simp at hj
  | x :: t, 0, r, _, hr => by
    rw [List.flatMap_cons, List.getElem?_append_left (by rw [hf]; omega)]
    simp
  | x :: t, j + 1, r, hj, hr => by
    have e : (j + 1) * s + r = s + (j * s + r) := by rw [Nat.succ_mul]; omega
    rw [List.flatMap_cons, e, List.getElem?_append_right (by rw [hf]; omega), hf, show s + (j * s + r) - s = j * s + r by omega, flat_at f hf t j r (by simpa using hj) hr]
    simp
theorem row_val {base : Nat} {w : World} {e : TypeId} {size n : Nat} {v : Value} {xs : List Value} (h : w.ownsRow base e size v n xs) : ∃ p c, v = .slice p n c := by
  rcases h.2 with ⟨rfl, hn⟩ | ⟨g, cap, cur, rfl, _⟩
  · exact ⟨none, 0, by rw [hn]⟩
  · exact ⟨_, _, rfl⟩
theorem row_grown {base : Nat} {w w' : World} {e : TypeId} {size n : Nat} {v : Value} {xs : List Value} {b : Nat} (h : w.ownsRow base e size v n xs) (hg : w.grownBy w' (some b)) (hb : b < base) : w'.ownsRow base e size v n xs := by
  obtain ⟨hl, h⟩ := h
  refine ⟨hl, ?_⟩
  rcases h with h | ⟨g, cap, cur, e, hgb, hh, r⟩
  · exact Or.inl h
  · exact Or.inr ⟨g, cap, cur, e, hgb, (hg.block g (Array.getElem?_eq_some_iff.1 hh).1 (fun e => by cases e; omega)).trans hh, r⟩
theorem row_below {base : Nat} {w w' : World} {e : TypeId} {size n : Nat} {v : Value} {xs : List Value} (h : w.ownsRow base e size v n xs) (hb : Below w.heap.size w w') : w'.ownsRow base e size v n xs := by
  obtain ⟨hl, h⟩ := h
  refine ⟨hl, ?_⟩
  rcases h with h | ⟨g, cap, cur, e, hgb, hh, r⟩
  · exact Or.inl h
  · exact Or.inr ⟨g, cap, cur, e, hgb, (hb.block g (Array.getElem?_eq_some_iff.1 hh).1).trans hh, r⟩
theorem row_base {base b : Nat} {w : World} {e : TypeId} {size n : Nat} {v : Value} {xs : List Value} (h : w.ownsRow base e size v n xs) (hb : b ≤ base) : w.ownsRow b e size v n xs := by
  obtain ⟨hl, h⟩ := h
  refine ⟨hl, ?_⟩
  rcases h with h | ⟨g, cap, cur, e, hgb, r⟩
  · exact Or.inl h
  · exact Or.inr ⟨g, cap, cur, e, Nat.le_trans hb hgb, r⟩
theorem OwnD.row {base : Nat} {w : World} {a : Option Addr} {n c : Nat} {ds : List (Txt × Int)} (h : OwnD base w (.slice a n c) ds) : DRow w a ds := fun h0 => by
  have h' := h
  rcases h.2 with ⟨e, hn⟩ | ⟨g, cap, cur, e, _, hh, _⟩
  · omega
  · cases e
    refine ⟨g, 0, rfl, (Array.getElem?_eq_some_iff.1 hh).1, fun j hj => ?_⟩
    have f : ∀ r, r < 2 → w.cell? ⟨g, j * 2 + r, none⟩ = (dC ds[j])[r]? := fun r hr => by
      rw [← flat_at dC (s := 2) (fun _ => rfl) ds j r hj hr]
      exact World.ownsRow.cellAt (w := w) (base := base) (e := 41) (size := 2) h' (j * 2 + r) (by omega)
    rw [Nat.zero_add]
    exact ⟨f 0 (by omega), f 1 (by omega)⟩
theorem OwnK.row {base : Nat} {w : World} {a : Option Addr} {n c : Nat} {ds : List (Txt × Txt × Int)} (h : OwnK base w (.slice a n c) ds) : KRow w a ds := fun h0 => by
  have h' := h
  rcases h.2 with ⟨e, hn⟩ | ⟨g, cap, cur, e, _, hh, _⟩
  · omega
  · cases e
    refine ⟨g, 0, rfl, (Array.getElem?_eq_some_iff.1 hh).1, fun j hj => ?_⟩
    have f : ∀ r, r < 3 → w.cell? ⟨g, j * 3 + r, none⟩ = (kC ds[j])[r]? := fun r hr => by
      rw [← flat_at kC (s := 3) (fun _ => rfl) ds j r hj hr]
      exact World.ownsRow.cellAt (w := w) (base := base) (e := 43) (size := 3) h' (j * 3 + r) (by omega)
    rw [Nat.zero_add]
    exact ⟨f 0 (by omega), f 1 (by omega), f 2 (by omega)⟩

section
variable {base : Nat} {w : World} {v : Value} {ops : Array Oper} {rest : List Oper} {o : Oper} {a : Act} {Q : Exit → Act → World → Prop}
/-- one definition more, out of the block that was laid for it -/
theorem wpList_def1 {ds : List (Txt × Int)} (hgd : o.guard = none) (s y : Operand) (ho : o.op = .call { callee := .builtin .append, args := #[s, y], argTypes := #[24, 24] })
    (hs : a.eval s = v) (h : OwnD base w v ds) (d : Txt × Int) (g c : Nat) (hy : a.eval y = .slice (some ⟨g, 0, none⟩) 1 c) (hg : w.heap[g]? = some (.cells #[.string (bs d.1), .int .i64 d.2] 41)) (hlen : ds.length ≤ 1000000) (hbase : base ≤ w.heap.size) (n : Nat) (hn : ds.length + 1 = n)
    (hK : ∀ p' c' w', OwnD base w' (.slice p' n c') (ds ++ [d]) → w.grownBy w' v.ownBlock → wpList Try.prog ops Q rest (a.put o.dst (.slice p' n c')) w') : wpList Try.prog ops Q (o :: rest) a w := by
  obtain ⟨i0, hi, hz0, hz1, hz2⟩ := info_parts info_def
  subst hn
  refine wpList_append_lies w hgd s y 24 ho base 41 i0 _ 2 24 Try.underlying24 hi hz0 hz1 hz2 rfl (by decide) v ds.length (ds.flatMap dC) hs h ⟨g, 0, none⟩ 1 c (dC d) hy rfl (World.news_of_block hg) (by simp [dC, Value.oneCell']) (by decide) (by unfold maxLen; omega) (by omega) hbase _ rfl ?_
  intro g2 cap w' h1 h2 _ _
  refine hK _ _ _ ?_ h2
  unfold OwnD
  rw [List.length_append, List.flatMap_append, List.flatMap_singleton]
  exact h1
theorem wpList_link1 {ds : List (Txt × Txt × Int)} (hgd : o.guard = none) (s y : Operand) (ho : o.op = .call { callee := .builtin .append, args := #[s, y], argTypes := #[25, 25] })
    (hs : a.eval s = v) (h : OwnK base w v ds) (d : Txt × Txt × Int) (g c : Nat) (hy : a.eval y = .slice (some ⟨g, 0, none⟩) 1 c) (hg : w.heap[g]? = some (.cells #[.string (bs d.1), .string (bs d.2.1), .int .i64 d.2.2] 43)) (hlen : ds.length ≤ 1000000) (hbase : base ≤ w.heap.size) (n : Nat) (hn : ds.length + 1 = n)
    (hK : ∀ p' c' w', OwnK base w' (.slice p' n c') (ds ++ [d]) → w.grownBy w' v.ownBlock → wpList Try.prog ops Q rest (a.put o.dst (.slice p' n c')) w') : wpList Try.prog ops Q (o :: rest) a w := by
  obtain ⟨i0, hi, hz0, hz1, hz2⟩ := info_parts info_link
  subst hn
  refine wpList_append_lies w hgd s y 25 ho base 43 i0 _ 3 40 Try.underlying25 hi hz0 hz1 hz2 rfl (by decide) v ds.length (ds.flatMap kC) hs h ⟨g, 0, none⟩ 1 c (kC d) hy rfl (World.news_of_block hg) (by simp [kC, Value.oneCell']) (by decide) (by unfold maxLen; omega) (by omega) hbase _ rfl ?_
  intro g2 cap w' h1 h2 _ _
  refine hK _ _ _ ?_ h2
  unfold OwnK
  rw [List.length_append, List.flatMap_append, List.flatMap_singleton]
  exact h1
end

/-- how many elements a slice has -/
def lenV : Value → Nat
  | .slice _ n _ => n
  | _ => 0
/-- what an append to a row of its own leaves of a reader below it -/
theorem rd_grown {B : Nat} {w w' : World} {e : TypeId} {size n : Nat} {v : Value} {xs : List Value} {b : Nat} {S : RS} (h : RdAt B w b S) (ho : w.ownsRow B e size v n xs) (hg : w.grownBy w' v.ownBlock) (hb : b < B) : RdAt B w' b S := by
  obtain ⟨a, c, L, hh, hw, hc, hB⟩ := h
  have hne : ∀ k, k < B → some k ≠ v.ownBlock := fun k hk e => by
    have := (World.ownsRow.lt ho k e.symm).1
    omega
  refine ⟨a, c, L, (hg.block b (Array.getElem?_eq_some_iff.1 hh).1 (hne b hb)).trans hh, ⟨fun h0 => ?_, hw.u64, hw.cap, hw.len, hw.nil⟩, hc, hB⟩
  obtain ⟨g, o, e, hcell⟩ := hw.nums h0
  exact ⟨g, o, e, fun i hi => hg.cell (hcell i hi) (hne g (hB g o e))⟩
theorem rd_base {B B' : Nat} {w : World} {b : Nat} {S : RS} (h : RdAt B w b S) (hb : B ≤ B') : RdAt B' w b S := by
  obtain ⟨a, c, L, hh, hw, hc, hB⟩ := h
  exact ⟨a, c, L, hh, hw, hc, fun g o e => Nat.lt_of_lt_of_le (hB g o e) hb⟩

end Go.Proofs.Ytnlohmkgkihldaa.W
