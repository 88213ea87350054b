/-
  Words appended to a row of the law's own, whatever slice of words comes (nil let in).
-/
import Derived.Test.YtnlohmkgkihldaaLAwake
import Derived.Laws.AppendOwnNone
namespace Go.Proofs.Ytnlohmkgkihldaa.W
open Go.ChangeShapes Go.WideShapes Go.ChangeAt Go.RowKit
open Go.Proofs.Ytnlohmkgkihldaa.N (bs bs_data bs_of bs_size)

theorem NumsIn.below {k : IntKind} {w w' : World} {a : Option Addr} {zs : List Int} (h : NumsIn k w a zs) (hb : Below w.heap.size w w') : NumsIn k w' a zs := fun h0 => by
  obtain ⟨b, o, e, hc⟩ := h h0
  exact ⟨b, o, e, fun i hi => (hb.cell (p := ⟨b, o + i, none⟩) (World.block_lt_of_cell? w _ (hc i hi))).trans (hc i hi)⟩

theorem below_grown {B : Nat} {w w' : World} {r : Option Nat} (h : w.grownBy w' r) (hB : B ≤ w.heap.size) (hr : ∀ g, r = some g → B ≤ g) : Below B w w' :=
  ⟨h.os, h.tape, h.output, h.size, fun i hi => h.block i (by omega) (fun e => by have := hr i e.symm; omega)⟩

/-- a row of words of the law's own -/
def OwnW (base : Nat) (w : World) (v : Value) (xs : List Int) : Prop := w.ownsRow base 37 1 v xs.length (xs.map (Value.int .u64))

section
variable {base : Nat} {w : World} {v : Value} {xs : List Int}
theorem ownW_lit {w : World} (hb : base ≤ w.heap.size) : OwnW base (w.alloc (.cells #[] 37)) (.slice (some ⟨w.heap.size, 0, none⟩) 0 0) [] :=
  ⟨by simp, Or.inr ⟨w.heap.size, 0, #[], rfl, hb, heap_alloc_new w _, Nat.le_refl _, by unfold maxLen; omega, by simp, by simp⟩⟩
theorem ownW_nil : OwnW base w (.slice none 0 0) [] := ⟨by simp, Or.inl ⟨rfl, rfl⟩⟩
theorem OwnW.que (h : OwnW base w v xs) : Que base 37 .u64 w v xs := que_of_row h
theorem OwnW.below (h : OwnW base w v xs) {w' : World} (hb : Below w.heap.size w w') : OwnW base w' v xs := by
  obtain ⟨hl, h⟩ := h
  refine ⟨hl, ?_⟩
  rcases h with h | ⟨g, cap, cur, e, hg, hh, r⟩
  · exact Or.inl h
  · exact Or.inr ⟨g, cap, cur, e, hg, (hb.block g (Array.getElem?_eq_some_iff.1 hh).1).trans hh, r⟩

theorem run_nums {P : Program} {t ty : TypeId} {i : TypeInfo} (ht : P.underlying t = some (.slice 37)) (hi : P.info? 37 = some i) (hz : i.zero = some (.int .u64 0)) (hsz : i.size = 1) (hby : i.bytes = 8)
    (h : OwnW base w v xs) (p : Option Addr) (c : Nat) (zs : List Int) (hN : NumsIn .u64 w p zs) (hlen : xs.length + zs.length ≤ 100000) (hbase : base ≤ w.heap.size) :
    ∃ v' w', (Builtin.append_ #[t, t] ty #[v, .slice p zs.length c]).run P w = .ok v' w' ∧ OwnW base w' v' (xs ++ zs) ∧ w.grownBy w' v.ownBlock := by
  cases p with
  | none =>
    have hz0 : zs = [] := by
      cases zs with
      | nil => rfl
      | cons z r => obtain ⟨b, o, e, _⟩ := hN (by simp); cases e
    subst hz0
    refine ⟨v, w, ?_, by simpa using h, ⟨rfl, rfl, rfl, Nat.le_refl _, fun _ _ _ => rfl⟩⟩
    rcases h.2 with ⟨rfl, hn⟩ | ⟨g, cap, cur, rfl, _, _, hnc, _⟩
    · simp [Builtin.append_, run_underlying ht, sizeOf, typeInfo, hi, Builtin.lenOf, Builtin.firstCells]
    · simp [Builtin.append_, run_underlying ht, sizeOf, typeInfo, hi, Builtin.lenOf, Builtin.firstCells, hnc, storeCells]
  | some ad =>
    obtain ⟨v', w', h1, h2, h3, _⟩ := run_append_own_at (P := P) w base t ty 37 i (.int .u64 0) 1 8 ht hi hz hsz hby rfl (by omega) v xs.length (xs.map (Value.int .u64)) h ad zs.length c (zs.map (Value.int .u64)) (by simp) (fun j u hj => by
        have hjl : j < zs.length := by simpa using (List.getElem?_eq_some_iff.1 hj).1
        obtain ⟨b, o, e, hc⟩ := hN (by omega)
        cases e
        rw [Addr.add_lit, hc j hjl]
        simpa [hjl] using hj) (fun u hu => by obtain ⟨_, _, rfl⟩ := List.mem_map.1 hu; rfl) (by unfold maxLen; omega) (by omega) hbase
    refine ⟨v', w', h1, ?_, h3⟩
    unfold OwnW
    rw [List.map_append, List.length_append]
    exact h2

theorem wpList_nums {P : Program} {t : TypeId} {i : TypeInfo} {ops : Array Oper} {rest : List Oper} {o : Oper} {a : Act} {Q : Exit → Act → World → Prop} (hgd : o.guard = none) (s y : Operand)
    (ho : o.op = .call { callee := .builtin .append, args := #[s, y], argTypes := #[t, t] }) (ht : P.underlying t = some (.slice 37)) (hi : P.info? 37 = some i) (hz : i.zero = some (.int .u64 0)) (hsz : i.size = 1) (hby : i.bytes = 8)
    (hs : a.eval s = v) (h : OwnW base w v xs) (p : Option Addr) (m c : Nat) (hy : a.eval y = .slice p m c) (zs : List Int) (hm : zs.length = m) (hN : NumsIn .u64 w p zs) (N : Nat) (ys : List Int) (hys : xs ++ zs = ys) (hyl : ys.length = N) (hlen : N ≤ 100000) (hbase : base ≤ w.heap.size)
    (hK : ∀ p' c' w', OwnW base w' (.slice p' N c') ys → NumsIn .u64 w' p' ys → w.grownBy w' v.ownBlock → wpList P ops Q rest (a.put o.dst (.slice p' N c')) w') : wpList P ops Q (o :: rest) a w := by
  subst hm hys hyl
  rw [List.length_append] at hlen
  refine wpList_plain hgd fun K hK' => ?_
  obtain ⟨v', w', hr, h2, h3⟩ := run_nums (P := P) (ty := o.type) ht hi hz hsz hby h p c zs hN hlen hbase
  unfold Oper.wp execOp
  simp only [ho, resolve, invoke, builtin, Sem.run_bind, Sem.run_pure, Result.andThen_ok, List.map_toArray, List.map_cons, List.map_nil, hs, hy, hr]
  obtain ⟨p', c', e, hp⟩ := h2.que.val
  subst e
  exact hK' _ _ (hK p' c' w' h2 (fun h0 => hp h0) h3)
end

end Go.Proofs.Ytnlohmkgkihldaa.W
