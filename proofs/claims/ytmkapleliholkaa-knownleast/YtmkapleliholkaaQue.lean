/-
  A slice of one-cell numbers that a call owns, wherever in its row it begins: nil, or a window of a row from block 'base' on. It is read, cut at its head, and appended to.
-/
import Derived.WalkKit
import Derived.ProofKit
import Derived.Below
import Derived.Maps.AppendAt
import Derived.ChangeSlices
import Derived.OpenShut
namespace Go.Proofs.Ytmkapleliholkaa.W
open Go.ChangeShapes Go.WideShapes Go.ChangeAt Go.RowKit

/-- v holds the numbers xs in a window of a row of its own -/
def Que (base : Nat) (e : TypeId) (k : IntKind) (w : World) (v : Value) (xs : List Int) : Prop :=
  (v = .slice none 0 0 ∧ xs = []) ∨
  ∃ g off cap cur, v = .slice (some ⟨g, off, none⟩) xs.length cap ∧ base ≤ g ∧ w.heap[g]? = some (.cells cur e (0, 0)) ∧ xs.length ≤ cap ∧ off + cap ≤ cur.size ∧ ∀ i, i < xs.length → cur[off + i]? = some (.int k (xs.getD i 0))

section
variable {base : Nat} {e : TypeId} {k : IntKind} {w : World} {v : Value} {xs : List Int}

theorem que_nil : Que base e k w (.slice none 0 0) [] := Or.inl ⟨rfl, rfl⟩
theorem Que.lt (h : Que base e k w v xs) : ∀ g, v.ownBlock = some g → base ≤ g ∧ g < w.heap.size := by
  intro g hg
  rcases h with ⟨rfl, _⟩ | ⟨g', off, cap, cur, rfl, hb, hh, _⟩
  · simp [Value.ownBlock] at hg
  · simp [Value.ownBlock] at hg
    subst hg
    exact ⟨hb, (Array.getElem?_eq_some_iff.1 hh).1⟩
theorem Que.keep (h : Que base e k w v xs) {w' : World} (hk : ∀ g, v.ownBlock = some g → w'.heap[g]? = w.heap[g]?) : Que base e k w' v xs := by
  rcases h with h | ⟨g, off, cap, cur, rfl, hb, hh, r⟩
  · exact Or.inl h
  · exact Or.inr ⟨g, off, cap, cur, rfl, hb, (hk g rfl).trans hh, r⟩
theorem Que.below (h : Que base e k w v xs) {w' : World} (hb : Below w.heap.size w w') : Que base e k w' v xs := h.keep (fun g hg => hb.block g (h.lt g hg).2)
theorem Que.drew (h : Que base e k w v xs) : Que base e k w.drew v xs := h.keep (fun _ _ => rfl)
theorem Que.val (h : Que base e k w v xs) : ∃ p cap, v = .slice p xs.length cap ∧ (0 < xs.length → ∃ g off, p = some ⟨g, off, none⟩ ∧ ∀ i, i < xs.length → w.cell? ⟨g, off + i, none⟩ = some (.int k (xs.getD i 0))) := by
  rcases h with ⟨rfl, rfl⟩ | ⟨g, off, cap, cur, rfl, hb, hh, hl, hs, hc⟩
  · exact ⟨none, 0, rfl, fun h => by simp at h⟩
  · exact ⟨_, cap, rfl, fun _ => ⟨g, off, rfl, fun i hi => by rw [cell_of_row w g _ cur e (0, 0) hh]; exact hc i hi⟩⟩
/-- .. and what a cut of its first element leaves -/
theorem Que.cut {x : Int} (h : Que base e k w v (x :: xs)) : ∃ g off cap, v = .slice (some ⟨g, off, none⟩) (xs.length + 1) cap ∧ xs.length + 1 ≤ cap ∧ w.cell? ⟨g, off, none⟩ = some (.int k x) ∧
    (cap = 1 → Que base e k w (.slice (some ⟨g, off, none⟩) xs.length (cap - 1)) xs) ∧ (cap ≠ 1 → Que base e k w (.slice (some ⟨g, off + 1, none⟩) xs.length (cap - 1)) xs) := by
  rcases h with ⟨_, h⟩ | ⟨g, off, cap, cur, rfl, hb, hh, hl, hs, hc⟩
  · cases h
  · simp at hl
    refine ⟨g, off, cap, rfl, hl, ?_, fun h1 => ?_, fun h1 => ?_⟩
    · rw [cell_of_row w g _ cur e (0, 0) hh]
      simpa using hc 0 (by simp)
    · exact Or.inr ⟨g, off, cap - 1, cur, rfl, hb, hh, by omega, by omega, fun i hi => by omega⟩
    · refine Or.inr ⟨g, off + 1, cap - 1, cur, rfl, hb, hh, by omega, by omega, fun i hi => ?_⟩
      have := hc (i + 1) (by simpa using hi)
      rw [show off + 1 + i = off + (i + 1) by omega, this]
      simp

/-- one number more at its end -/
theorem que_append {P : Program} {t ty : TypeId} {i : TypeInfo} {bytes : Nat} (ht : P.underlying t = some (.slice e)) (hi : P.info? e = some i) (hz : i.zero = some (.int k 0)) (hsz : i.size = 1) (hby : i.bytes = bytes) (hb8 : bytes ≤ 8)
    (h : Que base e k w v xs) (hlen : xs.length ≤ 100000) (hbase : base ≤ w.heap.size) (ad : Addr) (c : Nat) (x : Int) (hx : w.cell? (ad.add 0) = some (.int k x)) :
    ∃ v' w', (Builtin.append_ #[t, t] ty #[v, .slice (some ad) 1 c]).run P w = .ok v' w' ∧ Que base e k w' v' (xs ++ [x]) ∧ w.grownBy w' v.ownBlock ∧ (v'.ownBlock = v.ownBlock ∨ v'.ownBlock = some w.heap.size) := by
  have hnews : ∀ j u, [Value.int k x][j]? = some u → w.cell? (ad.add j) = some u := by
    intro j u hj
    match j, hj with
    | 0, hj =>
      simp at hj
      rw [← hj]
      exact hx
  have hgrow : ∀ n' old (ys : Array Value), ys.size = xs.length + 1 → (∀ j, j < xs.length + 1 → ys[j]? = some (.int k ((xs ++ [x]).getD j 0))) → n' = xs.length + 1 → ∀ row,
      Que base e k (w.drew.alloc (.cells (ys ++ Builtin.zeroCells (Value.int k 0).cells (grownCap w n' old e - n')) e)) (.slice (some ⟨w.heap.size, 0, none⟩) n' (grownCap w n' old e)) (xs ++ [x]) ∧
      w.grownBy (w.drew.alloc (.cells (ys ++ Builtin.zeroCells (Value.int k 0).cells (grownCap w n' old e - n')) e)) row := by
    intro n' old ys hys hcs hn row
    subst hn
    have hge := grownCap_ge w (xs.length + 1) old e
    refine ⟨Or.inr ⟨w.heap.size, 0, grownCap w (xs.length + 1) old e, _, by simp, hbase, heap_alloc_new w.drew _, by simpa using hge, ?_, fun j hj => ?_⟩, ⟨rfl, rfl, rfl, by simp, fun j hj _ => heap_alloc_old w.drew _ hj⟩⟩
    · simp [size_zeroCells, hys, Value.cells]
      omega
    · simp at hj
      rw [Nat.zero_add, Array.getElem?_append_left (by omega)]
      exact hcs j hj
  rcases h with ⟨rfl, rfl⟩ | ⟨g, off, cap, cur, rfl, hb, hh, hl, hs, hc⟩
  · have hr := run_append_nil (P := P) w t ty e i (.int k 0) ht hi hz ad 1 c [.int k x] (by simp [hsz]) hnews (by omega) (by omega) (by omega)
    obtain ⟨q1, q2⟩ := hgrow 1 0 #[.int k x] (by simp) (fun j hj => by simp at hj; subst hj; simp) (by simp) none
    refine ⟨_, _, hr, ?_, q2, Or.inr rfl⟩
    simpa using q1
  · by_cases hroom : xs.length + 1 ≤ cap
    · have hf := run_firstCells_some (P := P) w i.size 1 ad 1 c [.int k x] (by simp [hsz]) hnews
      have hst := run_storeCells_at P g (off + xs.length) e [.int k x] 0 cur w hh (by simp; omega) (by simp [Value.oneCell'])
      refine ⟨.slice (some ⟨g, off, none⟩) (xs.length + 1) cap, w.setRow g (cur.toList.take (off + xs.length) ++ [Value.int k x] ++ cur.toList.drop (off + xs.length + 1)).toArray, ?_, ?_, ⟨rfl, rfl, rfl, by simp, fun j _ hj => setRow_other w g j _ (fun e => hj (by simp [Value.ownBlock, e]))⟩, Or.inl rfl⟩
      · simp only [Nat.add_zero, List.length_singleton] at hst
        simp [Builtin.append_, run_underlying ht, sizeOf, typeInfo, hi, hsz, Builtin.lenOf, hroom] at hf ⊢
        simp [hf, Addr.add_lit, hst]
      · refine Or.inr ⟨g, off, cap, _, by simp, hb, setRow_heap w g cur _ e _ hh, by simpa using hroom, ?_, fun j hj => ?_⟩
        · simp
          omega
        · simp at hj
          by_cases hjl : j < xs.length
          · have := hc j hjl
            rw [List.getElem?_toArray, List.getElem?_append_left (by simp; omega), List.getElem?_append_left (by simp; omega), List.getElem?_take_of_lt (by omega)]
            simpa [List.getD, List.getElem?_append_left hjl] using this
          · obtain rfl : j = xs.length := by omega
            rw [List.getElem?_toArray, List.getElem?_append_left (by simp; omega), List.getElem?_append_right (by simp; omega)]
            have : min (off + xs.length) cur.size = off + xs.length := by omega
            simp [this]
    · have hr := run_append_grow (P := P) w t ty e i (.int k 0) ht hi hz ⟨g, off, none⟩ xs.length cap (xs.map (Value.int k)) (by simp [hsz]) (fun j u hj => by
          rw [Addr.add_lit, cell_of_row w g _ cur e (0, 0) hh]
          have hjl : j < xs.length := by simpa using (List.getElem?_eq_some_iff.1 hj).1
          rw [hc j hjl]
          simpa [hjl] using hj) ad 1 c [.int k x] (by simp [hsz]) hnews (by omega) (by omega) (growslice_fits (by omega) (by rw [hby]; exact Nat.le_trans (Nat.mul_le_mul_left _ hb8) (by omega)))
      obtain ⟨q1, q2⟩ := hgrow (xs.length + 1) cap ((xs.map (Value.int k)).toArray ++ [Value.int k x].toArray) (by simp) (fun j hj => by
        by_cases hjl : j < xs.length
        · simp [hjl, List.getElem?_append_left]
        · obtain rfl : j = xs.length := by omega
          simp) rfl (some g)
      exact ⟨_, _, hr, q1, q2, Or.inr rfl⟩

theorem wpList_que {P : Program} {t : TypeId} {i : TypeInfo} {bytes : Nat} {ops : Array Oper} {rest : List Oper} {o : Oper} {a : Act} {Q : Exit → Act → World → Prop} (hgd : o.guard = none) (s y : Operand)
    (ho : o.op = .call { callee := .builtin .append, args := #[s, y], argTypes := #[t, t] }) (ht : P.underlying t = some (.slice e)) (hi : P.info? e = some i) (hz : i.zero = some (.int k 0)) (hsz : i.size = 1) (hby : i.bytes = bytes) (hb8 : bytes ≤ 8)
    (hs : a.eval s = v) (h : Que base e k w v xs) (hlen : xs.length ≤ 100000) (hbase : base ≤ w.heap.size) (ad : Addr) (c : Nat) (hy : a.eval y = .slice (some ad) 1 c) (x : Int) (hx : w.cell? (ad.add 0) = some (.int k x))
    (hK : ∀ v' w', Que base e k w' v' (xs ++ [x]) → w.grownBy w' v.ownBlock → (v'.ownBlock = v.ownBlock ∨ v'.ownBlock = some w.heap.size) → wpList P ops Q rest (a.put o.dst v') w') : wpList P ops Q (o :: rest) a w := by
  refine wpList_plain hgd fun K hK' => ?_
  obtain ⟨v', w', hr, h2, h3, h4⟩ := que_append (P := P) (ty := o.type) ht hi hz hsz hby hb8 h hlen hbase ad c x hx
  unfold Oper.wp execOp
  simp only [ho, resolve, invoke, builtin, Sem.run_bind, Sem.run_pure, Result.andThen_ok, List.map_toArray, List.map_cons, List.map_nil, hs, hy, hr]
  exact hK' _ _ (hK v' w' h2 h3 h4)

end

/-- a slice of numbers that came in, as it is read -/
def NumsIn (k : IntKind) (w : World) (a : Option Addr) (zs : List Int) : Prop :=
  0 < zs.length → ∃ b o, a = some ⟨b, o, none⟩ ∧ ∀ i, i < zs.length → w.cell? ⟨b, o + i, none⟩ = some (.int k (zs.getD i 0))

theorem open_nums {H : Type} {enc : TypeId × Value → H} {P : Program} {w : World} {base : Nat} {spare : Nat → Bool} {held : Bool} {r : Reach} {b0 : Nat} {t e : TypeId} {k : IntKind} {v : Value} {d : DataW H} {p : List MemPlace}
    (ht : P.underlying t = some (.slice e)) (he : P.underlying e = some (.int k)) (hc : P.cellsOf e = 1) (hv : Value.okWide P w r b0 t v) (h : DataW.Trod enc P w base spare held t v d p) :
    ∃ a cap zs, v = .slice a zs.length cap ∧ zs.length ≤ maxLen ∧ NumsIn k w a zs ∧ ∀ n ∈ zs, (Lit.int k n).wf = true := by
  obtain ⟨a0, len, cap, rfl⟩ := okWide_slice ht hv
  obtain ⟨fuel, hf⟩ := h
  rcases open_ints ht he hc hf with ⟨hcs, _⟩ | ⟨a, len', cap', zs, hcs, _, hl, hm, hz, _, hcell, hwz⟩
  · simp [Value.cells] at hcs
    obtain ⟨rfl, rfl, rfl⟩ := hcs
    exact ⟨none, 0, [], rfl, by simp, fun h => by simp at h, by simp⟩
  · simp [Value.cells] at hcs
    obtain ⟨rfl, rfl, rfl⟩ := hcs
    have hlen : len ≤ zs.length := by
      rw [hz]
      split <;> omega
    refine ⟨some a, cap, zs.take len, by simp [hlen], ?_, fun h => ?_, fun n hn => hwz n (List.mem_of_mem_take hn)⟩
    · rw [List.length_take]
      omega
    · simp at h
      obtain ⟨b, o, s⟩ := a
      have h0 := hcell 0 (by omega)
      have hs : s = none := by
        cases s with
        | none => rfl
        | some y =>
          exfalso
          simp [World.cell?, Addr.add] at h0
          split at h0 <;> cases h0
      subst hs
      refine ⟨b, o, rfl, fun i hi => ?_⟩
      simp at hi
      have := hcell i (by omega)
      rw [Addr.add_lit] at this
      rw [this]
      simp [List.getD, List.getElem?_take_of_lt (show i < len by omega)]

end Go.Proofs.Ytmkapleliholkaa.W
