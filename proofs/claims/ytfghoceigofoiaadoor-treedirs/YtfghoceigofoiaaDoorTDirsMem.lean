/-
  TreeDirs: a tree and rows of the law's own beside it.
-/
import Derived.Test.YtfghoceigofoiaaDoorTDirsMath
import Derived.Maps.AppendAt
import Derived.Laws.OwnMore
namespace Go.Proofs.YtfghoceigofoiaaDoor.T
open Go.ChangeShapes Go.WideShapes Go.ChangeAt Go.RowKit
open Go.Proofs.YtfghoceigofoiaaDoor.N (bs bs_data bs_size bs_inj)
open Go.Proofs.YtfghoceigofoiaaDoor.A (Tm TRow)

def irow (I : Nat → Int) (n : Nat) : List Value := (List.range n).map fun k => .int .i64 (I k)
def brow (G : Nat → Bool) (n : Nat) : List Value := (List.range n).map fun k => .bool (G k)
theorem irow_len (I : Nat → Int) (n : Nat) : (irow I n).length = n := by simp [irow]
theorem brow_len (G : Nat → Bool) (n : Nat) : (brow G n).length = n := by simp [brow]
theorem irow_get {I : Nat → Int} {n k : Nat} (h : k < n) : (irow I n)[k]? = some (.int .i64 (I k)) := by simp [irow, h]
theorem brow_get {G : Nat → Bool} {n k : Nat} (h : k < n) : (brow G n)[k]? = some (.bool (G k)) := by simp [brow, h]
theorem irow_set (I : Nat → Int) (n j : Nat) (v : Int) : (irow I n).set j (.int .i64 v) = irow (upd I j v) n := by
  apply List.ext_getElem
  · simp [irow]
  · intro k h1 h2
    simp only [irow, List.getElem_set, List.getElem_map, List.getElem_range, upd]
    by_cases e : j = k
    · simp [e]
    · simp [e, Ne.symm e]
theorem brow_set (G : Nat → Bool) (n j : Nat) (v : Bool) : (brow G n).set j (.bool v) = brow (upd G j v) n := by
  apply List.ext_getElem
  · simp [brow]
  · intro k h1 h2
    simp only [brow, List.getElem_set, List.getElem_map, List.getElem_range, upd]
    by_cases e : j = k
    · simp [e]
    · simp [e, Ne.symm e]
theorem irow_snoc (I : Nat → Int) (n : Nat) (v : Int) : irow I n ++ [.int .i64 v] = irow (upd I n v) (n + 1) := by
  simp only [irow, List.range_succ, List.map_append, List.map_cons, List.map_nil, upd_same]
  congr 1
  apply List.map_congr_left
  intro k hk
  rw [upd_other _ _ (by have := List.mem_range.1 hk; omega)]
theorem brow_snoc (G : Nat → Bool) (n : Nat) (v : Bool) : brow G n ++ [.bool v] = brow (upd G n v) (n + 1) := by
  simp only [brow, List.range_succ, List.map_append, List.map_cons, List.map_nil, upd_same]
  congr 1
  apply List.map_congr_left
  intro k hk
  rw [upd_other _ _ (by have := List.mem_range.1 hk; omega)]
theorem irow_id (n : Nat) : irow (fun k => (k : Int)) n ++ [.int .i64 n] = irow (fun k => (k : Int)) (n + 1) := by
  simp [irow, List.range_succ]

theorem cnt_le (U : Nat → Int) (G : Nat → Bool) (d : Int) : ∀ n : Nat, cnt U G d n ≤ n
  | 0 => Int.le_refl _
  | n + 1 => by
    have := cnt_le U G d n
    unfold cnt
    split <;> omega

/-- a row of the law's own -/
structure Rx where
  g : Nat
  cap : Nat
  e : TypeId
  xs : List Value
def Rx.v (r : Rx) : Value := .slice (some ⟨r.g, 0, none⟩) r.xs.length r.cap
structure DM (w0 V : World) (b c : Nat) (F : Nat → Prop) (st : St) (R : List Rx) : Prop where
  ty : TY w0 V b c F st
  row : ∀ r ∈ R, V.ownsRow 0 r.e 1 r.v r.xs.length r.xs ∧ ¬ F r.g ∧ w0.heap.size ≤ r.g
  ne : R.Pairwise (fun r r' => r.g ≠ r'.g)

section
variable {w0 V : World} {b c : Nat} {F : Nat → Prop} {st : St} {R R1 R2 : List Rx} {r : Rx}
theorem Rx.lt (h : V.ownsRow 0 r.e 1 r.v r.xs.length r.xs) : r.g < V.heap.size := (World.ownsRow.lt h r.g rfl).2
theorem DM.keep (h : DM w0 V b c F st R) {V' : World} {c' : Nat} {F' : Nat → Prop} {st' : St} (ht : TY w0 V' b c' F' st') (hk : ∀ k, k < V.heap.size → ¬ F k → V'.heap[k]? = V.heap[k]? ∧ ¬ F' k) : DM w0 V' b c' F' st' R :=
  ⟨ht, fun r hr => by
    obtain ⟨h1, h2, h3⟩ := h.row r hr
    obtain ⟨h4, h5⟩ := hk r.g (Rx.lt h1) h2
    exact ⟨row_of h1 (fun k e => by obtain rfl : r.g = k := Option.some.inj e; exact h4), h5, h3⟩, h.ne⟩
theorem DM.below (h : DM w0 V b c F st R) {V' : World} (hb : Below V.heap.size V V') : DM w0 V' b c F st R := h.keep (h.ty.below hb) (fun k hk hf => ⟨hb.block k hk, hf⟩)
theorem DM.alloc (h : DM w0 V b c F st R) (o : Obj) : DM w0 (V.alloc o) b c F st R := h.below (one_new _ _)
theorem DM.drewN (h : DM w0 V b c F st R) (n : Nat) : DM w0 (V.drewN n) b c F st R := h.below (bel_drewN V n)
theorem DM.drew (h : DM w0 V b c F st R) : DM w0 V.drew b c F st R := h.below (Below.refl _ _).drew
theorem DM.went (h : DM w0 V b c F st R) {V' : World} {c' : Nat} {F' : Nat → Prop} {st' : St} (ht : TreeAt V' b F' c' st') (hw : Went F V F' V') : DM w0 V' b c' F' st' R :=
  h.keep (h.ty.went ht hw) (fun k hk hf => ⟨hw.block k hk hf, hw.out hk hf⟩)
theorem DM.mono (h : DM w0 V b c F st R) {c' : Nat} (hc : c ≤ c') : DM w0 V b c' F st R := ⟨⟨h.ty.tree.mono hc, h.ty.bel, h.ty.ge⟩, h.row, h.ne⟩
theorem DM.push (h : DM w0 V b c F st R) (cs : Array Value) (e : TypeId) (hs : cs.size ≤ maxLen) : DM w0 (V.alloc (.cells cs e (0, 0))) b c F st (R ++ [⟨V.heap.size, cs.size, e, cs.toList⟩]) :=
  ⟨h.ty.alloc _, fun r hr => by
    rcases List.mem_append.1 hr with hr | hr
    · exact (h.alloc _).row r hr
    · obtain rfl := List.mem_singleton.1 hr
      refine ⟨⟨by simp, Or.inr ⟨V.heap.size, cs.size, cs, by simp [Rx.v], Nat.zero_le _, heap_alloc_new V _, by simp, hs, by simp, List.take_of_length_le (by simp)⟩⟩, h.ty.new (Nat.le_refl _), h.ty.bel.size⟩,
   List.pairwise_append.2 ⟨h.ne, List.pairwise_singleton _ _, fun r hr r' hr' => by
    obtain rfl := List.mem_singleton.1 hr'
    have := Rx.lt (h.row r hr).1
    show r.g ≠ V.heap.size
    omega⟩⟩
theorem mid_mem (R1 R2 : List Rx) (r : Rx) : r ∈ R1 ++ r :: R2 := by simp
theorem mid_ne (h : (R1 ++ r :: R2).Pairwise (fun r r' => r.g ≠ r'.g)) : ∀ q, q ∈ R1 ∨ q ∈ R2 → q.g ≠ r.g := by
  rw [List.pairwise_append] at h
  intro q hq
  rcases hq with hq | hq
  · exact h.2.2 q hq r (by simp)
  · exact ((List.pairwise_cons.1 h.2.1).1 q hq).symm
theorem mid_pair {r' : Rx} (h : (R1 ++ r :: R2).Pairwise (fun r r' => r.g ≠ r'.g)) (hn : ∀ q, q ∈ R1 ∨ q ∈ R2 → q.g ≠ r'.g) : (R1 ++ r' :: R2).Pairwise (fun r r' => r.g ≠ r'.g) := by
  rw [List.pairwise_append] at h ⊢
  refine ⟨h.1, List.pairwise_cons.2 ⟨fun q hq => (hn q (Or.inr hq)).symm, (List.pairwise_cons.1 h.2.1).2⟩, fun a ha q hq => ?_⟩
  rcases List.mem_cons.1 hq with rfl | hq
  · exact hn a (Or.inl ha)
  · exact h.2.2 a ha q (by simp [hq])
/-- one row grows, or is stored into -/
theorem DM.turn {r' : Rx} (h : DM w0 V b c F st (R1 ++ r :: R2)) {V' : World} (hg : V.grownBy V' (some r.g)) (ho : V'.ownsRow 0 r'.e 1 r'.v r'.xs.length r'.xs) (hat : r'.g = r.g ∨ r'.g = V.heap.size) : DM w0 V' b c F st (R1 ++ r' :: R2) := by
  obtain ⟨h1, h2, h3⟩ := h.row r (mid_mem _ _ _)
  have hF : ∀ i, F i → V'.heap[i]? = V.heap[i]? := fun i hi => hg.block i (h.ty.tree.ltF i hi) (fun e => h2 (by rw [Option.some.inj e] at hi; exact hi))
  have hn := mid_ne h.ne
  refine ⟨⟨h.ty.tree.keep hg.size hF, ⟨hg.os.trans h.ty.bel.os, hg.tape.trans h.ty.bel.tape, hg.output.trans h.ty.bel.output, Nat.le_trans h.ty.bel.size hg.size, fun k hk => (hg.block k (Nat.lt_of_lt_of_le hk h.ty.bel.size) (fun e => by have := Option.some.inj e; omega)).trans (h.ty.bel.block k hk)⟩, h.ty.ge⟩, fun q hq => ?_, mid_pair h.ne fun q hq => ?_⟩
  · have old : q ∈ R1 ∨ q ∈ R2 → V'.ownsRow 0 q.e 1 q.v q.xs.length q.xs ∧ ¬ F q.g ∧ w0.heap.size ≤ q.g := fun hq => by
      obtain ⟨q1, q2, q3⟩ := h.row q (by rcases hq with hq | hq <;> simp [hq])
      exact ⟨row_of q1 (fun k e => by obtain rfl : q.g = k := Option.some.inj e; exact hg.block _ (Rx.lt q1) (fun e => hn q hq (Option.some.inj e))), q2, q3⟩
    rcases List.mem_append.1 hq with hq | hq
    · exact old (Or.inl hq)
    · rcases List.mem_cons.1 hq with rfl | hq
      · rcases hat with e | e
        · exact ⟨ho, by rw [e]; exact h2, by rw [e]; exact h3⟩
        · exact ⟨ho, by rw [e]; exact h.ty.new (Nat.le_refl _), by rw [e]; exact h.ty.bel.size⟩
      · exact old (Or.inr hq)
  · rcases hat with e | e
    · rw [e]; exact hn q hq
    · have := Rx.lt (h.row q (by rcases hq with hq | hq <;> simp [hq])).1
      omega
theorem DM.set (h : DM w0 V b c F st (R1 ++ r :: R2)) (j : Nat) (u : Value) : DM w0 (V.setCell ⟨r.g, j, none⟩ u) b c F st (R1 ++ ⟨r.g, r.cap, r.e, r.xs.set j u⟩ :: R2) := by
  obtain ⟨h1, h2, h3⟩ := h.row r (mid_mem _ _ _)
  obtain ⟨k1, k2⟩ := World.ownsRow.stored (w := V) (base := 0) (e := r.e) (size := 1) h1 j u
  refine h.turn k2 ?_ (Or.inl rfl)
  simpa [Rx.v] using k1
theorem DM.app (h : DM w0 V b c F st (R1 ++ r :: R2)) {V' : World} {v' : Value} {u : Value} {n : Nat} (hn : r.xs.length = n) (ho : V'.ownsRow 0 r.e 1 v' (n + 1) (r.xs ++ [u])) (hg : V.grownBy V' r.v.ownBlock) (hat : v'.ownBlock = r.v.ownBlock ∨ v'.ownBlock = some V.heap.size) :
    ∃ g' cap', v' = .slice (some ⟨g', 0, none⟩) (n + 1) cap' ∧ DM w0 V' b c F st (R1 ++ ⟨g', cap', r.e, r.xs ++ [u]⟩ :: R2) := by
  subst hn
  have ho' := ho
  rcases ho.2 with ⟨_, e⟩ | ⟨g', cap', cur, e, _⟩
  · omega
  · subst e
    refine ⟨g', cap', rfl, h.turn (r' := ⟨g', cap', r.e, r.xs ++ [u]⟩) hg ?_ ?_⟩
    · simpa [Rx.v] using ho'
    · rcases hat with e | e
      · exact Or.inl (Option.some.inj e)
      · exact Or.inr (Option.some.inj e)
theorem DM.cell (h : DM w0 V b c F st R) (hr : r ∈ R) {k : Nat} {u : Value} (hk : r.xs[k]? = some u) : V.cell? ⟨r.g, k, none⟩ = some u := by
  have := World.ownsRow.cellAt (w := V) (base := 0) (e := r.e) (size := 1) (h.row r hr).1 k (by have := (List.getElem?_eq_some_iff.1 hk).1; omega)
  rw [this, hk]
theorem DM.own (h : DM w0 V b c F st R) (hr : r ∈ R) {n : Nat} (hn : r.xs.length = n) : V.ownsRow 0 r.e 1 (.slice (some ⟨r.g, 0, none⟩) n r.cap) n r.xs := by
  subst hn
  exact (h.row r hr).1
theorem DM.lt (h : DM w0 V b c F st R) (hr : r ∈ R) : r.g < V.heap.size := Rx.lt (h.row r hr).1
theorem DM.fz (h : DM w0 V b c F st R) (hr : r ∈ R) (k : Nat) : V.frozen? ⟨r.g, k, none⟩ = false := World.ownsRow.frozenAt (w := V) (base := 0) (e := r.e) (size := 1) (h.row r hr).1 k
end

theorem info_int : (Tryd.prog.info? 3).map (fun i => (i.zero, i.size, i.bytes)) = some (some (.int .i64 0), 1, 8) := by kernel_rfl
theorem info_bool : (Tryd.prog.info? 4).map (fun i => (i.zero, i.size, i.bytes)) = some (some (.bool false), 1, 1) := by kernel_rfl

/-- no more names than directories -/
theorem nodup_lt : ∀ (n : Nat) (l : List Nat), l.Nodup → (∀ k ∈ l, k < n) → l.length ≤ n
  | 0, l, _, h => by
    cases l with
    | nil => simp
    | cons a l => exact absurd (h a (by simp)) (by omega)
  | n + 1, l, hn, h => by
    have h1 := nodup_lt n (l.erase n) (hn.erase n) (fun k hk => by
      have h2 := h k (List.mem_of_mem_erase hk)
      have h3 : k ≠ n := fun e => by subst e; exact (List.Nodup.not_mem_erase hn) hk
      omega)
    have h2 := List.length_erase_le (a := n) (l := l)
    by_cases e : n ∈ l
    · rw [List.length_erase_of_mem e] at h1
      omega
    · rw [List.erase_of_not_mem e] at h1
      omega

end Go.Proofs.YtfghoceigofoiaaDoor.T
