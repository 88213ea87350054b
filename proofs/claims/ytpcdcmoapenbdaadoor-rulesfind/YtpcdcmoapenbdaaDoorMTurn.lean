/-
  The document's own tree changes, one step each: a row that is appended to, a cell that is stored, a row that is put in another's place.
-/
import Derived.Test.YtpcdcmoapenbdaaDoorMCan
import Derived.Deep.AppendLies
import Derived.Deep.RegionLaw
namespace Go.Proofs.YtpcdcmoapenbdaaDoor.T
open Go.ChangeShapes Go.WideShapes Go.ChangeAt Go.RowKit
open Go.Proofs.YtpcdcmoapenbdaaDoor.N (bs bs_data bs_size bs_inj bs_of Glob)
open Go.Proofs.YtpcdcmoapenbdaaDoor.A (Tm TRow)

/-- a row was appended to: its block, or a new one; else nothing changed -/
structure Apd (w w' : World) (v v' : Value) : Prop where
  os : w'.os = w.os
  tape : w'.tape = w.tape
  output : w'.output = w.output
  size : w.heap.size ≤ w'.heap.size
  block : ∀ i, i < w.heap.size → v.ownBlock ≠ some i → w'.heap[i]? = w.heap[i]?
  at_ : ∀ k, v'.ownBlock = some k → v.ownBlock = some k ∨ w.heap.size ≤ k
  lt' : ∀ k, v'.ownBlock = some k → k < w'.heap.size

theorem apd_of {w w' : World} {o : Obj} {v : Value} {g n cap : Nat} {a : Nat} (hg : (w.alloc o).grownBy w' v.ownBlock) (hat : v.ownBlock = some g ∨ g = w.heap.size + 1) (hlt : g < w'.heap.size) : Apd w w' v (.slice (some ⟨g, a, none⟩) n cap) where
  os := hg.os
  tape := hg.tape
  output := hg.output
  size := by have := hg.size; simp at this; omega
  block := fun i hi hne => (hg.block i (by simp; omega) (fun e => hne e.symm)).trans (heap_alloc_old w _ hi)
  at_ := fun k e => by
    cases e
    rcases hat with e | e
    · exact Or.inl e
    · right
      show w.heap.size ≤ g
      omega
  lt' := fun k e => by cases e; exact hlt

theorem Went.mk' {F F' F2 : Nat → Prop} {w w' : World} (h : Went F w F' w') (hf : ∀ i, F2 i → F' i ∨ w.heap.size ≤ i) : Went F w F2 w' :=
  ⟨h.os, h.tape, h.output, h.size, h.block, fun i hi => (hf i hi).elim (h.foot i) Or.inr⟩

section
variable {w : World} {b : Nat} {F : Nat → Prop} {bl : List (Br × Value)} {E : List En} {D : List Bool} {vB vL vD : Value}

theorem ML.tagB (h : ML w b F bl E D vB vL vD) {k : Nat} (e : vB.ownBlock = some k) : ∃ cs, w.heap[k]? = some (.cells cs 36 (0, 0)) := row_tag h.rB e
theorem ML.tagL (h : ML w b F bl E D vB vL vD) {k : Nat} (e : vL.ownBlock = some k) : ∃ cs, w.heap[k]? = some (.cells cs 99 (0, 0)) := row_tag h.rL e
theorem ML.tagD (h : ML w b F bl E D vB vL vD) {k : Nat} (e : vD.ownBlock = some k) : ∃ cs, w.heap[k]? = some (.cells cs 4 (0, 0)) := row_tag h.rD e
theorem ML.tagA (h : ML w b F bl E D vB vL vD) {p : Br × Value} (hp : p ∈ bl) {k : Nat} (e : p.2.ownBlock = some k) : ∃ cs, w.heap[k]? = some (.cells cs 91 (0, 0)) := row_tag (h.acl p hp) e

/-- one branch more -/
theorem ML.putB (h : ML w b F bl E D vB vL vD) {w' : World} {v' : Value} {x : Br} {av : Value} (ha : A.Own 0 w av x.acl) (ap : Apd w w' vB v') (hown : w'.ownsRow 0 36 10 v' (bl.length + 1) (bl.flatMap brC ++ brC (x, av))) (hl : bl.length < 1000) :
    ML (w'.setCell ⟨b, 0, none⟩ v') b (fun i => F i ∨ v'.ownBlock = some i ∨ av.ownBlock = some i) (bl ++ [(x, av)]) E D v' vL vD ∧ Went F w (fun i => F i ∨ v'.ownBlock = some i) (w'.setCell ⟨b, 0, none⟩ v') := by
  have nB : vB.ownBlock ≠ some b := fun e => by
    obtain ⟨cs, hcs⟩ := h.tagB e
    exact tag_ne h.head hcs (by decide) rfl
  have hb' : w'.heap[b]? = some (MtO vB vL vD) := (ap.block b h.lt nB).trans h.head
  have oth : ∀ i, i < w.heap.size → i ≠ b → vB.ownBlock ≠ some i → (w'.setCell ⟨b, 0, none⟩ v').heap[i]? = w.heap[i]? := fun i hi hne hn => (other_set _ _ hne).trans (ap.block i hi hn)
  have lt2 : ∀ k, av.ownBlock = some k → k < w.heap.size := fun k e => (World.ownsRow.lt ha k e).2
  have othA : ∀ (q : Value) (l : List Tm), A.Own 0 w q l → A.Own 0 (w'.setCell ⟨b, 0, none⟩ v') q l := fun q l hq => row_of hq (fun k e => by
    obtain ⟨cs, hcs⟩ := row_tag hq e
    refine oth k (World.ownsRow.lt hq k e).2 (tag_ne hcs h.head (by decide)) (fun e' => ?_)
    obtain ⟨cs', hcs'⟩ := h.tagB e'
    exact tag_ne hcs hcs' (by decide) rfl)
  constructor
  · exact {
      head := by rw [head_set hb']; simp
      inF := Or.inl h.inF
      ltF := fun i hi => by
        rw [show (w'.setCell ⟨b, 0, none⟩ v').heap.size = w'.heap.size by simp]
        rcases hi with hi | hi | hi
        · exact Nat.lt_of_lt_of_le (h.ltF i hi) ap.size
        · exact ap.lt' i hi
        · exact Nat.lt_of_lt_of_le (lt2 i hi) ap.size
      rB := by
        rw [List.length_append, List.flatMap_append]
        refine row_of (w := w') (by simpa using hown) (fun k e => ?_)
        obtain ⟨cs, hcs⟩ := row_tag hown e
        exact other_set _ _ (tag_ne hcs hb' (by decide))
      fB := fun k e => Or.inr (Or.inl e)
      rL := row_of h.rL (fun k e => by
        obtain ⟨cs, hcs⟩ := h.tagL e
        refine oth k (h.ltF k (h.fL k e)) (tag_ne hcs h.head (by decide)) (fun e' => ?_)
        obtain ⟨cs', hcs'⟩ := h.tagB e'
        exact tag_ne hcs hcs' (by decide) rfl)
      fL := fun k e => Or.inl (h.fL k e)
      rD := row_of h.rD (fun k e => by
        obtain ⟨cs, hcs⟩ := h.tagD e
        refine oth k (h.ltF k (h.fD k e)) (tag_ne hcs h.head (by decide)) (fun e' => ?_)
        obtain ⟨cs', hcs'⟩ := h.tagB e'
        exact tag_ne hcs hcs' (by decide) rfl)
      fD := fun k e => Or.inl (h.fD k e)
      acl := fun p hp => by
        rcases List.mem_append.1 hp with hp | hp
        · exact othA _ _ (h.acl p hp)
        · rw [List.mem_singleton.1 hp]
          exact othA _ _ ha
      fA := fun p hp k e => by
        rcases List.mem_append.1 hp with hp | hp
        · exact Or.inl (h.fA p hp k e)
        · rw [List.mem_singleton.1 hp] at e
          exact Or.inr (Or.inr e)
      len := ⟨by simp; omega, h.len.2⟩
      ids := fun e he => by have := h.ids e he; simp; omega }
  · refine ⟨ap.os, ap.tape, ap.output, by simpa using ap.size, fun i hi hn => oth i hi (fun e => hn (by rw [e]; exact h.inF)) (fun e => hn (h.fB i e)), fun i hi => ?_⟩
    rcases hi with hi | hi
    · exact Or.inl hi
    · rcases ap.at_ i hi with e | e
      · exact Or.inl (h.fB i e)
      · exact Or.inr e

/-- the entries are in another row, or there is one more -/
theorem ML.putL (h : ML w b F bl E D vB vL vD) {w' : World} {v' : Value} {E' : List En} (ap : Apd w w' vL v') (hown : w'.ownsRow 0 99 3 v' E'.length (E'.flatMap enC)) (hl : E'.length ≤ 1000) (hi : ∀ e ∈ E', e.2.1 < bl.length) :
    ML (w'.setCell ⟨b, 1, none⟩ v') b (fun i => F i ∨ v'.ownBlock = some i) bl E' D vB v' vD ∧ Went F w (fun i => F i ∨ v'.ownBlock = some i) (w'.setCell ⟨b, 1, none⟩ v') := by
  have nB : vL.ownBlock ≠ some b := fun e => by
    obtain ⟨cs, hcs⟩ := h.tagL e
    exact tag_ne h.head hcs (by decide) rfl
  have hb' : w'.heap[b]? = some (MtO vB vL vD) := (ap.block b h.lt nB).trans h.head
  have oth : ∀ i, i < w.heap.size → i ≠ b → vL.ownBlock ≠ some i → (w'.setCell ⟨b, 1, none⟩ v').heap[i]? = w.heap[i]? := fun i hi hne hn => (other_set _ _ hne).trans (ap.block i hi hn)
  constructor
  · exact {
      head := by rw [head_set hb']; simp
      inF := Or.inl h.inF
      ltF := fun i hi => by
        rw [show (w'.setCell ⟨b, 1, none⟩ v').heap.size = w'.heap.size by simp]
        rcases hi with hi | hi
        · exact Nat.lt_of_lt_of_le (h.ltF i hi) ap.size
        · exact ap.lt' i hi
      rL := by
        refine row_of hown (fun k e => ?_)
        obtain ⟨cs, hcs⟩ := row_tag hown e
        exact other_set _ _ (tag_ne hcs hb' (by decide))
      fL := fun k e => Or.inr e
      rB := row_of h.rB (fun k e => by
        obtain ⟨cs, hcs⟩ := h.tagB e
        refine oth k (h.ltF k (h.fB k e)) (tag_ne hcs h.head (by decide)) (fun e' => ?_)
        obtain ⟨cs', hcs'⟩ := h.tagL e'
        exact tag_ne hcs hcs' (by decide) rfl)
      fB := fun k e => Or.inl (h.fB k e)
      rD := row_of h.rD (fun k e => by
        obtain ⟨cs, hcs⟩ := h.tagD e
        refine oth k (h.ltF k (h.fD k e)) (tag_ne hcs h.head (by decide)) (fun e' => ?_)
        obtain ⟨cs', hcs'⟩ := h.tagL e'
        exact tag_ne hcs hcs' (by decide) rfl)
      fD := fun k e => Or.inl (h.fD k e)
      acl := fun p hp => row_of (h.acl p hp) (fun k e => by
        obtain ⟨cs, hcs⟩ := h.tagA hp e
        refine oth k (h.ltF k (h.fA p hp k e)) (tag_ne hcs h.head (by decide)) (fun e' => ?_)
        obtain ⟨cs', hcs'⟩ := h.tagL e'
        exact tag_ne hcs hcs' (by decide) rfl)
      fA := fun p hp k e => Or.inl (h.fA p hp k e)
      len := ⟨h.len.1, hl, h.len.2.2⟩
      ids := hi }
  · refine ⟨ap.os, ap.tape, ap.output, by simpa using ap.size, fun i hi hn => oth i hi (fun e => hn (by rw [e]; exact h.inF)) (fun e => hn (h.fL i e)), fun i hi => ?_⟩
    rcases hi with hi | hi
    · exact Or.inl hi
    · rcases ap.at_ i hi with e | e
      · exact Or.inl (h.fL i e)
      · exact Or.inr e

/-- one directory more -/
theorem ML.putD (h : ML w b F bl E D vB vL vD) {w' : World} {v' : Value} (ap : Apd w w' vD v') (hown : w'.ownsRow 0 4 1 v' (D.length + 1) (D.flatMap boC ++ [.bool true])) (hl : D.length < 1000) :
    ML (w'.setCell ⟨b, 2, none⟩ v') b (fun i => F i ∨ v'.ownBlock = some i) bl E (D ++ [true]) vB vL v' ∧ Went F w (fun i => F i ∨ v'.ownBlock = some i) (w'.setCell ⟨b, 2, none⟩ v') := by
  have nB : vD.ownBlock ≠ some b := fun e => by
    obtain ⟨cs, hcs⟩ := h.tagD e
    exact tag_ne h.head hcs (by decide) rfl
  have hb' : w'.heap[b]? = some (MtO vB vL vD) := (ap.block b h.lt nB).trans h.head
  have oth : ∀ i, i < w.heap.size → i ≠ b → vD.ownBlock ≠ some i → (w'.setCell ⟨b, 2, none⟩ v').heap[i]? = w.heap[i]? := fun i hi hne hn => (other_set _ _ hne).trans (ap.block i hi hn)
  constructor
  · exact {
      head := by rw [head_set hb']; simp
      inF := Or.inl h.inF
      ltF := fun i hi => by
        rw [show (w'.setCell ⟨b, 2, none⟩ v').heap.size = w'.heap.size by simp]
        rcases hi with hi | hi
        · exact Nat.lt_of_lt_of_le (h.ltF i hi) ap.size
        · exact ap.lt' i hi
      rD := by
        rw [List.length_append, List.flatMap_append]
        refine row_of (w := w') (by simpa [boC] using hown) (fun k e => ?_)
        obtain ⟨cs, hcs⟩ := row_tag hown e
        exact other_set _ _ (tag_ne hcs hb' (by decide))
      fD := fun k e => Or.inr e
      rB := row_of h.rB (fun k e => by
        obtain ⟨cs, hcs⟩ := h.tagB e
        refine oth k (h.ltF k (h.fB k e)) (tag_ne hcs h.head (by decide)) (fun e' => ?_)
        obtain ⟨cs', hcs'⟩ := h.tagD e'
        exact tag_ne hcs hcs' (by decide) rfl)
      fB := fun k e => Or.inl (h.fB k e)
      rL := row_of h.rL (fun k e => by
        obtain ⟨cs, hcs⟩ := h.tagL e
        refine oth k (h.ltF k (h.fL k e)) (tag_ne hcs h.head (by decide)) (fun e' => ?_)
        obtain ⟨cs', hcs'⟩ := h.tagD e'
        exact tag_ne hcs hcs' (by decide) rfl)
      fL := fun k e => Or.inl (h.fL k e)
      acl := fun p hp => row_of (h.acl p hp) (fun k e => by
        obtain ⟨cs, hcs⟩ := h.tagA hp e
        refine oth k (h.ltF k (h.fA p hp k e)) (tag_ne hcs h.head (by decide)) (fun e' => ?_)
        obtain ⟨cs', hcs'⟩ := h.tagD e'
        exact tag_ne hcs hcs' (by decide) rfl)
      fA := fun p hp k e => Or.inl (h.fA p hp k e)
      len := ⟨h.len.1, h.len.2.1, by simp; omega⟩
      ids := h.ids }
  · refine ⟨ap.os, ap.tape, ap.output, by simpa using ap.size, fun i hi hn => oth i hi (fun e => hn (by rw [e]; exact h.inF)) (fun e => hn (h.fD i e)), fun i hi => ?_⟩
    rcases hi with hi | hi
    · exact Or.inl hi
    · rcases ap.at_ i hi with e | e
      · exact Or.inl (h.fD i e)
      · exact Or.inr e

theorem ML.headB (h : ML w b F bl E D vB vL vD) {w' : World} {v' : Value} (ap : Apd w w' vB v') : w'.heap[b]? = some (MtO vB vL vD) :=
  (ap.block b h.lt (fun e => by obtain ⟨cs, hcs⟩ := h.tagB e; exact tag_ne h.head hcs (by decide) rfl)).trans h.head
theorem ML.headL (h : ML w b F bl E D vB vL vD) {w' : World} {v' : Value} (ap : Apd w w' vL v') : w'.heap[b]? = some (MtO vB vL vD) :=
  (ap.block b h.lt (fun e => by obtain ⟨cs, hcs⟩ := h.tagL e; exact tag_ne h.head hcs (by decide) rfl)).trans h.head
theorem ML.headD (h : ML w b F bl E D vB vL vD) {w' : World} {v' : Value} (ap : Apd w w' vD v') : w'.heap[b]? = some (MtO vB vL vD) :=
  (ap.block b h.lt (fun e => by obtain ⟨cs, hcs⟩ := h.tagD e; exact tag_ne h.head hcs (by decide) rfl)).trans h.head
theorem mto_cells {w : World} {b : Nat} {vB vL vD : Value} (h : w.heap[b]? = some (MtO vB vL vD)) : w.cell? ⟨b, 0, none⟩ = some vB ∧ w.cell? ⟨b, 1, none⟩ = some vL ∧ w.cell? ⟨b, 2, none⟩ = some vD ∧ (∀ i, w.frozen? ⟨b, i, none⟩ = false) ∧ b < w.heap.size :=
  ⟨by simp [World.cell?, h], by simp [World.cell?, h], by simp [World.cell?, h], fun i => by simp [World.frozen?, h], (Array.getElem?_eq_some_iff.1 h).1⟩

theorem info_br : (Tryd.prog.info? 36).map (fun i => (i.zero, i.size, i.bytes)) = some (some (BrV noBr (.slice none 0 0)), 10, 104) := by kernel_rfl
theorem info_en : (Tryd.prog.info? 99).map (fun i => (i.zero, i.size, i.bytes)) = some (some (.agg #[.int .i64 0, .int .i64 0, .string ByteArray.empty]), 3, 32) := by kernel_rfl
theorem info_bo : (Tryd.prog.info? 4).map (fun i => (i.zero, i.size, i.bytes)) = some (some (.bool false), 1, 1) := by kernel_rfl

/-- terms appended to a slice of one's own, at a step of a region that draws its order -/
theorem step_terms {P : Program} (hP : P = Tryd.prog) {base : Nat} {w : World} {v : Value} {l : List Tm} {ops : Array Oper} {o : Oper} {a : Act} {K : Act → World → Prop} {Q : Exit → Act → World → Prop} {EE : Prop} (hgd : o.guard = none) (s y : Operand)
    (ho : o.op = .call { callee := .builtin .append, args := #[s, y], argTypes := #[32, 32] })
    (hs : a.eval s = v) (hown : A.Own base w v l) (ao : Option Addr) (c : Nat) (ms : List Tm) (hy : a.eval y = .slice ao ms.length c) (hrow : TRow w ao c ms) (hlen : l.length + ms.length ≤ 1000000) (hbase : base ≤ w.heap.size)
    (h : ∀ a' c' w', A.Own base w' (.slice a' (l ++ ms).length c') (l ++ ms) → w.grownBy w' v.ownBlock → K (a.put o.dst (.slice a' (l ++ ms).length c')) w') : if Region.wanted o (yielded ops a.tmps) = true then Oper.wp P o a w K Q else EE := by
  subst hP
  have hw : Region.wanted o (yielded ops a.tmps) = true := by simp [Region.wanted, hgd]
  rw [if_pos hw]
  have h' : ∀ v' w', A.Own base w' v' (l ++ ms) → w.grownBy w' v.ownBlock → K (a.put o.dst v') w' := fun v' w' h1 h2 => by
    obtain ⟨a', c', e, _⟩ := A.Own.row h1
    subst e
    exact h a' c' w' h1 h2
  obtain ⟨i0, hi, hz0, hz1, hz2⟩ := info_parts A.info_term
  cases ao with
  | none =>
    have hc : c = 0 := hrow.2.1 rfl
    have hm : ms = [] := List.length_eq_zero_iff.1 (by have := hrow.1; omega)
    subst hc hm
    have hrun := run_append_owned_none (P := Tryd.prog) (w := w) base 32 o.type 91 i0 4 Tryd.underlying32 hi v _ _ hown
    unfold Oper.wp
    have hy' : a.eval y = .slice none 0 0 := by simpa using hy
    simp [execOp, ho, resolve, invoke, builtin, hs, hy', hrun, Result.andThen]
    exact h' v w (by simpa using hown) (World.grownBy.refl _ _)
  | some ad =>
    refine wp_append_own w s y 32 ho base 91 i0 _ 4 24 Tryd.underlying32 hi hz0 hz1 hz2 rfl (by decide) v _ _ hs hown ad ms.length c (A.flat ms) hy (A.flat_len ms) ?_ (A.flat_one ms) (by unfold maxLen; omega) (by omega) hbase ?_
    · by_cases h0 : 0 < ms.length
      · obtain ⟨bk, o', e, _, _⟩ := hrow.2.2 h0
        cases e
        exact hrow.cells
      · have hm : ms = [] := List.length_eq_zero_iff.1 (by omega)
        subst hm
        intro j u hj
        simp [A.flat] at hj
    · intro v' w' h1 h2 _
      refine h' v' w' ?_ h2
      unfold A.Own
      rw [List.length_append, A.flat_app]
      exact h1

end

end Go.Proofs.YtpcdcmoapenbdaaDoor.T
