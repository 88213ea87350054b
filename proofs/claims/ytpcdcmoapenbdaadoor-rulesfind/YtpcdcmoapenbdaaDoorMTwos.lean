/-
  The program's tree and the document's own side by side in one world: Two. What of the program's deeds was not yet told: a link that is no path, what is not there.
  What each deed does to the program's tree and to the document's own, told by its ways, with both side by side.
  Each deed answers the same in both trees, and the relation is kept (Inv i: behind i deeds).
-/
import Derived.Test.YtpcdcmoapenbdaaDoorWDel
import Derived.Test.YtpcdcmoapenbdaaDoorMRels
import Derived.Test.YtpcdcmoapenbdaaDoorMModels
import Derived.Test.YtpcdcmoapenbdaaDoorMWalkAll
import Derived.Lib.SlicesS
import Derived.Test.YtpcdcmoapenbdaaDoorMAdds
namespace Go.Proofs.YtpcdcmoapenbdaaDoor.T
open Go.ChangeShapes Go.WideShapes Go.ChangeAt Go.RowKit
open Go.Proofs.YtpcdcmoapenbdaaDoor.N (bs bs_data bs_size bs_inj bs_of Glob)
open Go.Proofs.YtpcdcmoapenbdaaDoor.A (Tm TRow)

section
variable {w : World} {b : Nat} {F : Nat → Prop} {c : Nat} {st : St}

set_option maxHeartbeats 1000000 in
theorem add_badG (h : TreeAt w b F c st) {d : Int} {s : Txt} (hd : rng d) (hs : s.length ≤ maxLen) (hf : freeE st d s = 0) {br : Br} {a : Option Addr} {cc : Nat} {r : Int} (hr0 : ¬ r = 0)
    (ht : ∀ V, Below w.heap.size w V → Calls Tryd.prog 40 #[TP b, BrV br (.slice a br.acl.length cc)] V fun e w' => e = .returned (.tuple #[BrV noBr (.slice none 0 0), .int .i64 r]) ∧ Below V.heap.size V w') :
    Calls Tryd.prog 18 #[TP b, .int .i64 d, .string (bs s), BrV br (.slice a br.acl.length cc)] w fun e w' => e = .returned (.tuple #[.int .i64 0, .int .i64 r]) ∧ Below w.heap.size w w' := by
  have H := Lib.hid h
  have HF := Lib.hid hf
  have HT := Lib.hid ht
  have e1 : (r == 0) = false := by simpa using hr0
  clear h hf hr0 ht
  go_enter Tryd.func18, Tryd.ntmps18
  go_wp2_with (first
    | (go_at_call 39; ((refine (free_at (H.out.alloc _) hd hs HF.out).mono ?_); rintro e w1 ⟨rfl, n1, rfl⟩))
    | (go_at_call 40; ((refine (HT.out _ (bel2 (one_new _ _) (bel_drewN _ _))).mono ?_); rintro e w2 ⟨rfl, b2⟩)))
  exact bodyPost_ret (v := .tuple #[.int .i64 0, .int .i64 r]) (by simp [results, Tryd.results18, go_sem]) rfl ⟨rfl, bel2 (bel2 (bel2 (one_new _ _) (bel_drewN _ _)) b2) (one_new _ _)⟩

theorem unname_none (h : TreeAt w b F c st) {d : Int} {s : Txt} (hd : rng d) (hs : s.length ≤ maxLen) (hP : st.P (d, s) = none) :
    Calls Tryd.prog 23 #[TP b, .int .i64 d, .string (bs s)] w fun e w' => e = .returned (.int .i64 4) ∧ w = w' := by
  have hf := find_no h hd hs hP
  clear h
  go_enter Tryd.func23, Tryd.ntmps23
  go_wp2_with (go_at_call 44; ((with_reducible refine hf.mono ?_); rintro e w1 ⟨rfl, rfl⟩))
  go_ret
  exact ⟨rfl, rfl⟩
theorem access_none (h : TreeAt w b F c st) {d : Int} {s : Txt} (hd : rng d) (hs : s.length ≤ maxLen) (hP : st.P (d, s) = none) {v : Value} :
    Calls Tryd.prog 27 #[TP b, .int .i64 d, .string (bs s), v] w fun e w' => e = .returned (.int .i64 4) ∧ w = w' := by
  have h1 := segment_no h hd hs hP
  clear h
  go_enter Tryd.func27, Tryd.ntmps27
  go_wp2_with (go_at_call 52; ((with_reducible refine h1.mono ?_); rintro e w1 ⟨rfl, rfl⟩))
  go_ret
  exact ⟨rfl, rfl⟩
theorem ringed_none (h : TreeAt w b F c st) {d : Int} {s : Txt} (hd : rng d) (hs : s.length ≤ maxLen) (hP : st.P (d, s) = none) {r1 r2 r3 gt : Int} :
    Calls Tryd.prog 29 #[TP b, .int .i64 d, .string (bs s), .agg #[.int .i64 r1, .int .i64 r2, .int .i64 r3, .int .i64 gt]] w fun e w' => e = .returned (.int .i64 4) ∧ Below w.heap.size w w' := by
  have h1 := segment_no (h.alloc (W.BO r1 r2 r3 gt)) hd hs hP
  clear h
  go_enter Tryd.func29, Tryd.ntmps29
  go_wp2_with (go_at_call 52; ((with_reducible refine h1.mono ?_); rintro e w1 ⟨rfl, rfl⟩))
  go_ret
  exact ⟨rfl, one_new _ _⟩
theorem ringed_kind (h : TreeAt w b F c st) {d : Int} {s : Txt} (hd : rng d) (hs : s.length ≤ maxLen) {g : Nat} {x : Nd} (hP : st.P (d, s) = some g) (hN : st.N g = some x) (hk : ¬ x.br.kind = 1) {r1 r2 r3 gt : Int} :
    Calls Tryd.prog 29 #[TP b, .int .i64 d, .string (bs s), .agg #[.int .i64 r1, .int .i64 r2, .int .i64 r3, .int .i64 gt]] w fun e w' => e = .returned (.int .i64 15) ∧ Below w.heap.size w w' := by
  have h1 := segment_kind (h.alloc (W.BO r1 r2 r3 gt)) hd hs hP hN hk
  clear h hN hk
  go_enter Tryd.func29, Tryd.ntmps29
  go_wp2_with (go_at_call 52; ((with_reducible refine h1.mono ?_); rintro e w1 ⟨rfl, rfl⟩))
  go_ret
  exact ⟨rfl, one_new _ _⟩

end

theorem idx_of {l : List Txt} {s : Txt} (h : s ∈ l) : ∃ i, ∃ hi : i < l.length, l[i] = s ∧ Lib.idxOfS (l.map bs) (bs s) = i := by
  obtain ⟨i, hi⟩ : ∃ i, l.findIdx? (fun t => decide (t = s)) = some i := by
    cases hf : l.findIdx? (fun t => decide (t = s)) with
    | none => rw [List.findIdx?_eq_none_iff] at hf; have := hf s h; simp at this
    | some i => exact ⟨i, rfl⟩
  rw [List.findIdx?_eq_some_iff_getElem] at hi
  obtain ⟨h1, h2, h3⟩ := hi
  refine ⟨i, h1, by simpa using h2, ?_⟩
  have := Lib.idxOfS_hit (l.map bs) l.length i (bs s) h1 (by simp) (by simp [List.getD, List.getElem?_eq_getElem h1]; exact congrArg bs (by simpa using h2)) (fun j hj => by
    have h4 := h3 j hj
    have hjl : j < l.length := by omega
    simp [List.getD, List.getElem?_eq_getElem hjl]
    intro e
    have h5 : l[j] = s := bs_inj e
    simp [h5] at h4)
  rw [List.take_of_length_le (by simp)] at this
  exact this

/-- both trees in one world; K: other blocks, as they are -/
structure TwoL (w0 V : World) (b bm : Nat) (K : List (Nat × Obj)) (F Fm : Nat → Prop) (c : Nat) (st : St) (m : Ms) : Prop where
  t : TreeAt V b F c st
  r : MAt V bm Fm m
  dis : ∀ i, F i → ¬ Fm i
  gt : ∀ i, F i → w0.heap.size ≤ i
  gr : ∀ i, Fm i → w0.heap.size ≤ i
  kept : ∀ p ∈ K, V.heap[p.1]? = some p.2 ∧ ¬ F p.1 ∧ ¬ Fm p.1
  bel : Below w0.heap.size w0 V
def Two (w0 V : World) (b bm : Nat) (K : List (Nat × Obj)) (c : Nat) (st : St) (m : Ms) : Prop := ∃ F Fm, TwoL w0 V b bm K F Fm c st m

section
variable {w0 V : World} {b bm : Nat} {K : List (Nat × Obj)} {F Fm : Nat → Prop} {c : Nat} {st : St} {m : Ms}

theorem heap_lt {w : World} {i : Nat} {o : Obj} (h : w.heap[i]? = some o) : i < w.heap.size := (Array.getElem?_eq_some_iff.1 h).1

theorem TwoL.goL (h : TwoL w0 V b bm K F Fm c st m) {w' : World} {F' : Nat → Prop} {c' : Nat} {st' : St} (t' : TreeAt w' b F' c' st') (g : Went F V F' w') : TwoL w0 w' b bm K F' Fm c' st' m :=
  {
    t := t'
    r := h.r.keep g.size (fun i hi => g.block i (h.r.ltF i hi) (fun hf => h.dis i hf hi))
    dis := fun i hf hm => (g.foot i hf).elim (fun h1 => h.dis i h1 hm) (fun h1 => by have := h.r.ltF i hm; omega)
    gt := g.ge h.gt h.bel.size
    gr := h.gr
    kept := fun p hp => ⟨(g.block p.1 (heap_lt (h.kept p hp).1) (h.kept p hp).2.1).trans (h.kept p hp).1, g.out (heap_lt (h.kept p hp).1) (h.kept p hp).2.1, (h.kept p hp).2.2⟩
    bel := h.bel.trans (g.below h.gt h.bel.size) }
theorem TwoL.goT (h : TwoL w0 V b bm K F Fm c st m) {w' : World} {F' : Nat → Prop} {c' : Nat} {st' : St} (t' : TreeAt w' b F' c' st') (g : Went F V F' w') : Two w0 w' b bm K c' st' m := ⟨F', Fm, h.goL t' g⟩
theorem TwoL.goM (h : TwoL w0 V b bm K F Fm c st m) {w' : World} {m' : Ms} (hn : Now Fm V bm m' w') : Two w0 w' b bm K c st m' := by
  obtain ⟨F', r', g⟩ := hn
  exact ⟨F, F', {
    t := h.t.keep g.size (fun i hi => g.block i (h.t.ltF i hi) (fun hf => h.dis i hi hf))
    r := r'
    dis := fun i hf hm => (g.foot i hm).elim (fun h1 => h.dis i hf h1) (fun h1 => by have := h.t.ltF i hf; omega)
    gt := h.gt
    gr := g.ge h.gr h.bel.size
    kept := fun p hp => ⟨(g.block p.1 (heap_lt (h.kept p hp).1) (h.kept p hp).2.2).trans (h.kept p hp).1, (h.kept p hp).2.1, g.out (heap_lt (h.kept p hp).1) (h.kept p hp).2.2⟩
    bel := h.bel.trans (g.below h.gr h.bel.size) }⟩
theorem Two.below (h : Two w0 V b bm K c st m) {V' : World} (hb : Below V.heap.size V V') : Two w0 V' b bm K c st m := by
  obtain ⟨F, Fm, h⟩ := h
  exact ⟨F, Fm, {
    t := h.t.below hb
    r := h.r.below hb
    dis := h.dis
    gt := h.gt
    gr := h.gr
    kept := fun p hp => ⟨(hb.block p.1 (heap_lt (h.kept p hp).1)).trans (h.kept p hp).1, (h.kept p hp).2⟩
    bel := h.bel.trans (hb.mono h.bel.size) }⟩
theorem Two.mono (h : Two w0 V b bm K c st m) {c' : Nat} (hc : c ≤ c') : Two w0 V b bm K c' st m := by
  obtain ⟨F, Fm, h⟩ := h
  exact ⟨F, Fm, ⟨h.t.mono hc, h.r, h.dis, h.gt, h.gr, h.kept, h.bel⟩⟩
theorem Two.drew (h : Two w0 V b bm K c st m) : Two w0 V.drew b bm K c st m := h.below (Below.refl _ _).drew
theorem Two.bel (h : Two w0 V b bm K c st m) : Below w0.heap.size w0 V := by
  obtain ⟨F, Fm, h⟩ := h
  exact h.bel
/-- a block more that is kept -/
theorem Two.more (h : Two w0 V b bm K c st m) {k : Nat} {o : Obj} (hk : V.heap[k]? = some o) (hn : ∀ F Fm, TwoL w0 V b bm K F Fm c st m → ¬ F k ∧ ¬ Fm k) : Two w0 V b bm ((k, o) :: K) c st m := by
  obtain ⟨F, Fm, h⟩ := h
  refine ⟨F, Fm, ⟨h.t, h.r, h.dis, h.gt, h.gr, fun p hp => ?_, h.bel⟩⟩
  rcases List.mem_cons.1 hp with rfl | hp
  · exact ⟨hk, hn F Fm h⟩
  · exact h.kept p hp
theorem Two.alloc (h : Two w0 V b bm K c st m) (o : Obj) : Two w0 (V.alloc o) b bm ((V.heap.size, o) :: K) c st m := by
  obtain ⟨F, Fm, h⟩ := h
  refine ⟨F, Fm, ⟨h.t.below (one_new V o), h.r.below (one_new V o), h.dis, h.gt, h.gr, fun p hp => ?_, h.bel.trans ((one_new V o).mono h.bel.size)⟩⟩
  rcases List.mem_cons.1 hp with rfl | hp
  · exact ⟨heap_alloc_new V o, fun hf => Nat.lt_irrefl _ (h.t.ltF _ hf), fun hf => Nat.lt_irrefl _ (h.r.ltF _ hf)⟩
  · exact ⟨((one_new V o).block p.1 (heap_lt (h.kept p hp).1)).trans (h.kept p hp).1, (h.kept p hp).2⟩
theorem Two.less (h : Two w0 V b bm K c st m) {K' : List (Nat × Obj)} (hs : ∀ p ∈ K', p ∈ K) : Two w0 V b bm K' c st m := by
  obtain ⟨F, Fm, h⟩ := h
  exact ⟨F, Fm, ⟨h.t, h.r, h.dis, h.gt, h.gr, fun p hp => h.kept p (hs p hp), h.bel⟩⟩
theorem Two.at_ (h : Two w0 V b bm K c st m) {k : Nat} {o : Obj} (hp : (k, o) ∈ K) : V.heap[k]? = some o := by
  obtain ⟨F, Fm, h⟩ := h
  exact (h.kept _ hp).1
end

end Go.Proofs.YtpcdcmoapenbdaaDoor.T

namespace Go.Proofs.YtpcdcmoapenbdaaDoor.T
open Go.ChangeShapes Go.WideShapes Go.ChangeAt Go.RowKit
open Go.Proofs.YtpcdcmoapenbdaaDoor.N (bs bs_data bs_size bs_inj bs_of Glob)
open Go.Proofs.YtpcdcmoapenbdaaDoor.A (Tm TRow)

def AddT (st : St) (m : Ms) (d : Int) (s : Txt) (br : Br) (n E : Int) (st' : St) : Prop :=
  E = canE m d s br ∧ ((¬ E = 0 ∧ n = 0 ∧ st' = st) ∨ (E = 0 ∧ ∃ g, st.N g = none ∧ ((br.kind = 1 ∧ n = 0 ∧ st' = segS st g br d s) ∨ (br.kind = 2 ∧ n = st.last + 1 ∧ st' = dirS st g d s) ∨ (br.kind = 3 ∧ n = 0 ∧ st' = linkS st g br.link d s))))
def AddM (m : Ms) (d : Int) (s : Txt) (br : Br) (n E : Int) (m' : Ms) : Prop :=
  E = canE m d s br ∧ ((¬ E = 0 ∧ n = 0 ∧ m' = m) ∨ (E = 0 ∧ ((br.kind = 1 ∧ n = 0 ∧ m' = addM m d s (segB br)) ∨ (br.kind = 2 ∧ n = m.D.length ∧ m' = addDM m d s) ∨ (br.kind = 3 ∧ n = 0 ∧ m' = addM m d s (linkB br.link)))))
def NameT (st : St) (d : Int) (s t : Txt) (r : Int) (st' : St) : Prop :=
  (st.P (d, s) = none ∧ r = 4 ∧ st' = st) ∨ ∃ g x, st.P (d, s) = some g ∧ st.N g = some x ∧ ((freeE st d t = r ∧ ¬ r = 0 ∧ st' = st) ∨ (freeE st d t = 0 ∧ r = 0 ∧ st' = bindS st g x t))
def NameM (m : Ms) (d : Int) (s t : Txt) (r : Int) (m' : Ms) : Prop :=
  (nameE m d s t = r ∧ ¬ r = 0 ∧ m' = m) ∨ (r = 0 ∧ ∃ k, at? m.E d s = some k ∧ N.may 32 t = true ∧ at? m.E d t = none ∧ m' = nameM m k d t)
def UnT (st : St) (d : Int) (s : Txt) (r : Int) (st' : St) : Prop :=
  (st.P (d, s) = none ∧ r = 4 ∧ st' = st) ∨ ∃ g x, st.P (d, s) = some g ∧ st.N g = some x ∧ ((x.names.length = 1 ∧ r = 16 ∧ st' = st) ∨ (¬ x.names.length = 1 ∧ r = 0 ∧ ∃ i, i < x.names.length ∧ Lib.idxOfS (x.names.map bs) (bs s) = i ∧ st' = unbindS (nodeS st g (lessX x i)) d s))
def UnM (m : Ms) (d : Int) (s : Txt) (r : Int) (m' : Ms) : Prop :=
  (at? m.E d s = none ∧ r = 4 ∧ m' = m) ∨ ∃ k, ∃ hk : k < m.E.length, at? m.E d s = some k ∧ ((cntI m.E m.E[k].2.1 = 1 ∧ r = 16 ∧ m' = m) ∨ (¬ cntI m.E m.E[k].2.1 = 1 ∧ r = 0 ∧ m' = unnameM m k))
def SetT (st : St) (d : Int) (s : Txt) (ok : Bool) (ch : Nd → Nd) (r : Int) (st' : St) : Prop :=
  (st.P (d, s) = none ∧ r = 4 ∧ st' = st) ∨ ∃ g x, st.P (d, s) = some g ∧ st.N g = some x ∧ ((¬ x.br.kind = 1 ∧ r = 15 ∧ st' = st) ∨ (x.br.kind = 1 ∧ ok = false ∧ r = 1 ∧ st' = st) ∨ (x.br.kind = 1 ∧ ok = true ∧ r = 0 ∧ st' = nodeS st g (ch x)))
def SetM (m : Ms) (d : Int) (s : Txt) (ok : Bool) (ch : Br → Br) (r : Int) (m' : Ms) : Prop :=
  (at? m.E d s = none ∧ r = 4 ∧ m' = m) ∨ ∃ k e x, at? m.E d s = some k ∧ m.E[k]? = some e ∧ m.B[e.2.1]? = some x ∧ ((¬ x.kind = 1 ∧ r = 15 ∧ m' = m) ∨ (x.kind = 1 ∧ ok = false ∧ r = 1 ∧ m' = m) ∨ (x.kind = 1 ∧ ok = true ∧ r = 0 ∧ m' = setM m e.2.1 (ch x)))
def DelT (st : St) (c : Nat) (d : Int) (s : Txt) (r : Int) (y : Br) (c' : Nat) (st' : St) : Prop :=
  (st.P (d, s) = none ∧ r = 4 ∧ y = noBr ∧ st' = st ∧ c' = c) ∨ ∃ g x, st.P (d, s) = some g ∧ st.N g = some x ∧ ((x.br.kind = 2 ∧ 0 < (st.Z x.br.dir).getD 0 ∧ r = 16 ∧ y = noBr ∧ st' = st ∧ c' = c) ∨ (r = 0 ∧ y = x.br ∧ c' = c + 1 + 2 * x.names.length ∧
    ((x.br.kind = 1 ∧ st' = unbindAll d x.names { st with G := upd st.G x.br.uid none }) ∨ (x.br.kind = 2 ∧ (st.Z x.br.dir).getD 0 ≤ 0 ∧ st' = unbindAll d x.names { st with Z := upd st.Z x.br.dir none }) ∨ (x.br.kind = 3 ∧ st' = unbindAll d x.names st))))
def DelM (m : Ms) (d : Int) (s : Txt) (r : Int) (y : Br) (m' : Ms) : Prop :=
  (at? m.E d s = none ∧ r = 4 ∧ y = noBr ∧ m' = m) ∨ ∃ k e x, at? m.E d s = some k ∧ m.E[k]? = some e ∧ m.B[e.2.1]? = some x ∧ ((x.kind = 2 ∧ 0 < cntD m.E x.dir ∧ r = 16 ∧ y = noBr ∧ m' = m) ∨ (r = 0 ∧ y = x ∧
    ((¬ x.kind = 2 ∧ m' = ⟨m.B, delE m.E e.2.1, m.D⟩) ∨ (x.kind = 2 ∧ cntD m.E x.dir = 0 ∧ 0 ≤ x.dir ∧ x.dir < m.D.length ∧ m' = ⟨m.B, delE m.E e.2.1, m.D.set x.dir.toNat false⟩))))

theorem trow_kept {w w' : World} {a : Option Addr} {c : Nat} {l : List Tm} (h : TRow w a c l) (hs : w.heap.size ≤ w'.heap.size) (hk : ∀ ad, a = some ad → w'.heap[ad.block]? = w.heap[ad.block]?) : TRow w' a c l := by
  refine ⟨h.1, h.2.1, fun h0 => ?_⟩
  obtain ⟨bk, o, e, hl, hc⟩ := h.2.2 h0
  refine ⟨bk, o, e, Nat.lt_of_lt_of_le hl hs, fun j hj => ?_⟩
  have hh := hk _ e
  have hcell : ∀ i, w'.cell? ⟨bk, i, none⟩ = w.cell? ⟨bk, i, none⟩ := fun i => cell_of_heap hh
  have := hc j hj
  simp only [A.TAt, hcell] at this ⊢
  exact this

section
variable {w0 V : World} {b bm : Nat} {K : List (Nat × Obj)} {c : Nat} {st : St} {m : Ms} {f : Nat → Nat}

theorem canE_free {d : Int} {s : Txt} {br : Br} (h1 : isMD m.D d = true) (h2 : N.may 32 s = true) (h3 : at? m.E d s = none) : canE m d s br = (if br.kind < 1 ∨ 3 < br.kind then 15
  else if br.kind = 1 then (if br.uid < 1 ∨ A.lmay br.acl = false ∨ W.bmay br.r1 br.r2 br.r3 br.gt = false then 1 else if hasU m br.uid = true then 5 else 0)
  else if br.kind = 3 then (if N.er br.link = 0 then 0 else 3) else 0) := by
  unfold canE
  rw [h1, h2, h3]
  simp

set_option maxHeartbeats 1000000 in
theorem tadd_do (h : Two w0 V b bm K c st m) (R : Rel st m f) (hg : Glob w0) {d : Int} {s : Txt} (hd : rng d) (hs : s.length ≤ maxLen) {br : Br} {a : Option Addr} {cc : Nat} (hr : TRow V a cc br.acl) (htx : ∀ t ∈ br.acl, t.1.length ≤ maxLen) (hl : br.link.length ≤ maxLen) (hu : br.uid ≤ 9223372036854775807) (hc : c < 10000) :
    Calls Tryd.prog 18 #[TP b, .int .i64 d, .string (bs s), BrV br (.slice a br.acl.length cc)] V fun e w' => ∃ n E st', e = .returned (.tuple #[.int .i64 n, .int .i64 E]) ∧ AddT st m d s br n E st' ∧ Two w0 w' b bm K (c + 5) st' m := by
  have hgV : Glob V := hg.below h.bel
  have no : ∀ {r : Int} {e : Ending} {w' : World}, canE m d s br = r → ¬ r = 0 → (e = .returned (.tuple #[.int .i64 0, .int .i64 r]) ∧ Below V.heap.size V w') → ∃ n E st', e = .returned (.tuple #[.int .i64 n, .int .i64 E]) ∧ AddT st m d s br n E st' ∧ Two w0 w' b bm K (c + 5) st' m :=
    fun hr h0 hh => ⟨0, _, st, hh.1, ⟨hr.symm, Or.inl ⟨h0, rfl, rfl⟩⟩, (h.below hh.2).mono (by omega)⟩
  obtain ⟨F, Fm, hL⟩ := h
  have fresh : ∀ g, V.heap.size ≤ g → st.N g = none := fun g hg => by
    obtain ⟨_, _, _, _, _, ht⟩ := hL.t
    exact ht.fresh hg
  have hfr := R.free d s
  by_cases h1 : isMD m.D d = false
  · rw [if_pos h1] at hfr
    exact (add_no hL.t hd hs hfr (by decide)).mono fun e w' hh => no (by unfold canE; rw [if_pos h1]) (by decide) hh
  · rw [if_neg h1] at hfr
    by_cases h2 : N.may 32 s = false
    · rw [if_pos h2] at hfr
      exact (add_no hL.t hd hs hfr (by decide)).mono fun e w' hh => no (by unfold canE; rw [if_neg h1, if_pos h2]) (by decide) hh
    · rw [if_neg h2] at hfr
      by_cases h3 : (at? m.E d s).isSome = true
      · rw [if_pos h3] at hfr
        exact (add_no hL.t hd hs hfr (by decide)).mono fun e w' hh => no (by unfold canE; rw [if_neg h1, if_neg h2, if_pos h3]) (by decide) hh
      · rw [if_neg h3] at hfr
        have hcan := canE_free (br := br) (Bool.not_eq_false _ ▸ h1) (Bool.not_eq_false _ ▸ h2) (by simpa using h3)
        by_cases k1 : br.kind = 1
        · have hcan1 : canE m d s br = (if br.uid < 1 ∨ A.lmay br.acl = false ∨ W.bmay br.r1 br.r2 br.r3 br.gt = false then 1 else if hasU m br.uid = true then 5 else 0) := by
            rw [hcan, if_neg (by omega), if_pos k1]
          by_cases hu1 : br.uid < 1
          · exact (add_badG hL.t hd hs hfr (r := 1) (by decide) (fun V' hb => taken_low k1 hu1 V')).mono fun e w' hh => no (by rw [hcan1, if_pos (Or.inl hu1)]) (by decide) hh
          · by_cases ha : A.lmay br.acl = false
            · exact (add_badG hL.t hd hs hfr (r := 1) (by decide) (fun V' hb => taken_acl (hr.below hb) htx k1 (by omega) ha)).mono fun e w' hh => no (by rw [hcan1, if_pos (Or.inr (Or.inl ha))]) (by decide) hh
            · by_cases hb : W.bmay br.r1 br.r2 br.r3 br.gt = false
              · exact (add_badG hL.t hd hs hfr (r := 1) (by decide) (fun V' hb' => taken_ring (hr.below hb') htx k1 (by omega) (Bool.not_eq_false _ ▸ ha) hb)).mono fun e w' hh => no (by rw [hcan1, if_pos (Or.inr (Or.inr hb))]) (by decide) hh
              · rw [if_neg (by rintro (q | q | q) <;> contradiction)] at hcan1
                cases hG : st.G br.uid with
                | some g =>
                  have hU : hasU m br.uid = true := (hasU_iff m _).2 ((R.uids _).1 (by rw [hG]; rfl))
                  exact (add_badG hL.t hd hs hfr (r := 5) (by decide) (fun V' hb' => taken_there (hL.t.below hb') (hr.below hb') htx k1 (by omega) hu (Bool.not_eq_false _ ▸ ha) (Bool.not_eq_false _ ▸ hb) hG)).mono fun e w' hh => no (by rw [hcan1, if_pos hU]) (by decide) hh
                | none =>
                  have hU : ¬ hasU m br.uid = true := fun q => by
                    have := (R.uids _).2 ((hasU_iff m _).1 q)
                    rw [hG] at this
                    cases this
                  refine (add_seg hL.t hd hs hfr hr htx k1 (by omega) hu (Bool.not_eq_false _ ▸ ha) (Bool.not_eq_false _ ▸ hb) hG hc).mono fun e w' hh => ?_
                  obtain ⟨he, F', g, hgv, ht, hw⟩ := hh
                  exact ⟨0, 0, _, he, ⟨by rw [hcan1, if_neg hU], Or.inr ⟨rfl, g, fresh g hgv, Or.inl ⟨k1, rfl, rfl⟩⟩⟩, (hL.goT ht hw).mono (by omega)⟩
        · by_cases k2 : br.kind = 2
          · refine (add_dir hL.t hd hs hfr k2 hc).mono fun e w' hh => ?_
            obtain ⟨he, F', g, hgv, ht, hw⟩ := hh
            exact ⟨_, 0, _, he, ⟨by rw [hcan, if_neg (by omega), if_neg k1, if_neg (by omega)], Or.inr ⟨rfl, g, fresh g hgv, Or.inr (Or.inl ⟨k2, rfl, rfl⟩)⟩⟩, hL.goT ht hw⟩
          · by_cases k3 : br.kind = 3
            · have hcan3 : canE m d s br = (if N.er br.link = 0 then 0 else 3) := by rw [hcan, if_neg (by omega), if_neg k1, if_pos k3]
              rcases er_of br.link with he0 | ⟨he3, _⟩
              · refine (add_link hL.t hgV hd hs hfr k3 hl he0 hc).mono fun e w' hh => ?_
                obtain ⟨he, F', g, hgv, ht, hw⟩ := hh
                exact ⟨0, 0, _, he, ⟨by rw [hcan3, if_pos he0], Or.inr ⟨rfl, g, fresh g hgv, Or.inr (Or.inr ⟨k3, rfl, rfl⟩)⟩⟩, (hL.goT ht hw).mono (by omega)⟩
              · exact (add_badG hL.t hd hs hfr (r := 3) (by decide) (fun V' hb' => taken_badlink (hgV.below hb') k3 hl he3)).mono fun e w' hh => no (by rw [hcan3, if_neg (by omega)]) (by decide) hh
            · exact (add_badG hL.t hd hs hfr (r := 15) (by decide) (fun V' hb' => taken_kind k1 k2 k3 V')).mono fun e w' hh => no (by rw [hcan, if_pos (by omega)]) (by decide) hh

theorem madd_do (h : Two w0 V b bm K c st m) {d : Int} {s : Txt} (hs : s.length ≤ maxLen) {br : Br} {a : Option Addr} {cc : Nat} (hr : TRow V a cc br.acl) (htx : ∀ t ∈ br.acl, t.1.length ≤ maxLen) (hl : br.link.length ≤ maxLen) (hal : br.acl.length ≤ 1000) (hB : m.B.length < 1000) (hE : m.E.length < 1000) (hD : m.D.length < 1000) {n E : Int} {m' : Ms} (o : AddM m d s br n E m') :
    Calls Tryd.prog 20 #[TP bm, .int .i64 d, .string (bs s), BrV br (.slice a br.acl.length cc)] V fun e w' => e = .returned (.tuple #[.int .i64 n, .int .i64 E]) ∧ Two w0 w' b bm K c st m' := by
  obtain ⟨F, Fm, hL⟩ := h
  obtain ⟨hEc, ⟨h0, rfl, rfl⟩ | ⟨rfl, ⟨k1, rfl, rfl⟩ | ⟨k2, rfl, rfl⟩ | ⟨k3, rfl, rfl⟩⟩⟩ := o
  · exact (madd_no hL.r hs hr htx hl hEc.symm h0).mono fun e w' hh => ⟨hh.1, Two.below ⟨F, Fm, hL⟩ hh.2⟩
  · exact (madd_seg hL.r hs hr htx hl hEc.symm k1 hal hB hE).mono fun e w' hh => ⟨hh.1, hL.goM hh.2⟩
  · exact (madd_dir hL.r hs hr htx hl hEc.symm k2 hD hB hE).mono fun e w' hh => ⟨hh.1, hL.goM hh.2⟩
  · exact (madd_link hL.r hs hr htx hl hEc.symm k3 hB hE).mono fun e w' hh => ⟨hh.1, hL.goM hh.2⟩

theorem tname_do (h : Two w0 V b bm K c st m) {d : Int} {s t : Txt} (hd : rng d) (hs : s.length ≤ maxLen) (ht : t.length ≤ maxLen) (hc : c < 10000) {r : Int} {st' : St} (o : NameT st d s t r st') :
    Calls Tryd.prog 21 #[TP b, .int .i64 d, .string (bs s), .string (bs t)] V fun e w' => e = .returned (.int .i64 r) ∧ Two w0 w' b bm K (c + 3) st' m := by
  obtain ⟨F, Fm, hL⟩ := h
  have T0 : Two w0 V b bm K (c + 3) st m := Two.mono ⟨F, Fm, hL⟩ (by omega)
  obtain ⟨hP, rfl, rfl⟩ | ⟨g, x, hP, hN, ⟨hf, h0, rfl⟩ | ⟨hf, rfl, rfl⟩⟩ := o
  · exact (name_none hL.t hd hs hP).mono fun e w' hh => ⟨hh.1, hh.2 ▸ T0⟩
  · exact (name_no hL.t hd hs ht hP hf h0).mono fun e w' hh => ⟨hh.1, by obtain ⟨n, rfl⟩ := hh.2; exact T0.below (bel_drewN _ _)⟩
  · exact (name_at hL.t hd hs ht hP hN hf hc).mono fun e w' hh => ⟨hh.1, by obtain ⟨F', t', g'⟩ := hh.2; exact hL.goT t' g'⟩
theorem mname_do (h : Two w0 V b bm K c st m) {d : Int} {s t : Txt} (ht : t.length ≤ maxLen) (hE : m.E.length < 1000) {r : Int} {m' : Ms} (o : NameM m d s t r m') :
    Calls Tryd.prog 22 #[TP bm, .int .i64 d, .string (bs s), .string (bs t)] V fun e w' => e = .returned (.int .i64 r) ∧ Two w0 w' b bm K c st m' := by
  obtain ⟨F, Fm, hL⟩ := h
  obtain ⟨hR, h0, rfl⟩ | ⟨rfl, k, h1, h2, h3, rfl⟩ := o
  · exact (mname_no hL.r ht hR h0).mono fun e w' hh => ⟨hh.1, hh.2 ▸ ⟨F, Fm, hL⟩⟩
  · exact (mname_at hL.r ht h1 h2 h3 hE).mono fun e w' hh => ⟨hh.1, hL.goM hh.2⟩

theorem tun_do (h : Two w0 V b bm K c st m) {d : Int} {s : Txt} (hd : rng d) (hs : s.length ≤ maxLen) (hc : c < 10000) {r : Int} {st' : St} (o : UnT st d s r st') :
    Calls Tryd.prog 23 #[TP b, .int .i64 d, .string (bs s)] V fun e w' => e = .returned (.int .i64 r) ∧ Two w0 w' b bm K (c + 2) st' m := by
  obtain ⟨F, Fm, hL⟩ := h
  have T0 : Two w0 V b bm K (c + 2) st m := Two.mono ⟨F, Fm, hL⟩ (by omega)
  obtain ⟨hP, rfl, rfl⟩ | ⟨g, x, hP, hN, ⟨h1, rfl, rfl⟩ | ⟨h1, rfl, i, hi, hix, rfl⟩⟩ := o
  · exact (unname_none hL.t hd hs hP).mono fun e w' hh => ⟨hh.1, hh.2 ▸ T0⟩
  · exact (unname_busy hL.t hd hs hP hN h1).mono fun e w' hh => ⟨hh.1, hh.2 ▸ T0⟩
  · exact (unname_at hL.t hd hs hP hN h1 hi hix hc).mono fun e w' hh => ⟨hh.1, hL.goT hh.2.1 hh.2.2⟩
theorem mun_do (h : Two w0 V b bm K c st m) {d : Int} {s : Txt} {r : Int} {m' : Ms} (o : UnM m d s r m') :
    Calls Tryd.prog 24 #[TP bm, .int .i64 d, .string (bs s)] V fun e w' => e = .returned (.int .i64 r) ∧ Two w0 w' b bm K c st m' := by
  obtain ⟨F, Fm, hL⟩ := h
  obtain ⟨h1, rfl, rfl⟩ | ⟨k, hk, h1, ⟨hc, rfl, rfl⟩ | ⟨hc, rfl, rfl⟩⟩ := o
  · exact (munname_no hL.r h1).mono fun e w' hh => ⟨hh.1, hh.2 ▸ ⟨F, Fm, hL⟩⟩
  · exact (munname_busy hL.r h1 hk hc).mono fun e w' hh => ⟨hh.1, hh.2 ▸ ⟨F, Fm, hL⟩⟩
  · exact (munname_at hL.r h1 hk rfl hc).mono fun e w' hh => ⟨hh.1, hL.goM hh.2⟩

theorem tacc_do (h : Two w0 V b bm K c st m) {d : Int} {s : Txt} (hd : rng d) (hs : s.length ≤ maxLen) {a : Option Addr} {cc : Nat} {l : List Tm} (hr : TRow V a cc l) (htx : ∀ t ∈ l, t.1.length ≤ maxLen) {r : Int} {st' : St} (o : SetT st d s (A.lmay l) (fun x => aclX x l) r st') :
    Calls Tryd.prog 27 #[TP b, .int .i64 d, .string (bs s), .slice a l.length cc] V fun e w' => e = .returned (.int .i64 r) ∧ Two w0 w' b bm K c st' m := by
  obtain ⟨F, Fm, hL⟩ := h
  obtain ⟨hP, rfl, rfl⟩ | ⟨g, x, hP, hN, ⟨hk, rfl, rfl⟩ | ⟨hk, hl, rfl, rfl⟩ | ⟨hk, hl, rfl, rfl⟩⟩ := o
  · exact (access_none hL.t hd hs hP).mono fun e w' hh => ⟨hh.1, hh.2 ▸ ⟨F, Fm, hL⟩⟩
  · exact (access_kind hL.t hd hs hP hN hk).mono fun e w' hh => ⟨hh.1, hh.2 ▸ ⟨F, Fm, hL⟩⟩
  · exact (access_bad hL.t hd hs hP hN hk hr htx hl).mono fun e w' hh => ⟨hh.1, Two.below ⟨F, Fm, hL⟩ hh.2⟩
  · exact (access_at hL.t hd hs hP hN hk hr htx hl).mono fun e w' hh => ⟨hh.1, by obtain ⟨F', t', g'⟩ := hh.2; exact hL.goT t' g'⟩
theorem macc_do (h : Two w0 V b bm K c st m) {d : Int} {s : Txt} {a : Option Addr} {cc : Nat} {l : List Tm} (hr : TRow V a cc l) (htx : ∀ t ∈ l, t.1.length ≤ maxLen) (hll : l.length ≤ 1000) {r : Int} {m' : Ms} (o : SetM m d s (A.lmay l) (fun x => aclB x l) r m') :
    Calls Tryd.prog 28 #[TP bm, .int .i64 d, .string (bs s), .slice a l.length cc] V fun e w' => e = .returned (.int .i64 r) ∧ Two w0 w' b bm K c st m' := by
  obtain ⟨F, Fm, hL⟩ := h
  obtain ⟨h1, rfl, rfl⟩ | ⟨k, e0, x, h1, h2, h3, ⟨hk, rfl, rfl⟩ | ⟨hk, hl, rfl, rfl⟩ | ⟨hk, hl, rfl, rfl⟩⟩ := o
  · exact maccess_of ((macc_no hL.r h1).mono fun e w' hh => ⟨hh.1, hh.2 ▸ ⟨F, Fm, hL⟩⟩)
  · exact maccess_of ((macc_kind hL.r h1 h2 h3 hk).mono fun e w' hh => ⟨hh.1, Two.below ⟨F, Fm, hL⟩ hh.2⟩)
  · exact maccess_of ((macc_bad hL.r h1 h2 h3 hk hr htx hl).mono fun e w' hh => ⟨hh.1, Two.below ⟨F, Fm, hL⟩ hh.2⟩)
  · exact maccess_of ((macc_at hL.r h1 h2 h3 hk hr htx hl hll).mono fun e w' hh => ⟨hh.1, hL.goM hh.2⟩)

theorem tring_do (h : Two w0 V b bm K c st m) {d : Int} {s : Txt} (hd : rng d) (hs : s.length ≤ maxLen) {r1 r2 r3 gt : Int} {r : Int} {st' : St} (o : SetT st d s (W.bmay r1 r2 r3 gt) (fun x => ringX x r1 r2 r3 gt) r st') :
    Calls Tryd.prog 29 #[TP b, .int .i64 d, .string (bs s), .agg #[.int .i64 r1, .int .i64 r2, .int .i64 r3, .int .i64 gt]] V fun e w' => e = .returned (.int .i64 r) ∧ Two w0 w' b bm K c st' m := by
  obtain ⟨F, Fm, hL⟩ := h
  obtain ⟨hP, rfl, rfl⟩ | ⟨g, x, hP, hN, ⟨hk, rfl, rfl⟩ | ⟨hk, hl, rfl, rfl⟩ | ⟨hk, hl, rfl, rfl⟩⟩ := o
  · exact (ringed_none hL.t hd hs hP).mono fun e w' hh => ⟨hh.1, Two.below ⟨F, Fm, hL⟩ hh.2⟩
  · exact (ringed_kind hL.t hd hs hP hN hk).mono fun e w' hh => ⟨hh.1, Two.below ⟨F, Fm, hL⟩ hh.2⟩
  · exact (ringed_bad hL.t hd hs hP hN hk hl).mono fun e w' hh => ⟨hh.1, Two.below ⟨F, Fm, hL⟩ hh.2⟩
  · exact (ringed_at hL.t hd hs hP hN hk hl).mono fun e w' hh => ⟨hh.1, hL.goT hh.2.1 hh.2.2⟩
theorem mring_do (h : Two w0 V b bm K c st m) {d : Int} {s : Txt} {r1 r2 r3 gt : Int} {r : Int} {m' : Ms} (o : SetM m d s (W.bmay r1 r2 r3 gt) (fun x => ringB x r1 r2 r3 gt) r m') :
    Calls Tryd.prog 30 #[TP bm, .int .i64 d, .string (bs s), .agg #[.int .i64 r1, .int .i64 r2, .int .i64 r3, .int .i64 gt]] V fun e w' => e = .returned (.int .i64 r) ∧ Two w0 w' b bm K c st m' := by
  obtain ⟨F, Fm, hL⟩ := (h.alloc (W.BO r1 r2 r3 gt)).less (K' := K) (fun p hp => by simp [hp])
  have hz := heap_alloc_new V (W.BO r1 r2 r3 gt)
  obtain ⟨h1, rfl, rfl⟩ | ⟨k, e0, x, h1, h2, h3, ⟨hk, rfl, rfl⟩ | ⟨hk, hl, rfl, rfl⟩ | ⟨hk, hl, rfl, rfl⟩⟩ := o
  · exact mringed_of ((macc_no hL.r h1).mono fun e w' hh => ⟨hh.1, hh.2 ▸ ⟨F, Fm, hL⟩⟩)
  · exact mringed_of ((macc_kind hL.r h1 h2 h3 hk).mono fun e w' hh => ⟨hh.1, Two.below ⟨F, Fm, hL⟩ hh.2⟩)
  · exact mringed_of ((mring_bad hL.r h1 h2 h3 hk hz hl).mono fun e w' hh => ⟨hh.1, Two.below ⟨F, Fm, hL⟩ hh.2⟩)
  · exact mringed_of ((mring_at hL.r h1 h2 h3 hk hz hl).mono fun e w' hh => ⟨hh.1, hL.goM hh.2⟩)

theorem own_kept {V' : World} {F Fm : Nat → Prop} {B : Nat} {a' : Option Addr} {n c1 : Nat} {l : List Tm} {c' : Nat} {st' : St} (h : TwoL w0 V' b bm K F Fm c' st' m) (ho : A.Own B V' (.slice a' n c1) l) (hF : ∀ i, F i → i < B) (hFm : ∀ i, Fm i → i < B) :
    ∃ K', (∀ p ∈ K, p ∈ K') ∧ Two w0 V' b bm K' c' st' m ∧ ∀ ad, a' = some ad → ∃ o, (ad.block, o) ∈ K' := by
  rcases ho.2 with ⟨e, he⟩ | ⟨g, cap, cur, e, hb, hg, r⟩
  · refine ⟨K, fun p hp => hp, ⟨F, Fm, h⟩, fun ad e1 => ?_⟩
    cases e
    cases e1
  · cases e
    refine ⟨(g, .cells cur 91 (0, 0)) :: K, fun p hp => List.mem_cons_of_mem _ hp, ⟨F, Fm, ⟨h.t, h.r, h.dis, h.gt, h.gr, fun p hp => ?_, h.bel⟩⟩, fun ad e1 => ?_⟩
    · rcases List.mem_cons.1 hp with rfl | hp
      · exact ⟨hg, fun hf => by have := hF _ hf; omega, fun hf => by have := hFm _ hf; omega⟩
      · exact h.kept p hp
    · cases e1
      exact ⟨_, List.mem_cons_self⟩

/-- what Delete handed out, kept -/
def Out (w0 : World) (b bm : Nat) (K : List (Nat × Obj)) (c' : Nat) (st' : St) (m : Ms) (r : Int) (y : Br) (e : Ending) (w' : World) : Prop :=
  ∃ a' c1 K', e = .returned (.tuple #[BrV y (.slice a' y.acl.length c1), .int .i64 r]) ∧ TRow w' a' c1 y.acl ∧ y.acl.length ≤ 1000000 ∧ (∀ p ∈ K, p ∈ K') ∧ Two w0 w' b bm K' c' st' m ∧ ∀ ad, a' = some ad → ∃ o, (ad.block, o) ∈ K'

theorem tdel_do (h : Two w0 V b bm K c st m) {d : Int} {s : Txt} (hd : rng d) (hs : s.length ≤ maxLen) (hc : c < 10000) {r : Int} {y : Br} {c' : Nat} {st' : St} (o : DelT st c d s r y c' st') :
    Calls Tryd.prog 25 #[TP b, .int .i64 d, .string (bs s)] V (Out w0 b bm K c' st' m r y) := by
  obtain ⟨F, Fm, hL⟩ := h
  have no : ∀ {r : Int} {e : Ending} {w' : World}, (e = .returned (.tuple #[BrV noBr (.slice none 0 0), .int .i64 r]) ∧ Below V.heap.size V w') → Out w0 b bm K c st m r noBr e w' := fun hh =>
    ⟨none, 0, K, hh.1, A.TRow.nil _, by simp [noBr], fun p hp => hp, Two.below ⟨F, Fm, hL⟩ hh.2, fun ad e1 => by cases e1⟩
  have yes : ∀ {e : Ending} {w' : World} {x : Nd} {c2 : Nat} {st2 : St} {g : Nat}, st.N g = some x → (∃ a' c', e = .returned (.tuple #[BrV x.br (.slice a' x.br.acl.length c'), .int .i64 0]) ∧ A.Own (V.heap.size + 1) w' (.slice a' x.br.acl.length c') x.br.acl ∧ TreeAt w' b F c2 st2 ∧ Went F V F w') → Out w0 b bm K c2 st2 m 0 x.br e w' := by
    rintro e w' x c2 st2 g hN ⟨a', c1, he, ho, ht, hw⟩
    obtain ⟨K', h1, h2, h3⟩ := own_kept (hL.goL ht hw) ho (fun i hi => by have := hL.t.ltF i hi; omega) (fun i hi => by have := hL.r.ltF i hi; omega)
    obtain ⟨a2, c2', e2, hr⟩ := own_trow ho
    cases e2
    refine ⟨a', c1, K', he, hr, ?_, h1, h2, h3⟩
    obtain ⟨_, _, _, _, _, ht0⟩ := hL.t
    exact (ht0.node g x hN).ok.acl
  obtain ⟨hP, rfl, rfl, rfl, rfl⟩ | ⟨g, x, hP, hN, ⟨hk, hz, rfl, rfl, rfl, rfl⟩ | ⟨rfl, rfl, rfl, ⟨hk, rfl⟩ | ⟨hk, hz, rfl⟩ | ⟨hk, rfl⟩⟩⟩ := o
  · exact (del_none hL.t hd hs hP).mono fun e w' hh => no hh
  · exact (del_busy hL.t hd hs hP hN hk hz).mono fun e w' hh => no hh
  · exact (del_segO hL.t hd hs hP hN hk hc).mono fun e w' hh => yes hN hh
  · exact (del_dirO hL.t hd hs hP hN hk hz hc).mono fun e w' hh => yes hN hh
  · exact (del_linkO hL.t hd hs hP hN hk hc).mono fun e w' hh => yes hN hh

theorem mdel_do (h : Two w0 V b bm K c st m) {d : Int} {s : Txt} {r : Int} {y : Br} {m' : Ms} (o : DelM m d s r y m') :
    Calls Tryd.prog 26 #[TP bm, .int .i64 d, .string (bs s)] V fun e w' => ∃ a' c1, e = .returned (.tuple #[BrV y (.slice a' y.acl.length c1), .int .i64 r]) ∧ TRow w' a' c1 y.acl ∧ Two w0 w' b bm K c st m' := by
  obtain ⟨F, Fm, hL⟩ := h
  obtain ⟨h1, rfl, rfl, rfl⟩ | ⟨k, e0, x, h1, h2, h3, ⟨hk, hcn, rfl, rfl, rfl⟩ | ⟨rfl, rfl, ⟨hk, rfl⟩ | ⟨hk, hcn, hd0, hd1, rfl⟩⟩⟩ := o
  · exact (mdel_no hL.r h1).mono fun e w' hh => ⟨none, 0, hh.1, A.TRow.nil _, Two.below ⟨F, Fm, hL⟩ hh.2⟩
  · exact (mdel_busy hL.r h1 h2 h3 hk hcn).mono fun e w' hh => ⟨none, 0, hh.1, A.TRow.nil _, Two.below ⟨F, Fm, hL⟩ hh.2⟩
  · exact (mdel_at hL.r h1 h2 h3 hk).mono fun e w' hh => by
      obtain ⟨a', c1, he, hr, hn⟩ := hh
      exact ⟨a', c1, he, hr, hL.goM hn⟩
  · exact (mdel_dir hL.r h1 h2 h3 hk hcn hd0 hd1).mono fun e w' hh => by
      obtain ⟨a', c1, he, hr, hn⟩ := hh
      exact ⟨a', c1, he, hr, hL.goM hn⟩

end

end Go.Proofs.YtpcdcmoapenbdaaDoor.T

namespace Go.Proofs.YtpcdcmoapenbdaaDoor.T
open Go.Proofs.YtpcdcmoapenbdaaDoor.N (bs bs_inj)
open Go.Proofs.YtpcdcmoapenbdaaDoor.A (Tm)

structure Inv (i c : Nat) (st : St) (m : Ms) : Prop where
  rel : ∃ f, Rel st m f
  lt : LinksOk st
  lm : LinksM m
  kinds : ∀ x ∈ m.B, x.kind = 1 ∨ x.kind = 2 ∨ x.kind = 3
  pot : c + 2 * m.E.length ≤ 7 * i
  nB : m.B.length ≤ i
  nD : m.D.length ≤ i + 1

theorem er_len {l : Txt} (h : N.er l = 0) : l.length ≤ 168 := by
  unfold N.er at h
  cases hp : N.partsOf l with
  | none => rw [hp] at h; simp at h
  | some q => exact (N.partsOf_some hp).2.2.2
theorem isMD_lt {D : List Bool} {d : Int} (h : isMD D d = true) : 0 ≤ d ∧ d < D.length := by
  unfold isMD at h
  rw [Bool.and_eq_true, decide_eq_true_eq] at h
  refine ⟨h.1, ?_⟩
  by_cases hl : d.toNat < D.length
  · omega
  · rw [List.getElem?_eq_none (by omega)] at h
    simp at h
theorem isMD_snoc (D : List Bool) (d : Int) : isMD (D ++ [true]) d = (isMD D d || decide (d = D.length)) := by
  unfold isMD
  by_cases h0 : 0 ≤ d
  · by_cases h1 : d.toNat < D.length
    · rw [List.getElem?_append_left h1]
      have : ¬ d = D.length := by omega
      simp [this]
    · by_cases h2 : d = D.length
      · rw [h2]
        simp
      · rw [List.getElem?_eq_none (by simp; omega), List.getElem?_eq_none (by omega)]
        simp [h2]
  · have : ¬ d = D.length := by omega
    simp [h0, this]
theorem isMD_set (D : List Bool) {k : Int} (hk : 0 ≤ k) (d : Int) : isMD (D.set k.toNat false) d = (isMD D d && !decide (d = k)) := by
  unfold isMD
  by_cases h0 : 0 ≤ d
  · rw [List.getElem?_set]
    by_cases h1 : d = k
    · subst h1
      simp
      split <;> simp
    · rw [if_neg (by omega)]
      simp [h1]
  · simp [h0]
theorem isD_upd {st st' : St} {d v : Int} (hz : st'.Z = upd st.Z d (some v)) (h : isD st d = true) (d' : Int) : isD st' d' = isD st d' := by
  by_cases e : d' = d
  · rw [e, h]
    unfold isD
    rw [hz, upd_same]
    rfl
  · unfold isD
    rw [hz, upd_other _ _ e]
theorem can_zero {m : Ms} {d : Int} {s : Txt} {br : Br} (h : canE m d s br = 0) : isMD m.D d = true ∧ at? m.E d s = none ∧ (br.kind = 1 → hasU m br.uid = false) ∧ (br.kind = 3 → N.er br.link = 0) := by
  unfold canE at h
  by_cases h1 : isMD m.D d = false
  · rw [if_pos h1] at h; cases h
  rw [if_neg h1] at h
  by_cases h2 : N.may 32 s = false
  · rw [if_pos h2] at h; cases h
  rw [if_neg h2] at h
  by_cases h3 : (at? m.E d s).isSome = true
  · rw [if_pos h3] at h; cases h
  rw [if_neg h3] at h
  by_cases h4 : br.kind < 1 ∨ 3 < br.kind
  · rw [if_pos h4] at h; cases h
  rw [if_neg h4] at h
  refine ⟨by simpa using h1, by simpa using h3, fun k1 => ?_, fun k3 => ?_⟩
  · rw [if_pos k1] at h
    by_cases h5 : br.uid < 1 ∨ A.lmay br.acl = false ∨ W.bmay br.r1 br.r2 br.r3 br.gt = false
    · rw [if_pos h5] at h; cases h
    rw [if_neg h5] at h
    by_cases h6 : hasU m br.uid = true
    · rw [if_pos h6] at h; cases h
    simpa using h6
  · rw [if_neg (by omega), if_pos k3] at h
    by_cases h5 : N.er br.link = 0
    · exact h5
    · rw [if_neg h5] at h; cases h

section
variable {i c : Nat} {st : St} {m : Ms}

theorem Inv.same (I : Inv i c st m) {c' : Nat} (hc : c' ≤ c + 7) : Inv (i + 1) c' st m := ⟨I.rel, I.lt, I.lm, I.kinds, by have := I.pot; omega, by have := I.nB; omega, by have := I.nD; omega⟩

theorem Inv.add (I : Inv i c st m) {f : Nat → Nat} (R : Rel st m f) {st' : St} {m' : Ms} {d : Int} {s : Txt} {g : Nat} {y : Br} (hd : isMD m.D d = true) (hs : at? m.E d s = none) (hg : st.N g = none)
    (hP : st'.P = upd st.P (d, s) (some g)) (hN : ∀ k, st'.N k = if k = g then some ⟨y, d, [s]⟩ else st.N k)
    (hZ : ∀ d', (st'.Z d').getD 0 = (st.Z d').getD 0 + (if d' = d then 1 else 0))
    (hB : m'.B = m.B ++ [y]) (hE : m'.E = m.E ++ [(d, m.B.length, s)]) (hlast : st'.last + 1 = m'.D.length) (hdirs : ∀ d, isD st' d = isMD m'.D d) (hmono : ∀ d, isMD m.D d = true → isMD m'.D d = true) (hlen : m.D.length ≤ m'.D.length)
    (hG : ∀ u, (st'.G u).isSome = true ↔ ((st.G u).isSome = true ∨ (y.kind = 1 ∧ y.uid = u)))
    (hseg : y.kind = 1 → hasU m y.uid = false) (hdir : y.kind = 2 → y.dir = m.D.length ∧ m.D.length < m'.D.length)
    (hky : y.kind = 1 ∨ y.kind = 2 ∨ y.kind = 3) (hl3 : y.kind = 3 → N.er y.link = 0) (hDl : m'.D.length ≤ m.D.length + 1) : Inv (i + 1) (c + 5) st' m' where
  rel := ⟨_, R.add hd hs hg hP hN hZ hB hE hlast hdirs hmono hlen hG hseg hdir⟩
  lt := fun k x hx hk => by
    rw [hN] at hx
    by_cases e : k = g
    · rw [if_pos e] at hx
      cases hx
      exact er_len (hl3 hk)
    · rw [if_neg e] at hx
      exact I.lt k x hx hk
  lm := fun x hx hk => by
    rw [hB, List.mem_append, List.mem_singleton] at hx
    rcases hx with hx | rfl
    · exact I.lm x hx hk
    · exact ⟨er_len (hl3 hk), hl3 hk⟩
  kinds := fun x hx => by
    rw [hB, List.mem_append, List.mem_singleton] at hx
    rcases hx with hx | rfl
    · exact I.kinds x hx
    · exact hky
  pot := by have := I.pot; rw [hE]; simp; omega
  nB := by have := I.nB; rw [hB]; simp; omega
  nD := by have := I.nD; omega

theorem getD_upd (Z : Int → Option Int) (d d' : Int) : ((upd Z d (some ((Z d).getD 0 + 1))) d').getD 0 = (Z d').getD 0 + (if d' = d then 1 else 0) := by
  by_cases e : d' = d
  · rw [e, upd_same]; simp
  · rw [upd_other _ _ e, if_neg e]; simp

theorem add_both (I : Inv i c st m) {d : Int} {s : Txt} {br : Br} {n E : Int} {st' : St} (o : AddT st m d s br n E st') : ∃ m', AddM m d s br n E m' ∧ Inv (i + 1) (c + 5) st' m' := by
  obtain ⟨f, R⟩ := I.rel
  obtain ⟨hE, ⟨h0, rfl, rfl⟩ | ⟨rfl, g, hg, o⟩⟩ := o
  · exact ⟨m, ⟨hE, Or.inl ⟨h0, rfl, rfl⟩⟩, I.same (by omega)⟩
  obtain ⟨hd, hs, hU, hL⟩ := can_zero hE.symm
  have hD : isD st d = true := by rw [R.dirs]; exact hd
  obtain ⟨hd0, hd1⟩ := isMD_lt hd
  have hlast := R.last
  obtain ⟨k1, rfl, rfl⟩ | ⟨k2, rfl, rfl⟩ | ⟨k3, rfl, rfl⟩ := o
  · refine ⟨_, ⟨hE, Or.inr ⟨rfl, Or.inl ⟨k1, rfl, rfl⟩⟩⟩, I.add R (g := g) (y := segB br) hd hs hg rfl (fun k => ?_) (fun d' => getD_upd st.Z d d') rfl rfl R.last (fun d' => ?_) (fun _ h => h) (Nat.le_refl _) (fun u => ?_) (fun _ => hU k1) (fun h => absurd h (by simp [segB])) (Or.inl rfl) (fun h => absurd h (by simp [segB])) (Nat.le_succ _)⟩
    · by_cases e : k = g
      · simp [segS, bindS, nodeS, upd, e]
      · simp [segS, bindS, nodeS, upd, e]
    · rw [isD_upd (st := st) (d := d) (v := (st.Z d).getD 0 + 1) rfl hD, R.dirs]
      rfl
    · show (upd st.G br.uid (some g) u).isSome = true ↔ _
      by_cases e : u = br.uid
      · rw [e, upd_same]
        simp [segB]
      · rw [upd_other _ _ e]
        have : ¬ br.uid = u := fun h => e h.symm
        simp [segB, this]
  · have hne : d ≠ st.last + 1 := by omega
    have hz0 : (st.Z (st.last + 1)).getD 0 = 0 := by
      rw [R.size]
      have : cntD m.E (st.last + 1) = 0 := by
        unfold cntD
        rw [List.length_eq_zero_iff, List.filter_eq_nil_iff]
        intro e he
        have := isMD_lt (R.alive e he)
        have : ¬ e.1 = st.last + 1 := by omega
        simpa using this
      rw [this]
      rfl
    refine ⟨_, ⟨hE, Or.inr ⟨rfl, Or.inr (Or.inl ⟨k2, by omega, rfl⟩)⟩⟩, I.add R (g := g) (y := dirN m.D.length) hd hs hg rfl (fun k => ?_) (fun d' => ?_) rfl rfl ?_ (fun d' => ?_) (fun d' h => ?_) (by simp [addDM]) (fun u => ?_) (fun h => absurd h (by simp [dirN])) (fun _ => ⟨rfl, by simp [addDM]⟩) (Or.inr (Or.inl rfl)) (fun h => absurd h (by simp [dirN])) (by simp [addDM])⟩
    · by_cases e : k = g
      · simp [dirS, bindS, upd, e, dirX, dirN, hlast]
      · simp [dirS, bindS, upd, e]
    · show ((upd (upd st.Z (st.last + 1) (some 0)) d (some ((upd st.Z (st.last + 1) (some 0) d).getD 0 + 1))) d').getD 0 = _
      rw [getD_upd]
      by_cases e : d' = st.last + 1
      · rw [e, upd_same, hz0]
        rfl
      · rw [upd_other _ _ e]
    · show st.last + 1 + 1 = ((m.D ++ [true]).length : Int)
      rw [List.length_append]
      simp
      omega
    · show isD _ d' = isMD (m.D ++ [true]) d'
      have hZ1 : ∀ d'', isD { st with last := st.last + 1, N := upd st.N g (some (dirX (st.last + 1) d)), Z := upd st.Z (st.last + 1) (some 0) } d'' = (isD st d'' || decide (d'' = st.last + 1)) := fun d'' => by
        unfold isD
        show ((upd st.Z (st.last + 1) (some 0) d'').isSome || _) = _
        by_cases e : d'' = st.last + 1
        · rw [e, upd_same]
          simp
        · rw [upd_other _ _ e]
          simp [e]
      rw [isMD_snoc, ← R.dirs, ← hlast, ← hZ1]
      exact isD_upd (st := { st with last := st.last + 1, N := upd st.N g (some (dirX (st.last + 1) d)), Z := upd st.Z (st.last + 1) (some 0) }) (d := d) rfl (by rw [hZ1, hD]; rfl) d'
    · show isMD (m.D ++ [true]) d' = true
      rw [isMD_snoc, h]
      rfl
    · show (st.G u).isSome = true ↔ _
      simp [dirN]
  · refine ⟨_, ⟨hE, Or.inr ⟨rfl, Or.inr (Or.inr ⟨k3, rfl, rfl⟩)⟩⟩, I.add R (g := g) (y := linkB br.link) hd hs hg rfl (fun k => ?_) (fun d' => getD_upd st.Z d d') rfl rfl R.last (fun d' => ?_) (fun _ h => h) (Nat.le_refl _) (fun u => ?_) (fun h => absurd h (by simp [linkB])) (fun h => absurd h (by simp [linkB])) (Or.inr (Or.inr rfl)) (fun _ => hL k3) (Nat.le_succ _)⟩
    · by_cases e : k = g
      · simp [linkS, bindS, nodeS, upd, e]
      · simp [linkS, bindS, nodeS, upd, e]
    · rw [isD_upd (st := st) (d := d) (v := (st.Z d).getD 0 + 1) rfl hD, R.dirs]
      rfl
    · show (st.G u).isSome = true ↔ _
      simp [linkB]

/-- what stands by a name, in both -/
theorem Rel.both {f : Nat → Nat} (R : Rel st m f) {d : Int} {s : Txt} {g : Nat} (hp : st.P (d, s) = some g) : ∃ k, ∃ hk : k < m.E.length, ∃ x, at? m.E d s = some k ∧ m.E[k].1 = d ∧ m.E[k].2.2 = s ∧ g = f m.E[k].2.1 ∧ st.N g = some x ∧ m.E[k]? = some m.E[k] ∧ m.B[m.E[k].2.1]? = some x.br ∧ x.names.length = cntI m.E m.E[k].2.1 ∧ s ∈ x.names ∧ isMD m.D d = true ∧ m.E[k] ∈ m.E := by
  obtain ⟨k, hk, ha, h1, h2, rfl⟩ := R.some_at hp
  have hm := List.getElem_mem hk
  obtain ⟨x, hx, hB, hh, hl, hnd, hn⟩ := R.node _ hm
  exact ⟨k, hk, x, ha, h1, h2, rfl, hx, List.getElem?_eq_getElem hk, hB, hl, (hn s).2 (by rw [← h2]; exact hm), by rw [← h1]; exact R.alive _ hm, hm⟩

theorem name_both (I : Inv i c st m) (d : Int) (s t : Txt) : ∃ r st' m', NameT st d s t r st' ∧ NameM m d s t r m' ∧ Inv (i + 1) (c + 3) st' m' := by
  obtain ⟨f, R⟩ := I.rel
  cases hp : st.P (d, s) with
  | none =>
    refine ⟨4, st, m, Or.inl ⟨hp, rfl, rfl⟩, Or.inl ⟨?_, by decide, rfl⟩, I.same (by omega)⟩
    unfold nameE
    rw [(R.none_iff d s).1 hp]
    rfl
  | some g =>
    obtain ⟨k, hk, x, ha, h1, h2, hg, hx, hE, hB, hl, hs, hal, hm⟩ := R.both hp
    have hfr := R.free d t
    rw [if_neg (by rw [hal]; simp)] at hfr
    have hnE : nameE m d s t = (if N.may 32 t = false then 3 else if (at? m.E d t).isSome = true then 5 else 0) := by
      unfold nameE
      rw [ha]
      rfl
    rw [← hnE] at hfr
    by_cases h0 : nameE m d s t = 0
    · have h3 : N.may 32 t = true ∧ at? m.E d t = none := by
        rw [hnE] at h0
        by_cases q1 : N.may 32 t = false
        · rw [if_pos q1] at h0; cases h0
        rw [if_neg q1] at h0
        by_cases q2 : (at? m.E d t).isSome = true
        · rw [if_pos q2] at h0; cases h0
        exact ⟨by simpa using q1, by simpa using q2⟩
      obtain ⟨hk', R'⟩ := R.name ha h3.2 (x := x) (fun _ => by rw [← hg]; exact hx)
      rw [← hg] at R'
      refine ⟨0, _, _, Or.inr ⟨g, x, hp, hx, Or.inr ⟨hfr.trans h0, rfl, rfl⟩⟩, Or.inr ⟨rfl, k, ha, h3.1, h3.2, rfl⟩, ⟨⟨f, R'⟩, fun k' y hy hk3 => ?_, I.lm, I.kinds, ?_, ?_, ?_⟩⟩
      · change upd st.N g _ k' = some y at hy
        by_cases e : k' = g
        · rw [e, upd_same] at hy
          cases hy
          exact I.lt g x hx hk3
        · rw [upd_other _ _ e] at hy
          exact I.lt k' y hy hk3
      · have := I.pot
        show c + 3 + 2 * (m.E ++ [_]).length ≤ _
        rw [List.length_append, List.length_singleton]
        omega
      · have := I.nB
        show m.B.length ≤ _
        omega
      · have := I.nD
        show m.D.length ≤ _
        omega
    · exact ⟨_, st, m, Or.inr ⟨g, x, hp, hx, Or.inl ⟨hfr, h0, rfl⟩⟩, Or.inl ⟨rfl, h0, rfl⟩, I.same (by omega)⟩

theorem un_both (I : Inv i c st m) (d : Int) (s : Txt) : ∃ r st' m', UnT st d s r st' ∧ UnM m d s r m' ∧ Inv (i + 1) (c + 2) st' m' := by
  obtain ⟨f, R⟩ := I.rel
  cases hp : st.P (d, s) with
  | none => exact ⟨4, st, m, Or.inl ⟨hp, rfl, rfl⟩, Or.inl ⟨(R.none_iff d s).1 hp, rfl, rfl⟩, I.same (by omega)⟩
  | some g =>
    obtain ⟨k, hk, x, ha, h1, h2, hg, hx, hE, hB, hl, hs, hal, hm⟩ := R.both hp
    by_cases h0 : x.names.length = 1
    · exact ⟨16, st, m, Or.inr ⟨g, x, hp, hx, Or.inl ⟨h0, rfl, rfl⟩⟩, Or.inr ⟨k, hk, ha, Or.inl ⟨hl ▸ h0, rfl, rfl⟩⟩, I.same (by omega)⟩
    · obtain ⟨j, hj, hjs, hix⟩ := idx_of hs
      obtain ⟨hk', R'⟩ := R.unname ha (x := x) (fun _ => by rw [← hg]; exact hx) hj hjs h0
      rw [← hg] at R'
      refine ⟨0, _, _, Or.inr ⟨g, x, hp, hx, Or.inr ⟨h0, rfl, j, hj, hix, rfl⟩⟩, Or.inr ⟨k, hk, ha, Or.inr ⟨hl ▸ h0, rfl, rfl⟩⟩, ⟨⟨f, R'⟩, fun k' y hy hk3 => ?_, I.lm, I.kinds, ?_, ?_, ?_⟩⟩
      · change upd st.N g _ k' = some y at hy
        by_cases e : k' = g
        · rw [e, upd_same] at hy
          cases hy
          exact I.lt g x hx hk3
        · rw [upd_other _ _ e] at hy
          exact I.lt k' y hy hk3
      · have := I.pot
        show c + 2 + 2 * (m.E.take k ++ m.E.drop (k + 1)).length ≤ _
        rw [List.length_append, List.length_take, List.length_drop]
        omega
      · have := I.nB
        show m.B.length ≤ _
        omega
      · have := I.nD
        show m.D.length ≤ _
        omega

theorem set_both (I : Inv i c st m) (d : Int) (s : Txt) (ok : Bool) (ch : Br → Br) (h1 : ∀ x, (ch x).kind = x.kind) (h2 : ∀ x, (ch x).uid = x.uid) (h3 : ∀ x, (ch x).dir = x.dir) (h4 : ∀ x, (ch x).link = x.link) : ∃ r st' m', SetT st d s ok (fun x => { x with br := ch x.br }) r st' ∧ SetM m d s ok ch r m' ∧ Inv (i + 1) c st' m' := by
  obtain ⟨f, R⟩ := I.rel
  cases hp : st.P (d, s) with
  | none => exact ⟨4, st, m, Or.inl ⟨hp, rfl, rfl⟩, Or.inl ⟨(R.none_iff d s).1 hp, rfl, rfl⟩, I.same (by omega)⟩
  | some g =>
    obtain ⟨k, hk, x, ha, q1, q2, hg, hx, hE, hB, hl, hs, hal, hm⟩ := R.both hp
    by_cases hk1 : x.br.kind = 1
    · cases ok with
      | false => exact ⟨1, st, m, Or.inr ⟨g, x, hp, hx, Or.inr (Or.inl ⟨hk1, rfl, rfl, rfl⟩)⟩, Or.inr ⟨k, _, _, ha, hE, hB, Or.inr (Or.inl ⟨hk1, rfl, rfl, rfl⟩)⟩, I.same (by omega)⟩
      | true =>
        obtain ⟨hk', R'⟩ := R.set ha (x := x) (y := ch x.br) (fun _ => by rw [← hg]; exact hx) (h1 _) (h2 _) (h3 _)
        rw [← hg] at R'
        refine ⟨0, _, _, Or.inr ⟨g, x, hp, hx, Or.inr (Or.inr ⟨hk1, rfl, rfl, rfl⟩)⟩, Or.inr ⟨k, _, _, ha, hE, hB, Or.inr (Or.inr ⟨hk1, rfl, rfl, rfl⟩)⟩, ⟨⟨f, R'⟩, fun k' y hy hk3 => ?_, fun y hy hk3 => ?_, fun y hy => ?_, ?_, ?_, ?_⟩⟩
        · change upd st.N g _ k' = some y at hy
          by_cases e : k' = g
          · rw [e, upd_same] at hy
            cases hy
            rw [show (ch x.br).link = x.br.link from h4 _]
            exact I.lt g x hx ((h1 _).symm.trans hk3)
          · rw [upd_other _ _ e] at hy
            exact I.lt k' y hy hk3
        · rcases List.mem_or_eq_of_mem_set hy with hy | rfl
          · exact I.lm y hy hk3
          · rw [h1] at hk3
            omega
        · rcases List.mem_or_eq_of_mem_set hy with hy | rfl
          · exact I.kinds y hy
          · rw [h1]
            exact Or.inl hk1
        · have := I.pot
          show c + 2 * m.E.length ≤ _
          omega
        · have := I.nB
          show (m.B.set _ _).length ≤ _
          rw [List.length_set]
          omega
        · have := I.nD
          show m.D.length ≤ _
          omega
    · exact ⟨15, st, m, Or.inr ⟨g, x, hp, hx, Or.inl ⟨hk1, rfl, rfl⟩⟩, Or.inr ⟨k, _, _, ha, hE, hB, Or.inl ⟨hk1, rfl, rfl⟩⟩, I.same (by omega)⟩

theorem delE_len {E : List En} {id : Nat} : (delE E id).length + cntI E id = E.length := by
  induction E with
  | nil => rfl
  | cons e E ih =>
    unfold delE cntI at *
    by_cases h : e.2.1 = id
    · simp [h] at ih ⊢; omega
    · simp [h] at ih ⊢; omega

theorem del_inv (I : Inv i c st m) {f : Nat → Nat} {d : Int} {k : Nat} {x : Nd} {st1 : St} {D' : List Bool} {hk : k < m.E.length} (R' : Rel (unbindAll d x.names st1) ⟨m.B, delE m.E m.E[k].2.1, D'⟩ f) (hN1 : st1.N = st.N) (hl : x.names.length = cntI m.E m.E[k].2.1) (hD : D'.length = m.D.length) : Inv (i + 1) (c + 1 + 2 * x.names.length) (unbindAll d x.names st1) ⟨m.B, delE m.E m.E[k].2.1, D'⟩ where
  rel := ⟨f, R'⟩
  lt := fun k' y hy hk3 => by rw [unbindAll_N, hN1] at hy; exact I.lt k' y hy hk3
  lm := I.lm
  kinds := I.kinds
  pot := by
    have := I.pot
    have := delE_len (E := m.E) (id := m.E[k].2.1)
    show c + 1 + 2 * x.names.length + 2 * (delE m.E m.E[k].2.1).length ≤ _
    omega
  nB := by have := I.nB; show m.B.length ≤ _; omega
  nD := by have := I.nD; show D'.length ≤ _; omega

theorem del_both (I : Inv i c st m) (d : Int) (s : Txt) : ∃ r y c' st' m', DelT st c d s r y c' st' ∧ DelM m d s r y m' ∧ Inv (i + 1) c' st' m' := by
  obtain ⟨f, R⟩ := I.rel
  cases hp : st.P (d, s) with
  | none => exact ⟨4, noBr, c, st, m, Or.inl ⟨hp, rfl, rfl, rfl, rfl⟩, Or.inl ⟨(R.none_iff d s).1 hp, rfl, rfl, rfl⟩, I.same (by omega)⟩
  | some g =>
    obtain ⟨k, hk, x, ha, q1, q2, hg, hx, hE, hB, hl, hs, hal, hm⟩ := R.both hp
    have hN : ∀ hk : k < m.E.length, st.N (f m.E[k].2.1) = some x := fun _ => by rw [← hg]; exact hx
    rcases I.kinds _ (List.mem_of_getElem? hB) with k1 | k2 | k3
    · obtain ⟨_, R'⟩ := R.del (st1 := { st with G := upd st.G x.br.uid none }) (D' := m.D) ha hN rfl rfl rfl (fun _ => rfl) (fun d' _ => R.dirs d') hal rfl (fun u => by
        show (upd st.G x.br.uid none u).isSome = true ↔ _
        by_cases e : u = x.br.uid
        · rw [e, upd_same]
          simp [k1]
        · rw [upd_other _ _ e]
          have : ¬ x.br.uid = u := fun h => e h.symm
          simp [this]) (fun e he _ => R.alive e he)
      exact ⟨0, x.br, _, _, _, Or.inr ⟨g, x, hp, hx, Or.inr ⟨rfl, rfl, rfl, Or.inl ⟨k1, rfl⟩⟩⟩, Or.inr ⟨k, _, _, ha, hE, hB, Or.inr ⟨rfl, rfl, Or.inl ⟨by omega, rfl⟩⟩⟩, del_inv I R' rfl hl rfl⟩
    · have hz := R.size x.br.dir
      obtain ⟨hd1, hd2⟩ := R.dir _ hm _ hB k2
      by_cases h0 : 0 < cntD m.E x.br.dir
      · exact ⟨16, noBr, c, st, m, Or.inr ⟨g, x, hp, hx, Or.inl ⟨k2, by omega, rfl, rfl, rfl, rfl⟩⟩, Or.inr ⟨k, _, _, ha, hE, hB, Or.inl ⟨k2, h0, rfl, rfl, rfl⟩⟩, I.same (by omega)⟩
      · have h0 : cntD m.E x.br.dir = 0 := by omega
        have hne : ∀ e ∈ m.E, e.1 ≠ x.br.dir := fun e he e1 => by
          unfold cntD at h0
          rw [List.length_eq_zero_iff, List.filter_eq_nil_iff] at h0
          exact h0 e he (by simpa using e1)
        have hdne : d ≠ x.br.dir := by rw [← q1]; exact hne _ hm
        obtain ⟨_, R'⟩ := R.del (st1 := { st with Z := upd st.Z x.br.dir none }) (D' := m.D.set x.br.dir.toNat false) ha hN rfl rfl rfl (fun d' => by
            show (upd st.Z x.br.dir none d').getD 0 = _
            by_cases e : d' = x.br.dir
            · rw [e, upd_same, hz, h0]
              rfl
            · rw [upd_other _ _ e]) (fun d' _ => by
            rw [isMD_set _ (by omega), ← R.dirs]
            unfold isD
            show ((upd st.Z x.br.dir none d').isSome || _) = _
            by_cases e : d' = x.br.dir
            · rw [e, upd_same]
              have : ¬ x.br.dir = 0 := by omega
              simp [this]
            · rw [upd_other _ _ e]
              simp [e]) (by rw [isMD_set _ (by omega), hal]; simp [hdne]) (by simp) (fun u => by
            show (st.G u).isSome = true ↔ _
            have : ¬ x.br.kind = 1 := by omega
            simp [this]) (fun e he _ => by
            rw [isMD_set _ (by omega), R.alive e he]
            simp [hne e he])
        exact ⟨0, x.br, _, _, _, Or.inr ⟨g, x, hp, hx, Or.inr ⟨rfl, rfl, rfl, Or.inr (Or.inl ⟨k2, by omega, rfl⟩)⟩⟩, Or.inr ⟨k, _, _, ha, hE, hB, Or.inr ⟨rfl, rfl, Or.inr ⟨k2, h0, by omega, hd2, rfl⟩⟩⟩, del_inv I R' rfl hl (by simp)⟩
    · obtain ⟨_, R'⟩ := R.del (st1 := st) (D' := m.D) ha hN rfl rfl rfl (fun _ => rfl) (fun d' _ => R.dirs d') hal rfl (fun u => by
        have : ¬ x.br.kind = 1 := by omega
        simp [this]) (fun e he _ => R.alive e he)
      exact ⟨0, x.br, _, _, _, Or.inr ⟨g, x, hp, hx, Or.inr ⟨rfl, rfl, rfl, Or.inr (Or.inr ⟨k3, rfl⟩)⟩⟩, Or.inr ⟨k, _, _, ha, hE, hB, Or.inr ⟨rfl, rfl, Or.inl ⟨by omega, rfl⟩⟩⟩, del_inv I R' rfl hl rfl⟩

end

theorem inv_new : Inv 0 0 noSt noMs where
  rel := ⟨fun _ => 0, by
    refine ⟨rfl, fun d => ?_, List.Pairwise.nil, fun e he => (by cases he), fun d s g h => (by cases h), fun e he => (by cases he), fun e he => (by cases he), fun d => rfl, fun u => ?_, fun e he => (by cases he), fun e he => (by cases he), fun e he => (by cases he), fun e he => (by cases he)⟩
    · unfold isD isMD noSt noMs
      by_cases h0 : d = 0
      · subst h0; rfl
      · by_cases h1 : 0 ≤ d
        · have h2 : d.toNat ≠ 0 := by omega
          obtain ⟨n, hn⟩ := Nat.exists_eq_succ_of_ne_zero h2
          simp [h0, h1, hn]
        · simp [h0, h1]
    · constructor
      · intro h; cases h
      · rintro ⟨e, he, _⟩; cases he⟩
  lt := fun g x h => by cases h
  lm := fun x hx => by cases hx
  kinds := fun x hx => by cases hx
  pot := by simp [noMs]
  nB := Nat.le_refl _
  nD := Nat.le_refl _

end Go.Proofs.YtpcdcmoapenbdaaDoor.T
