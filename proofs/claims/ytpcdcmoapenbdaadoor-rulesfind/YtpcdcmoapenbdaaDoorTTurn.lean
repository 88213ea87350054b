/-
  What the steps of a tree's functions do to a tree in memory: the last number set, the three maps made, written, deleted from, a node made, a node's cells changed.
-/
import Derived.Test.YtpcdcmoapenbdaaDoorTHeap
namespace Go.Proofs.YtpcdcmoapenbdaaDoor.T
open Go.ChangeShapes Go.WideShapes Go.ChangeAt Go.RowKit
open Go.Proofs.YtpcdcmoapenbdaaDoor.N (bs bs_data bs_size bs_inj)
open Go.Proofs.YtpcdcmoapenbdaaDoor.A (Tm)

section
variable {w : World} {b : Nat} {F : Nat → Prop} {c : Nat} {st : St} {mp mg mz : Option Nat} {av nv : Nat → Value}

theorem TreeL.setLast (h : TreeL w b F c st mp mg mz av nv) (l' : Int) (h0 : 0 ≤ l') (h1 : l' ≤ c) : TreeL (w.setCell ⟨b, 0, none⟩ (.int .i64 l')) b F c { st with last := l' } mp mg mz av nv where
  head := by rw [head_set h.head]; simp
  inF := h.inF
  ltF := fun i hi => by simpa using h.ltF i hi
  tabs := h.tabs
  inP := h.inP
  inG := h.inG
  inZ := h.inZ
  mapP := h.mapP.keep (Nat.le_refl _) (fun mb e => by
    obtain ⟨es, cl, hm⟩ := (h.mapP.2 mb e).isMap
    exact other_set _ _ (h.map_ne hm))
  mapG := h.mapG.keep (Nat.le_refl _) (fun mb e => by
    obtain ⟨es, cl, hm⟩ := (h.mapG.2 mb e).isMap
    exact other_set _ _ (h.map_ne hm))
  mapZ := h.mapZ.keep (Nat.le_refl _) (fun mb e => by
    obtain ⟨es, cl, hm⟩ := (h.mapZ.2 mb e).isMap
    exact other_set _ _ (h.map_ne hm))
  node := h.nodes_keep (fun i _ hne => other_set _ _ hne) (Or.inr rfl) (Nat.le_refl _)
  apart := h.apart
  thereP := h.thereP
  thereG := h.thereG
  zb := h.zb
  lb := ⟨h0, h1⟩

/-- the three maps are made -/
theorem TreeL.tabled (h : TreeL w b F c st none mg mz av nv) :
    TreeL (((((w.alloc (.map #[] 0)).alloc (.map #[] 0)).alloc (.map #[] 0)).setCell ⟨b, 1, none⟩ (.map (some w.heap.size))).setCell ⟨b, 2, none⟩ (.map (some (w.heap.size + 1))) |>.setCell ⟨b, 3, none⟩ (.map (some (w.heap.size + 1 + 1)))) b
      (fun i => F i ∨ i = w.heap.size ∨ i = w.heap.size + 1 ∨ i = w.heap.size + 1 + 1) c st (some w.heap.size) (some (w.heap.size + 1)) (some (w.heap.size + 1 + 1)) av nv := by
  have hlt := h.lt
  have hmm : mg = none ∧ mz = none := by
    rcases h.tabs with ⟨_, h1, h2⟩ | ⟨p, g, z, h1, _⟩
    · exact ⟨h1, h2⟩
    · cases h1
  obtain ⟨rfl, rfl⟩ := hmm
  have a1 : ∀ i, i < w.heap.size → (((w.alloc (.map #[] 0)).alloc (.map #[] 0)).alloc (.map #[] 0)).heap[i]? = w.heap[i]? := fun i hi => by
    rw [heap_alloc_old _ _ (by simp; omega), heap_alloc_old _ _ (by simp; omega), heap_alloc_old _ _ hi]
  have hb := (a1 b hlt).trans h.head
  have oth : ∀ i, i ≠ b → ((((w.alloc (.map #[] 0)).alloc (.map #[] 0)).alloc (.map #[] 0)).setCell ⟨b, 1, none⟩ (.map (some w.heap.size)) |>.setCell ⟨b, 2, none⟩ (.map (some (w.heap.size + 1))) |>.setCell ⟨b, 3, none⟩ (.map (some (w.heap.size + 1 + 1)))).heap[i]? = (((w.alloc (.map #[] 0)).alloc (.map #[] 0)).alloc (.map #[] 0)).heap[i]? := fun i hi => by
    rw [other_set _ _ hi, other_set _ _ hi, other_set _ _ hi]
  have eP : ∀ k, st.P k = none := h.mapP.1 rfl
  have eG : ∀ k, st.G k = none := h.mapG.1 rfl
  have eZ : ∀ k, st.Z k = none := h.mapZ.1 rfl
  have fP : st.P = fun _ => none := funext eP
  have fG : st.G = fun _ => none := funext eG
  have fZ : st.Z = fun _ => none := funext eZ
  have m1 : MapIs kP Tryd.prog (((w.alloc (.map #[] 0)).alloc (.map #[] 0)).alloc (.map #[] 0)) w.heap.size c st.P := by
    rw [fP]
    exact (MapIs.made w c).of (by rw [heap_alloc_old _ _ (by simp; omega), heap_alloc_old _ _ (by simp)])
  have m2 : MapIs kG Tryd.prog (((w.alloc (.map #[] 0)).alloc (.map #[] 0)).alloc (.map #[] 0)) (w.heap.size + 1) c st.G := by
    rw [fG]
    have := (MapIs.made (s := kG) (P := Tryd.prog) (w.alloc (.map #[] 0)) c)
    rw [show (w.alloc (.map #[] 0)).heap.size = w.heap.size + 1 by simp] at this
    exact this.of (by rw [heap_alloc_old _ _ (by simp)])
  have m3 : MapIs kZ Tryd.prog (((w.alloc (.map #[] 0)).alloc (.map #[] 0)).alloc (.map #[] 0)) (w.heap.size + 1 + 1) c st.Z := by
    rw [fZ]
    have := (MapIs.made (s := kZ) (P := Tryd.prog) ((w.alloc (.map #[] 0)).alloc (.map #[] 0)) c)
    rw [show ((w.alloc (.map #[] 0)).alloc (.map #[] 0)).heap.size = w.heap.size + 1 + 1 by simp] at this
    exact this
  exact {
    head := by rw [head_set (head_set (head_set hb _ _) _ _)]; simp
    inF := Or.inl h.inF
    ltF := fun i hi => by
      simp
      rcases hi with hi | hi | hi | hi
      · have := h.ltF i hi
        omega
      all_goals omega
    tabs := Or.inr ⟨_, _, _, rfl, rfl, rfl, by omega, by omega, by omega⟩
    inP := fun mb e => by cases e; exact Or.inr (Or.inl rfl)
    inG := fun mb e => by cases e; exact Or.inr (Or.inr (Or.inl rfl))
    inZ := fun mb e => by cases e; exact Or.inr (Or.inr (Or.inr rfl))
    mapP := ⟨fun e => (by cases e), fun mb e => by cases e; exact m1.of (oth _ (by omega))⟩
    mapG := ⟨fun e => (by cases e), fun mb e => by cases e; exact m2.of (oth _ (by omega))⟩
    mapZ := ⟨fun e => (by cases e), fun mb e => by cases e; exact m3.of (oth _ (by omega))⟩
    node := fun g x e => by
      have := h.nodes_keep (w' := ((((w.alloc (.map #[] 0)).alloc (.map #[] 0)).alloc (.map #[] 0)).setCell ⟨b, 1, none⟩ (.map (some w.heap.size)) |>.setCell ⟨b, 2, none⟩ (.map (some (w.heap.size + 1))) |>.setCell ⟨b, 3, none⟩ (.map (some (w.heap.size + 1 + 1)))))
        (fun i hi hne => (oth i hne).trans (a1 i (h.ltF i hi))) (Or.inr rfl) (Nat.le_refl c) g x e
      exact this.keep (fun _ hi => Or.inl hi) (fun _ _ => rfl) (Nat.le_refl _)
    apart := h.apart
    thereP := h.thereP
    thereG := h.thereG
    zb := h.zb
    lb := h.lb }

theorem TreeL.some_ {p : Nat} (h : TreeL w b F c st (some p) mg mz av nv) : ∃ g z, mg = some g ∧ mz = some z ∧ p ≠ g ∧ p ≠ z ∧ g ≠ z := by
  rcases h.tabs with ⟨e, _⟩ | ⟨p', g, z, e, h1, h2, h3⟩
  · cases e
  · cases e
    exact ⟨g, z, h1, h2, h3⟩

/-- a map's block turned: the rest stays -/
theorem TreeL.turnP {p g z : Nat} (h : TreeL w b F c st (some p) (some g) (some z) av nv) {w' : World} (hg : w.grownBy w' (some p)) {f : Int × Txt → Option Nat} (hm : MapIs kP Tryd.prog w' p (c + 1) f) (hf : ∀ k j, f k = some j → ∃ x, st.N j = some x) :
    TreeL w' b F (c + 1) { st with P := f } (some p) (some g) (some z) av nv := by
  obtain ⟨g', z', e1, e2, ne1, ne2, ne3⟩ := h.some_
  cases e1
  cases e2
  obtain ⟨es, cl, hp⟩ := (h.mapP.2 p rfl).isMap
  have oth : ∀ i, F i → i ≠ p → w'.heap[i]? = w.heap[i]? := fun i hi hne => hg.block i (h.ltF i hi) (by simpa using hne)
  exact {
    head := (oth b h.inF (h.map_ne hp).symm).trans h.head
    inF := h.inF
    ltF := fun i hi => Nat.lt_of_lt_of_le (h.ltF i hi) hg.size
    tabs := h.tabs
    inP := h.inP
    inG := h.inG
    inZ := h.inZ
    mapP := ⟨fun e => (by cases e), fun mb e => by cases e; exact hm⟩
    mapG := h.mapG.keep (Nat.le_succ _) (fun mb e => oth mb (h.inG mb e) (by cases e; exact ne1.symm))
    mapZ := h.mapZ.keep (Nat.le_succ _) (fun mb e => oth mb (h.inZ mb e) (by cases e; exact ne2.symm))
    node := h.nodes_keep oth (Or.inl ⟨es, cl, hp⟩) (Nat.le_succ _)
    apart := h.apart
    thereP := hf
    thereG := h.thereG
    zb := fun d n e => by have := h.zb d n e; omega
    lb := ⟨h.lb.1, by have := h.lb.2; simp only []; omega⟩ }
theorem TreeL.turnG {p g z : Nat} (h : TreeL w b F c st (some p) (some g) (some z) av nv) {w' : World} (hg : w.grownBy w' (some g)) {f : Int → Option Nat} (hm : MapIs kG Tryd.prog w' g (c + 1) f) (hf : ∀ k j, f k = some j → ∃ x, st.N j = some x) :
    TreeL w' b F (c + 1) { st with G := f } (some p) (some g) (some z) av nv := by
  obtain ⟨g', z', e1, e2, ne1, ne2, ne3⟩ := h.some_
  cases e1
  cases e2
  obtain ⟨es, cl, hp⟩ := (h.mapG.2 g rfl).isMap
  have oth : ∀ i, F i → i ≠ g → w'.heap[i]? = w.heap[i]? := fun i hi hne => hg.block i (h.ltF i hi) (by simpa using hne)
  exact {
    head := (oth b h.inF (h.map_ne hp).symm).trans h.head
    inF := h.inF
    ltF := fun i hi => Nat.lt_of_lt_of_le (h.ltF i hi) hg.size
    tabs := h.tabs
    inP := h.inP
    inG := h.inG
    inZ := h.inZ
    mapG := ⟨fun e => (by cases e), fun mb e => by cases e; exact hm⟩
    mapP := h.mapP.keep (Nat.le_succ _) (fun mb e => oth mb (h.inP mb e) (by cases e; exact ne1))
    mapZ := h.mapZ.keep (Nat.le_succ _) (fun mb e => oth mb (h.inZ mb e) (by cases e; exact ne3.symm))
    node := h.nodes_keep oth (Or.inl ⟨es, cl, hp⟩) (Nat.le_succ _)
    apart := h.apart
    thereP := h.thereP
    thereG := hf
    zb := fun d n e => by have := h.zb d n e; omega
    lb := ⟨h.lb.1, by have := h.lb.2; simp only []; omega⟩ }
theorem TreeL.turnZ {p g z : Nat} (h : TreeL w b F c st (some p) (some g) (some z) av nv) {w' : World} (hg : w.grownBy w' (some z)) {f : Int → Option Int} (hm : MapIs kZ Tryd.prog w' z (c + 1) f) (hf : ∀ d n, f d = some n → -((c + 1 : Nat) : Int) ≤ n ∧ n ≤ (c + 1 : Nat)) :
    TreeL w' b F (c + 1) { st with Z := f } (some p) (some g) (some z) av nv := by
  obtain ⟨g', z', e1, e2, ne1, ne2, ne3⟩ := h.some_
  cases e1
  cases e2
  obtain ⟨es, cl, hp⟩ := (h.mapZ.2 z rfl).isMap
  have oth : ∀ i, F i → i ≠ z → w'.heap[i]? = w.heap[i]? := fun i hi hne => hg.block i (h.ltF i hi) (by simpa using hne)
  exact {
    head := (oth b h.inF (h.map_ne hp).symm).trans h.head
    inF := h.inF
    ltF := fun i hi => Nat.lt_of_lt_of_le (h.ltF i hi) hg.size
    tabs := h.tabs
    inP := h.inP
    inG := h.inG
    inZ := h.inZ
    mapZ := ⟨fun e => (by cases e), fun mb e => by cases e; exact hm⟩
    mapP := h.mapP.keep (Nat.le_succ _) (fun mb e => oth mb (h.inP mb e) (by cases e; exact ne2))
    mapG := h.mapG.keep (Nat.le_succ _) (fun mb e => oth mb (h.inG mb e) (by cases e; exact ne3))
    node := h.nodes_keep oth (Or.inl ⟨es, cl, hp⟩) (Nat.le_succ _)
    apart := h.apart
    thereP := h.thereP
    thereG := h.thereG
    zb := hf
    lb := ⟨h.lb.1, by have := h.lb.2; simp only []; omega⟩ }

theorem TreeL.putP {p g z : Nat} (h : TreeL w b F c st (some p) (some g) (some z) av nv) {d : Int} {s : Txt} (hd : rng d) (hs : s.length ≤ maxLen) {j : Nat} {x : Nd} (hj : st.N j = some x) (hc : c < maxLen) :
    ∃ w', (Instr.mapUpdate 58 (.map (some p)) (.agg #[.int .i64 d, .string (bs s)]) (TP j)).run Tryd.prog w = .ok () w' ∧ TreeL w' b F (c + 1) { st with P := upd st.P (d, s) (some j) } (some p) (some g) (some z) av nv ∧ Went F w F w' := by
  obtain ⟨w', hrun, hm, hg⟩ := (h.mapP.2 p rfl).store goodP (k := (d, s)) ⟨hd, hs⟩ j hc
  refine ⟨w', hrun, h.turnP hg hm (fun k i e => ?_), Went.grown hg (h.inP p rfl)⟩
  by_cases ek : k = (d, s)
  · rw [ek, upd_same] at e
    cases e
    exact ⟨x, hj⟩
  · rw [upd_other _ _ ek] at e
    exact h.thereP k i e
theorem TreeL.dropP {p g z : Nat} (h : TreeL w b F c st (some p) (some g) (some z) av nv) {d : Int} {s : Txt} (hd : rng d) (hs : s.length ≤ maxLen) (ty : TypeId) :
    ∃ w', (Builtin.delete_ #[58, 124] ty #[.map (some p), .agg #[.int .i64 d, .string (bs s)]]).run Tryd.prog w = .ok (.tuple #[]) w' ∧ TreeL w' b F (c + 1) { st with P := upd st.P (d, s) none } (some p) (some g) (some z) av nv ∧ Went F w F w' := by
  obtain ⟨w', hrun, hm, hg⟩ := (h.mapP.2 p rfl).drop goodP (k := (d, s)) ⟨hd, hs⟩ ty
  refine ⟨w', hrun, h.turnP hg (hm.mono (Nat.le_succ _)) (fun k i e => ?_), Went.grown hg (h.inP p rfl)⟩
  by_cases ek : k = (d, s)
  · rw [ek, upd_same] at e
    cases e
  · rw [upd_other _ _ ek] at e
    exact h.thereP k i e
theorem TreeL.putG {p g z : Nat} (h : TreeL w b F c st (some p) (some g) (some z) av nv) {u : Int} (hu : rng u) {j : Nat} {x : Nd} (hj : st.N j = some x) (hc : c < maxLen) :
    ∃ w', (Instr.mapUpdate 59 (.map (some g)) (.int .i64 u) (TP j)).run Tryd.prog w = .ok () w' ∧ TreeL w' b F (c + 1) { st with G := upd st.G u (some j) } (some p) (some g) (some z) av nv ∧ Went F w F w' := by
  obtain ⟨w', hrun, hm, hg⟩ := (h.mapG.2 g rfl).store goodG (k := u) hu j hc
  refine ⟨w', hrun, h.turnG hg hm (fun k i e => ?_), Went.grown hg (h.inG g rfl)⟩
  by_cases ek : k = u
  · rw [ek, upd_same] at e
    cases e
    exact ⟨x, hj⟩
  · rw [upd_other _ _ ek] at e
    exact h.thereG k i e
theorem TreeL.dropG {p g z : Nat} (h : TreeL w b F c st (some p) (some g) (some z) av nv) {u : Int} (hu : rng u) (ty : TypeId) :
    ∃ w', (Builtin.delete_ #[59, 3] ty #[.map (some g), .int .i64 u]).run Tryd.prog w = .ok (.tuple #[]) w' ∧ TreeL w' b F (c + 1) { st with G := upd st.G u none } (some p) (some g) (some z) av nv ∧ Went F w F w' := by
  obtain ⟨w', hrun, hm, hg⟩ := (h.mapG.2 g rfl).drop goodG (k := u) hu ty
  refine ⟨w', hrun, h.turnG hg (hm.mono (Nat.le_succ _)) (fun k i e => ?_), Went.grown hg (h.inG g rfl)⟩
  by_cases ek : k = u
  · rw [ek, upd_same] at e
    cases e
  · rw [upd_other _ _ ek] at e
    exact h.thereG k i e
theorem TreeL.putZ {p g z : Nat} (h : TreeL w b F c st (some p) (some g) (some z) av nv) {d n : Int} (hd : rng d) (h0 : -((c + 1 : Nat) : Int) ≤ n) (h1 : n ≤ (c + 1 : Nat)) (hc : c < maxLen) :
    ∃ w', (Instr.mapUpdate 60 (.map (some z)) (.int .i64 d) (.int .i64 n)).run Tryd.prog w = .ok () w' ∧ TreeL w' b F (c + 1) { st with Z := upd st.Z d (some n) } (some p) (some g) (some z) av nv ∧ Went F w F w' := by
  obtain ⟨w', hrun, hm, hg⟩ := (h.mapZ.2 z rfl).store goodZ (k := d) hd n hc
  refine ⟨w', hrun, h.turnZ hg hm (fun k i e => ?_), Went.grown hg (h.inZ z rfl)⟩
  by_cases ek : k = d
  · rw [ek, upd_same] at e
    cases e
    exact ⟨h0, h1⟩
  · rw [upd_other _ _ ek] at e
    have := h.zb k i e
    omega
theorem TreeL.dropZ {p g z : Nat} (h : TreeL w b F c st (some p) (some g) (some z) av nv) {d : Int} (hd : rng d) (ty : TypeId) :
    ∃ w', (Builtin.delete_ #[60, 3] ty #[.map (some z), .int .i64 d]).run Tryd.prog w = .ok (.tuple #[]) w' ∧ TreeL w' b F (c + 1) { st with Z := upd st.Z d none } (some p) (some g) (some z) av nv ∧ Went F w F w' := by
  obtain ⟨w', hrun, hm, hg⟩ := (h.mapZ.2 z rfl).drop goodZ (k := d) hd ty
  refine ⟨w', hrun, h.turnZ hg (hm.mono (Nat.le_succ _)) (fun k i e => ?_), Went.grown hg (h.inZ z rfl)⟩
  by_cases ek : k = d
  · rw [ek, upd_same] at e
    cases e
  · rw [upd_other _ _ ek] at e
    have := h.zb k i e
    omega

theorem TreeL.fresh (h : TreeL w b F c st mp mg mz av nv) {g : Nat} (hg : w.heap.size ≤ g) : st.N g = none := by
  cases e : st.N g with
  | none => rfl
  | some x =>
    have := h.ltF g (h.node g x e).inF
    omega

/-- a node is made -/
theorem TreeL.newNode (h : TreeL w b F c st mp mg mz av nv) {x : Nd} (hx : x.names = []) (ok : x.Ok c) {va : Value} (hva : Ac w va x.br.acl) :
    TreeL (w.alloc (NdO x va (.slice none 0 0))) b (fun i => F i ∨ i = w.heap.size ∨ va.ownBlock = some i) c { st with N := upd st.N w.heap.size (some x) } mp mg mz (upd av w.heap.size va) (upd nv w.heap.size (.slice none 0 0)) := by
  have old : ∀ i, i < w.heap.size → (w.alloc (NdO x va (.slice none 0 0))).heap[i]? = w.heap[i]? := fun i hi => heap_alloc_old w _ hi
  have oldF : ∀ i, F i → (w.alloc (NdO x va (.slice none 0 0))).heap[i]? = w.heap[i]? := fun i hi => old i (h.ltF i hi)
  have ltva : ∀ k, va.ownBlock = some k → k < w.heap.size := fun k e => by
    obtain ⟨cs, hcs⟩ := row_tag hva e
    exact (Array.getElem?_eq_some_iff.1 hcs).1
  have h' := h.keep (w' := w.alloc (NdO x va (.slice none 0 0))) (by simp) oldF
  exact {
    head := h'.head
    inF := Or.inl h.inF
    ltF := fun i hi => by
      simp
      rcases hi with hi | hi | hi
      · have := h.ltF i hi
        omega
      · omega
      · have := ltva i hi
        omega
    tabs := h.tabs
    inP := fun mb e => Or.inl (h.inP mb e)
    inG := fun mb e => Or.inl (h.inG mb e)
    inZ := fun mb e => Or.inl (h.inZ mb e)
    mapP := h'.mapP
    mapG := h'.mapG
    mapZ := h'.mapZ
    node := fun g y e => by
      by_cases eg : g = w.heap.size
      · subst eg
        simp only [upd_same, Option.some.injEq] at e
        subst e
        rw [upd_same, upd_same]
        exact {
          cells := heap_alloc_new w _
          inF := Or.inr (Or.inl rfl)
          acl := row_of hva (fun k e => old k (ltva k e))
          aclF := fun k e => Or.inr (Or.inr e)
          nam := by rw [hx]; exact World.ownsRow_nil _ _ _ _
          namF := fun k e => by cases e
          ok := ok }
      · simp only [upd_other _ _ eg] at e ⊢
        exact (h.node g y e).keep (fun _ hi => Or.inl hi) oldF (Nat.le_refl _)
    apart := fun g g' y y' e e' k ek ek' => by
      by_cases eg : g = w.heap.size
      · rw [eg, upd_same] at ek
        cases ek
      · by_cases eg' : g' = w.heap.size
        · rw [eg', upd_same] at ek'
          cases ek'
        · simp only [upd_other _ _ eg] at e ek
          simp only [upd_other _ _ eg'] at e' ek'
          exact h.apart g g' y y' e e' k ek ek'
    thereP := fun k g e => by
      obtain ⟨y, hy⟩ := h.thereP k g e
      by_cases eg : g = w.heap.size
      · exact ⟨x, by simp only [eg, upd_same]⟩
      · exact ⟨y, by simp only [upd_other _ _ eg]; exact hy⟩
    thereG := fun k g e => by
      obtain ⟨y, hy⟩ := h.thereG k g e
      by_cases eg : g = w.heap.size
      · exact ⟨x, by simp only [eg, upd_same]⟩
      · exact ⟨y, by simp only [upd_other _ _ eg]; exact hy⟩
    zb := h.zb
    lb := h.lb }

/-- a node's cells, and its row of names, change -/
theorem TreeL.renode (h : TreeL w b F c st mp mg mz av nv) {g : Nat} {x : Nd} (hg : st.N g = some x) {w' : World} {F' : Nat → Prop} (hF : ∀ i, F i → F' i) (hlt : ∀ i, F' i → i < w'.heap.size)
    (hk : ∀ i, F i → i ≠ g → (nv g).ownBlock ≠ some i → w'.heap[i]? = w.heap[i]?) {x' : Nd} {va vn : Value} (hn : NodeL w' F' c g x' va vn) (hap : ∀ g' y, st.N g' = some y → g' ≠ g → ∀ k, (nv g').ownBlock = some k → vn.ownBlock ≠ some k) :
    TreeL w' b F' c { st with N := upd st.N g (some x') } mp mg mz (upd av g va) (upd nv g vn) := by
  have h0 := h.node g x hg
  have cellsNe : ∀ i cs t f, w.heap[i]? = some (.cells cs t f) → t ≠ 95 → t ≠ 9 → F i → w'.heap[i]? = w.heap[i]? := by
    intro i cs t f hi h1 h2 hFi
    refine hk i hFi (tag_ne hi h0.cells h1) (fun e => ?_)
    obtain ⟨cs', hcs⟩ := row_tag h0.nam e
    exact tag_ne hi hcs h2 rfl
  have mapsNe : ∀ m es cl, w.heap[m]? = some (.map es cl) → F m → w'.heap[m]? = w.heap[m]? := by
    intro m es cl hm hFm
    refine hk m hFm (map_cells_ne hm h0.cells) (fun e => ?_)
    obtain ⟨cs', hcs⟩ := row_tag h0.nam e
    exact map_cells_ne hm hcs rfl
  have thereN : ∀ i, (∃ y, st.N i = some y) → ∃ y, upd st.N g (some x') i = some y := fun i ⟨y, hy⟩ => by
    by_cases eg : i = g
    · exact ⟨x', by rw [eg, upd_same]⟩
    · exact ⟨y, by rw [upd_other _ _ eg]; exact hy⟩
  exact {
    head := (cellsNe b _ _ _ h.head (by decide) (by decide) h.inF).trans h.head
    inF := hF b h.inF
    ltF := hlt
    tabs := h.tabs
    inP := fun mb e => hF _ (h.inP mb e)
    inG := fun mb e => hF _ (h.inG mb e)
    inZ := fun mb e => hF _ (h.inZ mb e)
    mapP := h.mapP.keep (Nat.le_refl _) (fun mb e => by
      obtain ⟨es, cl, hm⟩ := (h.mapP.2 mb e).isMap
      exact mapsNe mb es cl hm (h.inP mb e))
    mapG := h.mapG.keep (Nat.le_refl _) (fun mb e => by
      obtain ⟨es, cl, hm⟩ := (h.mapG.2 mb e).isMap
      exact mapsNe mb es cl hm (h.inG mb e))
    mapZ := h.mapZ.keep (Nat.le_refl _) (fun mb e => by
      obtain ⟨es, cl, hm⟩ := (h.mapZ.2 mb e).isMap
      exact mapsNe mb es cl hm (h.inZ mb e))
    node := fun i y e => by
      by_cases eg : i = g
      · subst eg
        simp only [upd_same, Option.some.injEq] at e
        subst e
        rw [upd_same, upd_same]
        exact hn
      · simp only [upd_other _ _ eg] at e ⊢
        have hi := h.node i y e
        exact {
          cells := (hk i hi.inF eg (fun e' => by
            obtain ⟨cs', hcs⟩ := row_tag h0.nam e'
            exact tag_ne hi.cells hcs (by decide) rfl)).trans hi.cells
          inF := hF i hi.inF
          acl := row_of hi.acl (fun k ek => by
            obtain ⟨cs, hcs⟩ := row_tag hi.acl ek
            exact cellsNe k _ _ _ hcs (by decide) (by decide) (hi.aclF k ek))
          aclF := fun k ek => hF k (hi.aclF k ek)
          nam := row_of hi.nam (fun k ek => by
            obtain ⟨cs, hcs⟩ := row_tag hi.nam ek
            exact hk k (hi.namF k ek) (tag_ne hcs h0.cells (by decide)) (fun e' => eg (h.apart i g y x e hg k ek e')))
          namF := fun k ek => hF k (hi.namF k ek)
          ok := hi.ok }
    apart := fun i j y z e e' k ek ek' => by
      by_cases ei : i = g
      · by_cases ej : j = g
        · rw [ei, ej]
        · rw [ei, upd_same] at ek
          simp only [upd_other _ _ ej] at e' ek'
          exact absurd ek (hap j z e' ej k ek')
      · by_cases ej : j = g
        · rw [ej, upd_same] at ek'
          simp only [upd_other _ _ ei] at e ek
          exact absurd ek' (hap i y e ei k ek)
        · simp only [upd_other _ _ ei] at e ek
          simp only [upd_other _ _ ej] at e' ek'
          exact h.apart i j y z e e' k ek ek'
    thereP := fun k i e => thereN i (h.thereP k i e)
    thereG := fun k i e => thereN i (h.thereG k i e)
    zb := h.zb
    lb := h.lb }

/-- one cell of a node, neither its list nor its names -/
theorem TreeL.setNode (h : TreeL w b F c st mp mg mz av nv) {g : Nat} {x x' : Nd} (hg : st.N g = some x) {i : Nat} {v : Value}
    (e : (#[.int .i64 x.br.kind, .int .i64 x.br.uid, .int .i64 x.br.dir, .string (bs x.br.link), .bool x.br.obj, av g, .int .i64 x.br.r1, .int .i64 x.br.r2, .int .i64 x.br.r3, .int .i64 x.br.gt, .int .i64 x.home, nv g] : Array Value).setIfInBounds i v = #[.int .i64 x'.br.kind, .int .i64 x'.br.uid, .int .i64 x'.br.dir, .string (bs x'.br.link), .bool x'.br.obj, av g, .int .i64 x'.br.r1, .int .i64 x'.br.r2, .int .i64 x'.br.r3, .int .i64 x'.br.gt, .int .i64 x'.home, nv g])
    (ea : x'.br.acl = x.br.acl) (en : x'.names = x.names) (ok : x'.Ok c) :
    TreeL (w.setCell ⟨g, i, none⟩ v) b F c { st with N := upd st.N g (some x') } mp mg mz (upd av g (av g)) (upd nv g (nv g)) := by
  have h0 := h.node g x hg
  refine h.renode hg (fun _ h => h) (fun j hj => by simpa using h.ltF j hj) (fun j _ hne _ => other_set _ _ hne) ?_ (fun g' y hy hne k ek ek' => hne (h.apart g' g y x hy hg k ek ek'))
  exact {
    cells := by rw [head_set h0.cells, e]
    inF := h0.inF
    acl := by
      rw [ea]
      refine row_of h0.acl (fun k ek => ?_)
      obtain ⟨cs, hcs⟩ := row_tag h0.acl ek
      exact other_set _ _ (tag_ne hcs h0.cells (by decide))
    aclF := h0.aclF
    nam := by
      rw [en]
      refine row_of h0.nam (fun k ek => ?_)
      obtain ⟨cs, hcs⟩ := row_tag h0.nam ek
      exact other_set _ _ (tag_ne hcs h0.cells (by decide))
    namF := h0.namF
    ok := ok }

end

end Go.Proofs.YtpcdcmoapenbdaaDoor.T
