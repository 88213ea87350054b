/-
  A region that draws its order, whose operations make memory and values and wait for one another by what they read alone: whatever order comes up, behind it each slot holds what is said of it. One obligation an operation. No program is named here.
-/
import Derived.Orders
import Derived.Below
namespace Go.Proofs.YtknfiepbibaklaaDoor.W
open Go.RowKit

section
variable {P : Program} {ops : Array Oper} {Q : Exit → Act → World → Prop}

def leftN (ops : Array Oper) (l : Array Bool) : Nat := ((List.range ops.size).filter fun i => !l.getD i true).length

theorem filter_le {p q : Nat → Bool} : ∀ (L : List Nat), (∀ j ∈ L, q j = true → p j = true) → (L.filter q).length ≤ (L.filter p).length
  | [], _ => Nat.le_refl _
  | x :: r, h => by
    have ih := filter_le r (fun j hj => h j (List.mem_cons_of_mem _ hj))
    have hx := h x List.mem_cons_self
    cases hq : q x with
    | true => rw [List.filter_cons_of_pos hq, List.filter_cons_of_pos (hx hq)]; simp only [List.length_cons]; omega
    | false =>
      rw [List.filter_cons_of_neg (by simp [hq])]
      cases hp : p x with
      | true => rw [List.filter_cons_of_pos hp]; simp only [List.length_cons]; omega
      | false => rw [List.filter_cons_of_neg (by simp [hp])]; exact ih
theorem filter_lt {p q : Nat → Bool} {i : Nat} : ∀ (L : List Nat), (∀ j ∈ L, q j = true → p j = true) → i ∈ L → p i = true → q i = false → (L.filter q).length < (L.filter p).length
  | [], _, hi, _, _ => by cases hi
  | x :: r, h, hi, hp, hq => by
    have hx := h x List.mem_cons_self
    have hr : ∀ j ∈ r, q j = true → p j = true := fun j hj => h j (List.mem_cons_of_mem _ hj)
    rcases List.mem_cons.1 hi with rfl | hi
    · have := filter_le r hr
      rw [List.filter_cons_of_neg (by simp [hq]), List.filter_cons_of_pos hp]
      simp only [List.length_cons]
      omega
    · have ih := filter_lt r hr hi hp hq
      cases hqx : q x with
      | true => rw [List.filter_cons_of_pos hqx, List.filter_cons_of_pos (hx hqx)]; simp only [List.length_cons]; omega
      | false =>
        rw [List.filter_cons_of_neg (by simp [hqx])]
        cases hpx : p x with
        | true => rw [List.filter_cons_of_pos hpx]; simp only [List.length_cons]; omega
        | false => rw [List.filter_cons_of_neg (by simp [hpx])]; exact ih

theorem ready_range {md : Region.Mode} {l : Array Bool} {i : Nat} (h : i ∈ Region.ready md ops l) : i ∈ List.range ops.size ∧ l.getD i true = false := by
  obtain ⟨h1, o, h2, -⟩ := mem_ready.1 h
  exact ⟨List.mem_range.2 (Array.getElem?_eq_some_iff.1 h2).1, h1⟩
theorem set_same {l : Array Bool} {i : Nat} {d : Bool} (h : i < l.size) : (l.setIfInBounds i true).getD i d = true := by simp [h]
theorem set_else {l : Array Bool} {i j : Nat} {d : Bool} (h : i ≠ j) : (l.setIfInBounds i true).getD j d = l.getD j d := by
  simp [Array.getElem?_setIfInBounds_ne h]
theorem size_of_false {l : Array Bool} {i : Nat} (h : l.getD i true = false) : i < l.size := by
  by_cases hi : i < l.size
  · exact hi
  · simp [hi] at h

/-- an invariant of whatever has come up -/
theorem wpAny_inv {md : Region.Mode} (I : Array Bool → Act → World → Prop)
    (hs : ∀ l a w i, i ∈ Region.ready md ops l → I l a w → wpOp P ops Q i (I (l.setIfInBounds i true)) a w)
    (hf : ∀ l a w, Region.ready md ops l = [] → I l a w → Q .normal a w) :
    ∀ (fuel : Nat) (l : Array Bool) (a : Act) (w : World), leftN ops l ≤ fuel → I l a w → wpAny P md ops Q fuel l a w
  | 0, l, a, w, hn, h => by
    have h0 : Region.ready md ops l = [] := by
      apply List.eq_nil_iff_forall_not_mem.2
      intro i hi
      obtain ⟨h1, h2⟩ := ready_range hi
      have : i ∈ (List.range ops.size).filter fun i => !l.getD i true := List.mem_filter.2 ⟨h1, by simp only [h2]; rfl⟩
      have h3 : (List.range ops.size).filter (fun i => !l.getD i true) = [] := List.length_eq_zero_iff.1 (by unfold leftN at hn; omega)
      rw [h3] at this
      cases this
    exact ⟨h0, hf l a w h0 h⟩
  | fuel + 1, l, a, w, hn, h => by
    refine ⟨fun h0 => hf l a w h0 h, fun i hi => wpOp_mono (fun a' w' h' => wpAny_inv I hs hf fuel _ a' w' ?_ h') (hs l a w i hi h)⟩
    obtain ⟨h1, h2⟩ := ready_range hi
    have hlt := size_of_false h2
    have : leftN ops (l.setIfInBounds i true) < leftN ops l := by
      unfold leftN
      refine filter_lt (i := i) _ (fun j _ hj => ?_) h1 (by simp only [h2]; rfl) (by rw [set_same hlt]; rfl)
      by_cases e : i = j
      · subst e; rw [set_same hlt] at hj; cases hj
      · rw [set_else e] at hj; exact hj
    omega

/-- the slots that an operation reads -/
def tmpsOf (o : Oper) : List Nat := o.op.operands.toList.filterMap fun | .tmp t => some t | _ => none
def freeOp (ops : Array Oper) (ds : List Nat) (n i : Nat) (o : Oper) : Bool :=
  o.guard.isNone && (match o.dst with | some d => decide (d < n) | none => false) &&
  o.after.all (fun e => !Region.binds .any e || decide (e.on < i)) &&
  (tmpsOf o).all fun t => !ds.contains t || o.after.any fun e => Region.binds .any e && (match ops[e.on]? with | some oj => oj.dst == some t | none => false)
/-- each operation has a slot of its own, waits for what it reads, and for elder ones alone -/
def freeOk (ops : Array Oper) (ds : List Nat) (n : Nat) : Bool :=
  decide (ops.toList.map (·.dst) = ds.map some) && decide ds.Nodup && ops.toList.zipIdx.all fun x => freeOp ops ds n x.2 x.1

/-- an operation does what is said of its slot, and changes nothing that was -/
def Does (P : Program) (F : Nat → Value → World → Prop) (o : Oper) (a : Act) (w : World) : Prop :=
  ∀ (K : Act → World → Prop) (Q : Exit → Act → World → Prop), (∀ v w', (∀ d, o.dst = some d → F d v w') → Below w.heap.size w w' → K (a.put o.dst v) w') → o.wp P a w K Q
theorem does_run {F : Nat → Value → World → Prop} {o : Oper} {a : Act} {w : World} (v : Value) (w' : World) (hr : (execOp a.eval o).run P w = .ok (.value v) w') (hF : ∀ d, o.dst = some d → F d v w') (hB : Below w.heap.size w w') : Does P F o a w := fun K Q h => by
  unfold Oper.wp
  rw [hr]
  exact h v w' hF hB
/-- .. a call of a function -/
theorem does_call {F : Nat → Value → World → Prop} {o : Oper} {a : Act} {w : World} {f : FuncId} {xs : Array Operand} {ts : Array TypeId} (ho : o.op = .call { callee := .value (.func f), args := xs, argTypes := ts }) (vs : List Value) (hx : (xs.map a.eval).toList = vs) (hcf : (callFunc f vs.toArray).run P w = .ok (.enter f vs.toArray) w) (hc : Calls P f vs.toArray w fun e w' => ∃ v, e = .returned v ∧ (∀ d, o.dst = some d → F d v w') ∧ Below w.heap.size w w') : Does P F o a w := fun K Q h => by
  have hr : (execOp a.eval o).run P w = .ok (.enter f vs.toArray) w := by
    have e : xs.map a.eval = vs.toArray := by rw [← hx]
    unfold execOp
    simp only [ho, resolve, invoke, Act.eval, Deferred.ofValue, Sem.run_bind, Sem.run_pure, Result.andThen_ok, e, Array.empty_append, Array.append_empty]
    exact hcf
  unfold Oper.wp
  rw [hr, Oper.upon_enter]
  refine hc.mono ?_
  rintro e w' ⟨v, rfl, h1, h2⟩
  exact h v w' h1 h2

structure Free (ops : Array Oper) (ds : List Nat) (F : Nat → Value → World → Prop) (a0 : Act) (w0 : World) (l : Array Bool) (a : Act) (w : World) : Prop where
  df : a.defers = a0.defers
  sz : a.tmps.size = a0.tmps.size
  old : ∀ t, t ∉ ds → a.tmps[t]? = a0.tmps[t]?
  new : ∀ (i : Nat) o d, ops[i]? = some o → l.getD i false = true → o.dst = some d → F d (a.eval (.tmp d)) w
  bel : Below w0.heap.size w0 w
  ls : l.size = ops.size

theorem eval_put_same {a : Act} {d : Nat} {v : Value} (h : d < a.tmps.size) : (a.put (some d) v).eval (.tmp d) = v := by
  simp [Act.put, Act.eval, h]
theorem eval_put_else {a : Act} {d t : Nat} {v : Value} (h : d ≠ t) : (a.put (some d) v).eval (.tmp t) = a.eval (.tmp t) := by
  simp [Act.put, Act.eval, Array.getElem?_setIfInBounds_ne h]
theorem eval_const (a : Act) (v : Value) : a.eval (.const v) = v := rfl

/-- the frame behind it -/
def puts (V : Nat → Value) : List Nat → Act → Act
  | [], a => a
  | d :: r, a => puts V r (a.put (some d) (V d))
theorem puts_df (V : Nat → Value) : ∀ (ds : List Nat) (a : Act), (puts V ds a).defers = a.defers
  | [], _ => rfl
  | _ :: r, _ => puts_df V r _
theorem puts_sz (V : Nat → Value) : ∀ (ds : List Nat) (a : Act), (puts V ds a).tmps.size = a.tmps.size
  | [], _ => rfl
  | d :: r, a => by rw [puts, puts_sz V r]; simp [Act.put]
theorem puts_at (V : Nat → Value) : ∀ (ds : List Nat) (a : Act) (t : Nat), t < a.tmps.size → (puts V ds a).tmps[t]? = if t ∈ ds then some (V t) else a.tmps[t]?
  | [], _, _, _ => by simp [puts]
  | d :: r, a, t, h => by
    rw [puts, puts_at V r _ t (by simpa [Act.put] using h)]
    by_cases ht : t ∈ r
    · simp [ht]
    · by_cases e : t = d
      · subst e; simp [ht, Act.put, h]
      · simp only [ht, List.mem_cons, e, or_self, if_false, Act.put]
        exact Array.getElem?_setIfInBounds_ne (fun h => e h.symm)
theorem puts_eq {a a0 : Act} {ds : List Nat} (hd : a.defers = a0.defers) (hs : a.tmps.size = a0.tmps.size) (ho : ∀ t, t ∉ ds → a.tmps[t]? = a0.tmps[t]?) : a = puts (fun t => a.eval (.tmp t)) ds a0 := by
  have h1 := puts_df (fun t => a.eval (.tmp t)) ds a0
  have h2 := puts_sz (fun t => a.eval (.tmp t)) ds a0
  have h3 := puts_at (fun t => a.eval (.tmp t)) ds a0
  generalize puts (fun t => a.eval (.tmp t)) ds a0 = b at *
  cases a with
  | mk ta da =>
    cases b with
    | mk tb db =>
      simp only at hd hs ho h1 h2 h3
      obtain rfl : da = db := hd.trans h1.symm
      have : ta = tb := by
        apply Array.ext (hs.trans h2.symm)
        intro t h4 h5
        have h6 := h3 t (by omega)
        by_cases ht : t ∈ ds
        · rw [if_pos ht, Array.getElem?_eq_getElem h5] at h6
          have h7 := Option.some.inj h6
          rw [h7]
          simp [Act.eval, h4]
        · rw [if_neg ht, ← ho t ht, Array.getElem?_eq_getElem h5, Array.getElem?_eq_getElem h4] at h6
          exact (Option.some.inj h6).symm
      rw [this]

theorem wp_free {id : Nat} {a0 : Act} {w0 : World} (hm : P.follows .mixedOrders = true) (ds : List Nat) (F : Nat → Value → World → Prop)
    (hok : freeOk ops ds a0.tmps.size = true) (hmono : ∀ t v w w', F t v w → Below w.heap.size w w' → F t v w')
    (hstep : ∀ o ∈ ops.toList, ∀ a w, Below w0.heap.size w0 w → (∀ t, t ∉ ds → a.tmps[t]? = a0.tmps[t]?) → (∀ t ∈ tmpsOf o, t ∈ ds → F t (a.eval (.tmp t)) w) → Does P F o a w)
    (hfin : ∀ V w, (∀ t ∈ ds, F t (V t) w) → Below w0.heap.size w0 w → Q .normal (puts V ds a0) w) : (Code.region id ops true).wp P Q a0 w0 := by
  simp only [freeOk, Bool.and_eq_true, decide_eq_true_eq, List.all_eq_true] at hok
  obtain ⟨⟨k1, k2⟩, k3⟩ := hok
  have dst_in : ∀ (i : Nat) o d, ops[i]? = some o → o.dst = some d → ds[i]? = some d := fun i o d h1 h2 => by
    have := congrArg (fun L => L[i]?) k1
    simp only [List.getElem?_map, Array.getElem?_toList, h1, h2, Option.map_some] at this
    cases h : ds[i]? with
    | none => simp [h] at this
    | some x => simp [h] at this; rw [this]
  have op_ok : ∀ (i : Nat) o, ops[i]? = some o → freeOp ops ds a0.tmps.size i o = true := fun i o h => by
    refine k3 (o, i) ?_
    rw [List.mem_zipIdx_iff_getElem?]
    simpa using h
  refine wp_region_any hm (wpAny_inv (Free ops ds F a0 w0) ?_ ?_ _ _ _ _ ?_ ⟨rfl, rfl, fun _ _ => rfl, ?_, ⟨rfl, rfl, rfl, Nat.le_refl _, fun _ _ => rfl⟩, by simp⟩)
  · intro l a w i hi hI
    obtain ⟨h1, o, ho, hall⟩ := mem_ready.1 hi
    have hk := op_ok i o ho
    simp only [freeOp, Bool.and_eq_true] at hk
    obtain ⟨⟨⟨g1, g2⟩, g3⟩, g4⟩ := hk
    cases hd : o.dst with
    | none => rw [hd] at g2; cases g2
    | some d =>
      rw [hd] at g2
      have hdn : d < a0.tmps.size := of_decide_eq_true g2
      have hdi := dst_in i o d ho hd
      have hfacts : ∀ t ∈ tmpsOf o, t ∈ ds → F t (a.eval (.tmp t)) w := fun t ht htd => by
        have h2 := List.all_eq_true.1 g4 t ht
        simp only [Bool.or_eq_true, Bool.not_eq_true', Array.any_eq_true'] at h2
        rcases h2 with h2 | ⟨e, he, h2⟩
        · simp [htd] at h2
        · simp only [Bool.and_eq_true] at h2
          obtain ⟨h3, h4⟩ := h2
          cases hj : ops[e.on]? with
          | none => rw [hj] at h4; cases h4
          | some oj =>
            rw [hj] at h4
            exact hI.new e.on oj t hj (hall e he h3) (by simpa using h4)
      have hdo := hstep o (by
        rw [Array.mem_toList_iff]
        exact Array.mem_of_getElem? ho) a w hI.bel hI.old hfacts
      unfold wpOp
      simp only [ho]
      have hg : o.guard = none := by simpa using g1
      rw [if_pos (by simp [Region.wanted, hg])]
      refine Or.inl (hdo _ _ fun v w' hF hB => ?_)
      rw [hd]
      have hlt := size_of_false h1
      refine ⟨by simpa [Act.put] using hI.df, by simpa [Act.put] using hI.sz, fun t ht => ?_, fun j oj dj hj hlj hdj => ?_, ?_, by simpa using hI.ls⟩
      · have hne : d ≠ t := fun e => ht (e ▸ List.mem_of_getElem? hdi)
        rw [← hI.old t ht]
        simp only [Act.put]
        exact Array.getElem?_setIfInBounds_ne hne
      · have hdj' := dst_in j oj dj hj hdj
        by_cases e : i = j
        · subst e
          rw [ho] at hj
          cases hj
          rw [hd] at hdj
          cases hdj
          rw [eval_put_same (by rw [hI.sz]; exact hdn)]
          exact hF d hd
        · rw [set_else e] at hlj
          have hne : d ≠ dj := fun e2 => by
            subst e2
            obtain ⟨p1, p2⟩ := List.getElem?_eq_some_iff.1 hdi
            obtain ⟨p3, p4⟩ := List.getElem?_eq_some_iff.1 hdj'
            rw [List.Nodup, List.pairwise_iff_getElem] at k2
            rcases Nat.lt_or_gt_of_ne e with hlt | hlt
            · exact k2 i j p1 p3 hlt (p2.trans p4.symm)
            · exact k2 j i p3 p1 hlt (p4.trans p2.symm)
          rw [eval_put_else hne]
          exact hmono _ _ _ _ (hI.new j oj dj hj hlj hdj) hB
      · exact hI.bel.trans (hB.mono hI.bel.size)
  · intro l a w hr hI
    have hall : ∀ n i, i < n → i < ops.size → l.getD i false = true := by
      intro n
      induction n with
      | zero => intro i hi; omega
      | succ n ih =>
        intro i hi hio
        by_cases hc : l.getD i false = true
        · exact hc
        · exfalso
          have hil : i < l.size := by rw [hI.ls]; exact hio
          have hc2 : l.getD i true = false := by simp [hil] at hc ⊢; exact hc
          have hmem : i ∈ Region.ready .any ops l := by
            refine mem_ready.2 ⟨hc2, ops[i], Array.getElem?_eq_getElem hio, fun e he hb => ?_⟩
            have hk := op_ok i _ (Array.getElem?_eq_getElem hio)
            simp only [freeOp, Bool.and_eq_true, Array.all_eq_true'] at hk
            have h3 := hk.1.2 e he
            rw [hb] at h3
            simp at h3
            exact ih e.on (by omega) (by omega)
          rw [hr] at hmem
          cases hmem
    have hnew : ∀ t ∈ ds, F t (a.eval (.tmp t)) w := fun t ht => by
      obtain ⟨i, hi⟩ := List.getElem?_of_mem ht
      have hlen : ds.length = ops.size := by
        have := congrArg List.length k1
        simp at this
        exact this.symm
      have hio : i < ops.size := by rw [← hlen]; exact (List.getElem?_eq_some_iff.1 hi).1
      have := congrArg (fun L => L[i]?) k1
      simp only [List.getElem?_map, Array.getElem?_toList, Array.getElem?_eq_getElem hio, hi, Option.map_some, Option.some.injEq] at this
      exact hI.new i _ t (Array.getElem?_eq_getElem hio) (hall (i + 1) i (by omega) hio) this
    rw [puts_eq hI.df hI.sz hI.old]
    exact hfin _ _ hnew hI.bel
  · unfold leftN
    exact Nat.le_trans (List.length_filter_le _ _) (by simp)
  · intro i o d _ h _
    exfalso
    simp only [Array.getD_eq_getD_getElem?, Array.getElem?_replicate] at h
    split at h <;> simp at h
end

end Go.Proofs.YtknfiepbibaklaaDoor.W
