/-
  A region that draws its order, with operations that are guarded, and whose operations keep a condition on the world: a table says ahead what each slot holds (undef where a guard says no); whatever order comes up, behind it the frame is what the table says. One obligation an operation, at the table's own values. No program is named here.
-/
import Derived.Test.YtknfiepbibaklaaDoorFree
namespace Go.Proofs.YtknfiepbibaklaaDoor.W
open Go.RowKit

section
variable {P : Program} {ops : Array Oper} {Q : Exit → Act → World → Prop}

/-- an operand by the table -/
def tev (tab : Nat → Value) : Operand → Value
  | .tmp t => tab t
  | .const v => v
  | .global g => .pointer (some ⟨g, 0, none⟩)
  | .func f => .func (.func f) #[] #[]
/-- what a guard asks, by the table -/
def tabY (ops : Array Oper) (tab : Nat → Value) (j : Nat) : Option Bool :=
  match (ops[j]?).bind (·.dst) with
  | some d => (match tab d with | .bool b => some b | _ => none)
  | none => none

def tabOp (ops : Array Oper) (ds olds : List Nat) (n i : Nat) (o : Oper) : Bool :=
  (match o.op with | .select _ _ => false | _ => true) &&
  (match o.dst with | some d => decide (d < n) | none => false) &&
  o.after.all (fun e => !Region.binds .any e || decide (e.on < i)) &&
  ((tmpsOf o).all fun t => if ds.contains t then o.after.any fun e => Region.binds .any e && (match ops[e.on]? with | some oj => oj.dst == some t | none => false) else olds.contains t) &&
  (match o.guard with | none => true | some (j, _) => o.after.any fun e => Region.binds .any e && e.on == j)
def tabOk (ops : Array Oper) (ds olds : List Nat) (n : Nat) : Bool :=
  decide (ops.toList.map (·.dst) = ds.map some) && decide ds.Nodup && ops.toList.zipIdx.all fun x => tabOp ops ds olds n x.2 x.1

/-- an operation that is carried out yields what the table says -/
def TabDo (P : Program) (S : World → Prop) (tab : Nat → Value) (o : Oper) : Prop :=
  ∀ d, o.dst = some d → ∀ w, S w → (∃ w', (execOp (tev tab) o).run P w = .ok (.value (tab d)) w' ∧ S w') ∨
    (∃ f xs, (execOp (tev tab) o).run P w = .ok (.enter f xs) w ∧ Calls P f xs w fun e w' => e = .returned (tab d) ∧ S w')
def TabOb (P : Program) (S : World → Prop) (tab : Nat → Value) (ops : Array Oper) (o : Oper) : Prop :=
  (Region.wanted o (tabY ops tab) = true ∧ TabDo P S tab o) ∨ (Region.wanted o (tabY ops tab) = false ∧ ∀ d, o.dst = some d → tab d = undef)
def AllTab (P : Program) (S : World → Prop) (tab : Nat → Value) (ops : Array Oper) : List Oper → Prop
  | [] => True
  | o :: r => TabOb P S tab ops o ∧ AllTab P S tab ops r
theorem allTab_mem {S : World → Prop} {tab : Nat → Value} : ∀ {L : List Oper}, AllTab P S tab ops L → ∀ o ∈ L, TabOb P S tab ops o
  | [], _, _, h => by cases h
  | _ :: _, h, o, ho => by
    rcases List.mem_cons.1 ho with rfl | ho
    · exact h.1
    · exact allTab_mem h.2 o ho
/-- the elder slots are as the table says -/
def AllOld (a0 : Act) (tab : Nat → Value) : List Nat → Prop
  | [] => True
  | t :: r => a0.eval (.tmp t) = tab t ∧ AllOld a0 tab r
theorem allOld_mem {a0 : Act} {tab : Nat → Value} : ∀ {L : List Nat}, AllOld a0 tab L → ∀ t ∈ L, a0.eval (.tmp t) = tab t
  | [], _, _, h => by cases h
  | _ :: _, h, t, ht => by
    rcases List.mem_cons.1 ht with rfl | ht
    · exact h.1
    · exact allOld_mem h.2 t ht

structure Tab (ops : Array Oper) (ds : List Nat) (tab : Nat → Value) (S : World → Prop) (a0 : Act) (l : Array Bool) (a : Act) (w : World) : Prop where
  df : a.defers = a0.defers
  sz : a.tmps.size = a0.tmps.size
  old : ∀ t, t ∉ ds → a.tmps[t]? = a0.tmps[t]?
  new : ∀ (i : Nat) o d, ops[i]? = some o → l.getD i false = true → o.dst = some d → a.eval (.tmp d) = tab d
  st : S w
  ls : l.size = ops.size

theorem eval_of_old {a a0 : Act} {t : Nat} (h : a.tmps[t]? = a0.tmps[t]?) : a.eval (.tmp t) = a0.eval (.tmp t) := by
  simp [Act.eval, h]
theorem tmp_of_eval {a : Act} {d : Nat} {v : Value} (h : a.eval (.tmp d) = v) (hd : d < a.tmps.size) : a.tmps[d]? = some v := by
  simp [Act.eval, hd] at h
  simp [hd, h]

theorem wp_tab {id : Nat} {a0 : Act} {w0 : World} (hm : P.follows .mixedOrders = true) (tab : Nat → Value) (ds olds : List Nat) (S : World → Prop)
    (hok : tabOk ops ds olds a0.tmps.size = true) (hold : AllOld a0 tab olds) (hS0 : S w0.drew) (hob : AllTab P S tab ops ops.toList)
    (hfin : ∀ w, S w → Q .normal (puts tab ds a0) w) : (Code.region id ops true).wp P Q a0 w0 := by
  simp only [tabOk, Bool.and_eq_true, decide_eq_true_eq, List.all_eq_true] at hok
  obtain ⟨⟨k1, k2⟩, k3⟩ := hok
  have dst_in : ∀ (i : Nat) o d, ops[i]? = some o → o.dst = some d → ds[i]? = some d := fun i o d h1 h2 => by
    have := congrArg (fun L => L[i]?) k1
    simp only [List.getElem?_map, Array.getElem?_toList, h1, h2, Option.map_some] at this
    cases h : ds[i]? with
    | none => simp [h] at this
    | some x => simp [h] at this; rw [this]
  have op_ok : ∀ (i : Nat) o, ops[i]? = some o → tabOp ops ds olds a0.tmps.size i o = true := fun i o h => by
    refine k3 (o, i) ?_
    rw [List.mem_zipIdx_iff_getElem?]
    simpa using h
  refine wp_region_any hm (wpAny_inv (Tab ops ds tab S a0) ?_ ?_ _ _ _ _ ?_ ⟨rfl, rfl, fun _ _ => rfl, ?_, hS0, by simp⟩)
  · intro l a w i hi hI
    obtain ⟨h1, o, ho, hall⟩ := mem_ready.1 hi
    have hk := op_ok i o ho
    simp only [tabOp, Bool.and_eq_true] at hk
    obtain ⟨⟨⟨⟨g0, g1⟩, g2⟩, g3⟩, g4⟩ := hk
    cases hd : o.dst with
    | none => rw [hd] at g1; cases g1
    | some d =>
      rw [hd] at g1
      have hdn : d < a0.tmps.size := of_decide_eq_true g1
      have hdi := dst_in i o d ho hd
      have hsel : ∀ cs b, o.op ≠ .select cs b := fun cs b e => by rw [e] at g0; cases g0
      have hev : ∀ x ∈ o.op.operands, a.eval x = tev tab x := fun x hx => by
        cases x with
        | tmp t =>
          have ht : t ∈ tmpsOf o := List.mem_filterMap.2 ⟨.tmp t, by simpa using hx, rfl⟩
          have h2 := List.all_eq_true.1 g3 t ht
          show a.eval (.tmp t) = tab t
          by_cases hc : ds.contains t = true
          · rw [if_pos hc, Array.any_eq_true'] at h2
            obtain ⟨e, he, h3⟩ := h2
            simp only [Bool.and_eq_true] at h3
            obtain ⟨h3, h4⟩ := h3
            cases hj : ops[e.on]? with
            | none => rw [hj] at h4; cases h4
            | some oj =>
              rw [hj] at h4
              exact hI.new e.on oj t hj (hall e he h3) (by simpa using h4)
          · rw [if_neg hc] at h2
            rw [eval_of_old (hI.old t (by simpa using hc))]
            exact allOld_mem hold t (by simpa using h2)
        | const v => rfl
        | global g => rfl
        | func f => rfl
      have hex := execOp_congr o hsel hev
      have hwant : Region.wanted o (yielded ops a.tmps) = Region.wanted o (tabY ops tab) := by
        unfold Region.wanted
        cases hg : o.guard with
        | none => rfl
        | some p =>
          obtain ⟨j, b⟩ := p
          rw [hg] at g4
          simp only [Array.any_eq_true', Bool.and_eq_true, beq_iff_eq] at g4
          obtain ⟨e, he, h3, rfl⟩ := g4
          have hdone := hall e he h3
          suffices h : yielded ops a.tmps e.on = tabY ops tab e.on by simp only [h]
          unfold yielded tabY
          cases hj : ops[e.on]? with
          | none => rfl
          | some oj =>
            cases hdj : oj.dst with
            | none => simp [hdj]
            | some dj =>
              have h5 := op_ok e.on oj hj
              simp only [tabOp, Bool.and_eq_true] at h5
              have h6 := h5.1.1.1.2
              rw [hdj] at h6
              have h7 : dj < a.tmps.size := by rw [hI.sz]; exact of_decide_eq_true h6
              have h8 := tmp_of_eval (hI.new e.on oj dj hj hdone hdj) h7
              simp [hdj, h8]
              cases tab dj <;> rfl
      have hlt := size_of_false h1
      have keep : ∀ w', S w' → Tab ops ds tab S a0 (l.setIfInBounds i true) (a.put (some d) (tab d)) w' := fun w' hw' => by
        refine ⟨by simpa [Act.put] using hI.df, by simpa [Act.put] using hI.sz, fun t ht => ?_, fun j oj dj hj hlj hdj => ?_, hw', by simpa using hI.ls⟩
        · have hne : d ≠ t := fun e => ht (e ▸ List.mem_of_getElem? hdi)
          rw [← hI.old t ht]
          simp only [Act.put]
          exact Array.getElem?_setIfInBounds_ne hne
        · have hdj' := dst_in j oj dj hj hdj
          by_cases e : i = j
          · subst e
            rw [ho] at hj
            cases hj
            rw [hd] at hdj
            cases hdj
            exact eval_put_same (by rw [hI.sz]; exact hdn)
          · rw [set_else e] at hlj
            have hne : d ≠ dj := fun e2 => by
              subst e2
              obtain ⟨p1, p2⟩ := List.getElem?_eq_some_iff.1 hdi
              obtain ⟨p3, p4⟩ := List.getElem?_eq_some_iff.1 hdj'
              rw [List.Nodup, List.pairwise_iff_getElem] at k2
              rcases Nat.lt_or_gt_of_ne e with hlt | hlt
              · exact k2 i j p1 p3 hlt (p2.trans p4.symm)
              · exact k2 j i p3 p1 hlt (p4.trans p2.symm)
            rw [eval_put_else hne]
            exact hI.new j oj dj hj hlj hdj
      unfold wpOp
      simp only [ho]
      rw [hwant]
      rcases allTab_mem hob o (by rw [Array.mem_toList_iff]; exact Array.mem_of_getElem? ho) with ⟨hw, hdo⟩ | ⟨hw, hun⟩
      · rw [if_pos hw]
        refine Or.inl ?_
        unfold Oper.wp
        rw [hex]
        rcases hdo d hd w hI.st with ⟨w', hr, hs'⟩ | ⟨f, xs, hr, hc⟩
        · rw [hr]
          show Tab ops ds tab S a0 (l.setIfInBounds i true) (a.put o.dst (tab d)) w'
          rw [hd]
          exact keep w' hs'
        · rw [hr, Oper.upon_enter]
          refine hc.mono ?_
          rintro e w' ⟨rfl, hs'⟩
          rw [hd]
          exact keep w' hs'
      · rw [if_neg (by rw [hw]; decide), hd, ← hun d hd]
        exact keep w hI.st
  · intro l a w hr hI
    have hall : ∀ n i, i < n → i < ops.size → l.getD i false = true := by
      intro n
      induction n with
      | zero => intro i hi; omega
      | succ n ih =>
        intro i hi hio
        by_cases hc : l.getD i false = true
        · exact hc
        · exfalso
          have hil : i < l.size := by rw [hI.ls]; exact hio
          have hc2 : l.getD i true = false := by simp [hil] at hc ⊢; exact hc
          have hmem : i ∈ Region.ready .any ops l := by
            refine mem_ready.2 ⟨hc2, ops[i], Array.getElem?_eq_getElem hio, fun e he hb => ?_⟩
            have hk := op_ok i _ (Array.getElem?_eq_getElem hio)
            simp only [tabOp, Bool.and_eq_true, Array.all_eq_true'] at hk
            have h3 := hk.1.1.2 e he
            rw [hb] at h3
            simp at h3
            exact ih e.on (by omega) (by omega)
          rw [hr] at hmem
          cases hmem
    have hnew : ∀ t ∈ ds, a.eval (.tmp t) = tab t := fun t ht => by
      obtain ⟨i, hi⟩ := List.getElem?_of_mem ht
      have hlen : ds.length = ops.size := by
        have := congrArg List.length k1
        simp at this
        exact this.symm
      have hio : i < ops.size := by rw [← hlen]; exact (List.getElem?_eq_some_iff.1 hi).1
      have := congrArg (fun L => L[i]?) k1
      simp only [List.getElem?_map, Array.getElem?_toList, Array.getElem?_eq_getElem hio, hi, Option.map_some, Option.some.injEq] at this
      exact hI.new i _ t (Array.getElem?_eq_getElem hio) (hall (i + 1) i (by omega) hio) this
    have he := puts_eq hI.df hI.sz hI.old
    have hsame : ∀ (L : List Nat) (b : Act), (∀ t ∈ L, a.eval (.tmp t) = tab t) → puts (fun t => a.eval (.tmp t)) L b = puts tab L b := by
      intro L
      induction L with
      | nil => intro b _; rfl
      | cons x r ih =>
        intro b hL
        simp only [puts]
        rw [hL x List.mem_cons_self]
        exact ih _ (fun t ht => hL t (List.mem_cons_of_mem _ ht))
    rw [he, hsame ds a0 hnew]
    exact hfin _ hI.st
  · unfold leftN
    exact Nat.le_trans (List.length_filter_le _ _) (by simp)
  · intro i o d _ h _
    exfalso
    simp only [Array.getD_eq_getD_getElem?, Array.getElem?_replicate] at h
    split at h <;> simp at h
end

section
variable {P : Program} {S : World → Prop} {tab : Nat → Value} {o : Oper}

/-- moved, picked -/
theorem td_move {x : Operand} (ho : o.op = .move x ∨ o.op = .assign x) (hv : ∀ d, o.dst = some d → tev tab x = tab d) : TabDo P S tab o := fun d hd w hS => Or.inl ⟨w, by
  unfold execOp
  rcases ho with ho | ho <;> simp only [ho, Sem.run_pure, hv d hd], hS⟩
theorem td_pick {c x y : Operand} {b : Bool} (ho : o.op = .pick c x y) (hc : tev tab c = .bool b) (hv : ∀ d, o.dst = some d → (if b then tev tab x else tev tab y) = tab d) : TabDo P S tab o := fun d hd w hS => Or.inl ⟨w, by
  unfold execOp
  simp only [ho, hc, asBool, Sem.run_bind, Sem.run_pure, Result.andThen_ok]
  rw [← hv d hd], hS⟩
/-- a value that is the same in every world -/
theorem td_run {v : Value} (hv : ∀ d, o.dst = some d → v = tab d) (hr : ∀ w, S w → (execOp (tev tab) o).run P w = .ok (.value v) w) : TabDo P S tab o := fun d hd w hS => Or.inl ⟨w, (hv d hd) ▸ hr w hS, hS⟩
theorem td_call {f : FuncId} {xs : Array Operand} {ts : Array TypeId} {vs : Array Value} {v : Value} (ho : o.op = .call { callee := .value (.func f), args := xs, argTypes := ts }) (hx : xs.map (tev tab) = vs) (hv : ∀ d, o.dst = some d → v = tab d) (hcf : ∀ w, (callFunc f vs).run P w = .ok (.enter f vs) w)
    (hc : ∀ w, S w → Calls P f vs w fun e w' => e = .returned v ∧ S w') : TabDo P S tab o := fun d hd w hS => Or.inr ⟨f, vs, by
  unfold execOp
  simp only [ho, resolve, invoke, tev, Deferred.ofValue, Sem.run_bind, Sem.run_pure, Result.andThen_ok, hx, Array.empty_append, Array.append_empty]
  exact hcf w, (hv d hd) ▸ hc w hS⟩
end

end Go.Proofs.YtknfiepbibaklaaDoor.W
