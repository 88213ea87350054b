/-
  The program's tree and the document's own say the same: Rel, by a map f from the document's numbers of branches to the program's nodes; it is kept by what each deed does to both.
  Rel is kept by Unname, Delete, Access and Ringed.
-/
import Derived.Test.YtpcdcmoapenbdaaDoorMDels
import Derived.Test.YtpcdcmoapenbdaaDoorMSet
namespace Go.Proofs.YtpcdcmoapenbdaaDoor.T
open Go.Proofs.YtpcdcmoapenbdaaDoor.A (Tm)

theorem at_no {E : List En} {d : Int} {s : Txt} : at? E d s = none ↔ ∀ e ∈ E, ¬ (e.1 = d ∧ e.2.2 = s) := by
  unfold at?
  rw [List.findIdx?_eq_none_iff]
  simp only [isAt, Bool.and_eq_false_iff, decide_eq_false_iff_not]
  exact ⟨fun h e he hk => (h e he).elim (fun h1 => h1 hk.1) (fun h1 => h1 hk.2), fun h e he => Decidable.not_and_iff_or_not.1 (h e he)⟩
theorem at_yes {E : List En} {d : Int} {s : Txt} {k : Nat} (h : at? E d s = some k) : ∃ hk : k < E.length, E[k].1 = d ∧ E[k].2.2 = s := by
  unfold at? at h
  rw [List.findIdx?_eq_some_iff_getElem] at h
  obtain ⟨hk, h1, _⟩ := h
  simp only [isAt, Bool.and_eq_true, decide_eq_true_eq] at h1
  exact ⟨hk, h1⟩

theorem cntI_add (E : List En) (e : En) (id : Nat) : cntI (E ++ [e]) id = cntI E id + (if e.2.1 = id then 1 else 0) := by
  unfold cntI
  rw [List.filter_append, List.length_append]
  by_cases h : e.2.1 = id <;> simp [h]
theorem cntD_add (E : List En) (e : En) (d : Int) : cntD (E ++ [e]) d = cntD E d + (if e.1 = d then 1 else 0) := by
  unfold cntD
  rw [List.filter_append, List.length_append]
  by_cases h : e.1 = d <;> simp [h]
theorem cntI_zero {E : List En} {id : Nat} (h : ∀ e ∈ E, e.2.1 ≠ id) : cntI E id = 0 := by
  unfold cntI
  rw [List.length_eq_zero_iff, List.filter_eq_nil_iff]
  exact fun e he => by simpa using h e he
theorem hasU_iff (m : Ms) (u : Int) : hasU m u = true ↔ ∃ e ∈ m.E, ∃ x, m.B[e.2.1]? = some x ∧ x.kind = 1 ∧ x.uid = u := by
  unfold hasU
  rw [List.any_eq_true]
  constructor
  · rintro ⟨e, he, h⟩
    unfold isU at h
    cases hx : m.B[e.2.1]? with
    | none => rw [hx] at h; cases h
    | some x =>
      rw [hx] at h
      simp only [Bool.and_eq_true, decide_eq_true_eq] at h
      exact ⟨e, he, x, hx, h.1, h.2⟩
  · rintro ⟨e, he, x, hx, h1, h2⟩
    refine ⟨e, he, ?_⟩
    unfold isU
    rw [hx]
    simp [h1, h2]

/-- both say the same -/
structure Rel (st : St) (m : Ms) (f : Nat → Nat) : Prop where
  last : st.last + 1 = m.D.length
  dirs : ∀ d, isD st d = isMD m.D d
  key : m.E.Pairwise (fun e e' => ¬ (e.1 = e'.1 ∧ e.2.2 = e'.2.2))
  fwd : ∀ e ∈ m.E, st.P (e.1, e.2.2) = some (f e.2.1)
  bwd : ∀ d s g, st.P (d, s) = some g → ∃ e ∈ m.E, e.1 = d ∧ e.2.2 = s
  node : ∀ e ∈ m.E, ∃ x, st.N (f e.2.1) = some x ∧ m.B[e.2.1]? = some x.br ∧ x.home = e.1 ∧ x.names.length = cntI m.E e.2.1 ∧ x.names.Nodup ∧ ∀ s, s ∈ x.names ↔ (e.1, e.2.1, s) ∈ m.E
  inj : ∀ e ∈ m.E, ∀ e' ∈ m.E, f e.2.1 = f e'.2.1 → e.2.1 = e'.2.1
  size : ∀ d, (st.Z d).getD 0 = cntD m.E d
  uids : ∀ u, (st.G u).isSome = true ↔ ∃ e ∈ m.E, ∃ x, m.B[e.2.1]? = some x ∧ x.kind = 1 ∧ x.uid = u
  seg : ∀ e ∈ m.E, ∀ e' ∈ m.E, ∀ x x', m.B[e.2.1]? = some x → m.B[e'.2.1]? = some x' → x.kind = 1 → x'.kind = 1 → x.uid = x'.uid → e.2.1 = e'.2.1
  dir : ∀ e ∈ m.E, ∀ x, m.B[e.2.1]? = some x → x.kind = 2 → 1 ≤ x.dir ∧ x.dir < m.D.length
  dirU : ∀ e ∈ m.E, ∀ e' ∈ m.E, ∀ x x', m.B[e.2.1]? = some x → m.B[e'.2.1]? = some x' → x.kind = 2 → x'.kind = 2 → x.dir = x'.dir → e.2.1 = e'.2.1
  alive : ∀ e ∈ m.E, isMD m.D e.1 = true

section
variable {st : St} {m : Ms} {f : Nat → Nat}

theorem Rel.id_lt (h : Rel st m f) {e : En} (he : e ∈ m.E) : e.2.1 < m.B.length := by
  obtain ⟨x, _, hx, _⟩ := h.node e he
  exact (List.getElem?_eq_some_iff.1 hx).1
theorem Rel.none_iff (h : Rel st m f) (d : Int) (s : Txt) : st.P (d, s) = none ↔ at? m.E d s = none := by
  rw [at_no]
  constructor
  · rintro hp e he ⟨rfl, rfl⟩
    rw [h.fwd e he] at hp
    cases hp
  · intro hn
    cases hp : st.P (d, s) with
    | none => rfl
    | some g =>
      obtain ⟨e, he, hk⟩ := h.bwd d s g hp
      exact absurd hk (hn e he)
/-- what stands by a name, in both -/
theorem Rel.some_at (h : Rel st m f) {d : Int} {s : Txt} {g : Nat} (hp : st.P (d, s) = some g) : ∃ k, ∃ hk : k < m.E.length, at? m.E d s = some k ∧ m.E[k].1 = d ∧ m.E[k].2.2 = s ∧ g = f m.E[k].2.1 := by
  cases ha : at? m.E d s with
  | none => rw [(h.none_iff d s).2 ha] at hp; cases hp
  | some k =>
    obtain ⟨hk, h1, h2⟩ := at_yes ha
    refine ⟨k, hk, rfl, h1, h2, ?_⟩
    have := h.fwd _ (List.getElem_mem hk)
    rw [h1, h2, hp] at this
    cases this
    rfl
theorem Rel.looks (h : Rel st m f) (d : Int) (s : Txt) : lk st d s = lkM m d s := by
  unfold lk lkM
  cases hp : st.P (d, s) with
  | none => rw [(h.none_iff d s).1 hp]
  | some g =>
    obtain ⟨k, hk, ha, h1, h2, rfl⟩ := h.some_at hp
    obtain ⟨x, hx, hB, _⟩ := h.node _ (List.getElem_mem hk)
    simp only [ha, hx, Option.map_some, List.getElem?_eq_getElem hk, Option.bind_some, hB]
theorem Rel.free (h : Rel st m f) (d : Int) (s : Txt) : freeE st d s = (if isMD m.D d = false then 4 else if N.may 32 s = false then 3 else if (at? m.E d s).isSome = true then 5 else 0) := by
  unfold freeE
  rw [h.dirs]
  have : (st.P (d, s)).isSome = (at? m.E d s).isSome := by
    cases hp : st.P (d, s) with
    | none => rw [(h.none_iff d s).1 hp]
    | some g =>
      obtain ⟨k, hk, ha, _⟩ := h.some_at hp
      rw [ha]
      rfl
  rw [this]

/-- a branch more, with a name -/
theorem Rel.add (h : Rel st m f) {st' : St} {m' : Ms} {d : Int} {s : Txt} {g : Nat} {y : Br} (hd : isMD m.D d = true) (hs : at? m.E d s = none) (hg : st.N g = none)
    (hP : st'.P = upd st.P (d, s) (some g)) (hN : ∀ k, st'.N k = if k = g then some ⟨y, d, [s]⟩ else st.N k)
    (hZ : ∀ d', (st'.Z d').getD 0 = (st.Z d').getD 0 + (if d' = d then 1 else 0))
    (hB : m'.B = m.B ++ [y]) (hE : m'.E = m.E ++ [(d, m.B.length, s)]) (hlast : st'.last + 1 = m'.D.length) (hdirs : ∀ d, isD st' d = isMD m'.D d) (hmono : ∀ d, isMD m.D d = true → isMD m'.D d = true) (hlen : m.D.length ≤ m'.D.length)
    (hG : ∀ u, (st'.G u).isSome = true ↔ ((st.G u).isSome = true ∨ (y.kind = 1 ∧ y.uid = u)))
    (hseg : y.kind = 1 → hasU m y.uid = false) (hdir : y.kind = 2 → y.dir = m.D.length ∧ m.D.length < m'.D.length) : Rel st' m' (upd f m.B.length g) := by
  have hlt : ∀ e ∈ m.E, e.2.1 ≠ m.B.length := fun e he => Nat.ne_of_lt (h.id_lt he)
  have hf : ∀ e ∈ m.E, upd f m.B.length g e.2.1 = f e.2.1 := fun e he => upd_other _ _ (hlt e he)
  have hfg : ∀ e ∈ m.E, f e.2.1 ≠ g := fun e he e1 => by
    obtain ⟨x, hx, _⟩ := h.node e he
    rw [e1, hg] at hx
    cases hx
  have hBo : ∀ e ∈ m.E, m'.B[e.2.1]? = m.B[e.2.1]? := fun e he => by rw [hB, List.getElem?_append_left (h.id_lt he)]
  have hBn : m'.B[m.B.length]? = some y := by rw [hB]; simp
  have mem : ∀ e, e ∈ m'.E ↔ e ∈ m.E ∨ e = (d, m.B.length, s) := fun e => by rw [hE]; simp
  have hs' := at_no.1 hs
  have hlen0 : 1 ≤ m.D.length := by
    unfold isMD at hd
    cases hD : m.D with
    | nil => rw [hD] at hd; simp at hd
    | cons a l => simp
  refine ⟨hlast, hdirs, ?_, ?_, ?_, ?_, ?_, ?_, ?_, ?_, ?_, ?_, ?_⟩
  · rw [hE, List.pairwise_append]
    refine ⟨h.key, List.pairwise_singleton _ _, fun e he e' he' hk => ?_⟩
    simp only [List.mem_singleton] at he'
    subst he'
    exact hs' e he hk
  · intro e he
    rcases (mem e).1 he with h1 | rfl
    · rw [hP, hf e h1, upd_other _ _ (fun e1 => hs' e h1 ⟨congrArg Prod.fst e1, congrArg Prod.snd e1⟩)]
      exact h.fwd e h1
    · rw [hP, upd_same, upd_same]
  · intro d' s' g' hp
    rw [hP] at hp
    by_cases hk : (d', s') = (d, s)
    · cases hk
      exact ⟨_, (mem _).2 (Or.inr rfl), rfl, rfl⟩
    · rw [upd_other _ _ hk] at hp
      obtain ⟨e, he, h1⟩ := h.bwd d' s' g' hp
      exact ⟨e, (mem e).2 (Or.inl he), h1⟩
  · intro e he
    rcases (mem e).1 he with h1 | rfl
    · obtain ⟨x, hx, hb, hh, hl, hnd, hn⟩ := h.node e h1
      refine ⟨x, ?_, ?_, hh, ?_, hnd, fun t => ?_⟩
      · rw [hf e h1, hN, if_neg (hfg e h1)]
        exact hx
      · rw [hBo e h1]
        exact hb
      · rw [hE, cntI_add, if_neg (fun e1 => hlt e h1 e1.symm)]
        exact hl
      · rw [hn t, mem]
        exact ⟨Or.inl, fun h2 => h2.elim id (fun e1 => absurd (congrArg (fun z : En => z.2.1) e1) (hlt e h1))⟩
    · refine ⟨⟨y, d, [s]⟩, ?_, hBn, rfl, ?_, by simp, fun t => ?_⟩
      · rw [upd_same, hN, if_pos rfl]
      · rw [hE, cntI_add, if_pos rfl, cntI_zero hlt]
        rfl
      · rw [mem]
        constructor
        · intro h1
          simp only [List.mem_singleton] at h1
          exact Or.inr (by rw [h1])
        · rintro (h1 | h1)
          · exact absurd rfl (hlt _ h1)
          · simp only [Prod.mk.injEq, true_and] at h1
            simp [h1]
  · intro e he e' he' hff
    rcases (mem e).1 he with h1 | rfl <;> rcases (mem e').1 he' with h2 | rfl
    · rw [hf e h1, hf e' h2] at hff
      exact h.inj e h1 e' h2 hff
    · rw [hf e h1, upd_same] at hff
      exact absurd hff (hfg e h1)
    · rw [hf e' h2, upd_same] at hff
      exact absurd hff.symm (hfg e' h2)
    · rfl
  · intro d'
    rw [hZ, h.size, hE, cntD_add]
    by_cases hk : d' = d
    · subst hk; simp
    · rw [if_neg hk, if_neg (fun e1 => hk e1.symm)]; simp
  · intro u
    rw [hG, h.uids]
    constructor
    · rintro (⟨e, he, x, hx, h1⟩ | h1)
      · exact ⟨e, (mem e).2 (Or.inl he), x, by rw [hBo e he]; exact hx, h1⟩
      · exact ⟨_, (mem _).2 (Or.inr rfl), y, hBn, h1⟩
    · rintro ⟨e, he, x, hx, h1⟩
      rcases (mem e).1 he with h2 | rfl
      · rw [hBo e h2] at hx
        exact Or.inl ⟨e, h2, x, hx, h1⟩
      · rw [hBn] at hx
        cases hx
        exact Or.inr h1
  · intro e he e' he' x x' hx hx' k k' hu
    have no : ∀ e ∈ m.E, ∀ x, m.B[e.2.1]? = some x → x.kind = 1 → y.kind = 1 → x.uid ≠ y.uid := fun e he x hx k ky hu => by
      have := hseg ky
      rw [← Bool.not_eq_true] at this
      exact this ((hasU_iff m _).2 ⟨e, he, x, hx, k, hu⟩)
    rcases (mem e).1 he with h1 | rfl <;> rcases (mem e').1 he' with h2 | rfl
    · rw [hBo e h1] at hx
      rw [hBo e' h2] at hx'
      exact h.seg e h1 e' h2 x x' hx hx' k k' hu
    · rw [hBo e h1] at hx
      rw [hBn] at hx'
      cases hx'
      exact absurd hu (no e h1 x hx k k')
    · rw [hBo e' h2] at hx'
      rw [hBn] at hx
      cases hx
      exact absurd hu.symm (no e' h2 x' hx' k' k)
    · rfl
  · intro e he x hx k
    rcases (mem e).1 he with h1 | rfl
    · rw [hBo e h1] at hx
      have := h.dir e h1 x hx k
      omega
    · rw [hBn] at hx
      cases hx
      have := hdir k
      omega
  · intro e he e' he' x x' hx hx' k k' hu
    rcases (mem e).1 he with h1 | rfl <;> rcases (mem e').1 he' with h2 | rfl
    · rw [hBo e h1] at hx
      rw [hBo e' h2] at hx'
      exact h.dirU e h1 e' h2 x x' hx hx' k k' hu
    · rw [hBo e h1] at hx
      rw [hBn] at hx'
      cases hx'
      have := h.dir e h1 x hx k
      have := hdir k'
      omega
    · rw [hBo e' h2] at hx'
      rw [hBn] at hx
      cases hx
      have := h.dir e' h2 x' hx' k'
      have := hdir k
      omega
    · rfl
  · intro e he
    rcases (mem e).1 he with h1 | rfl
    · exact hmono _ (h.alive e h1)
    · exact hmono _ hd

/-- a name more -/
theorem Rel.name (h : Rel st m f) {d : Int} {s t : Txt} {k : Nat} {x : Nd} (ha : at? m.E d s = some k) (ht : at? m.E d t = none) (hN : ∀ hk : k < m.E.length, st.N (f m.E[k].2.1) = some x) :
    ∃ hk : k < m.E.length, Rel (bindS st (f m.E[k].2.1) x t) (nameM m k d t) f := by
  obtain ⟨hk, hkd, hks⟩ := at_yes ha
  refine ⟨hk, ?_⟩
  have hx := hN hk
  have hmk := List.getElem_mem hk
  obtain ⟨x0, hx0, hb0, hh0, hl0, hnd0, hn0⟩ := h.node _ hmk
  rw [hx] at hx0
  cases hx0
  have ht' := at_no.1 ht
  generalize he0 : m.E[k] = e0 at *
  have hhd : x.home = d := hh0.trans hkd
  have hE : (nameM m k d t).E = m.E ++ [(d, e0.2.1, t)] := by simp [nameM, List.getElem?_eq_getElem hk, he0]
  have mem : ∀ e, e ∈ (nameM m k d t).E ↔ e ∈ m.E ∨ e = (d, e0.2.1, t) := fun e => by rw [hE]; simp
  have hid : ∀ e, e ∈ (nameM m k d t).E → ∃ e' ∈ m.E, e'.2.1 = e.2.1 ∧ e'.1 = e.1 := fun e he => by
    rcases (mem e).1 he with h1 | rfl
    · exact ⟨e, h1, rfl, rfl⟩
    · exact ⟨e0, hmk, rfl, hkd⟩
  refine ⟨h.last, fun d' => ?_, ?_, ?_, ?_, ?_, ?_, ?_, ?_, ?_, ?_, ?_, ?_⟩
  · show isD _ d' = isMD m.D d'
    rw [← h.dirs]
    unfold isD bindS
    by_cases e1 : d' = x.home
    · have := h.alive _ hmk
      rw [← h.dirs, ← hh0, ← e1] at this
      unfold isD at this
      rw [this]
      simp [e1, upd_same]
    · simp [upd_other _ _ e1]
  · rw [hE, List.pairwise_append]
    refine ⟨h.key, List.pairwise_singleton _ _, fun e he e' he' hk => ?_⟩
    simp only [List.mem_singleton] at he'
    subst he'
    exact ht' e he hk
  · intro e he
    rcases (mem e).1 he with h1 | rfl
    · show upd st.P (x.home, t) _ _ = _
      rw [hhd, upd_other _ _ (fun e1 => ht' e h1 ⟨congrArg Prod.fst e1, congrArg Prod.snd e1⟩)]
      exact h.fwd e h1
    · show upd st.P (x.home, t) _ _ = _
      rw [hhd, upd_same]
  · intro d' s' g' hp
    change upd st.P (x.home, t) _ _ = _ at hp
    rw [hhd] at hp
    by_cases hk : (d', s') = (d, t)
    · cases hk
      exact ⟨_, (mem _).2 (Or.inr rfl), rfl, rfl⟩
    · rw [upd_other _ _ hk] at hp
      obtain ⟨e, he, h1⟩ := h.bwd d' s' g' hp
      exact ⟨e, (mem e).2 (Or.inl he), h1⟩
  · intro e he
    have same : ∀ e ∈ m.E, e.2.1 = e0.2.1 → e.1 = d := fun e h1 e1 => by
      obtain ⟨y, hy, _, hyh, _⟩ := h.node e h1
      rw [e1, hx] at hy
      cases hy
      exact hyh.symm.trans hhd
    by_cases e1 : e.2.1 = e0.2.1
    · have hed : e.1 = d := by
        rcases (mem e).1 he with h1 | rfl
        · exact same e h1 e1
        · rfl
      refine ⟨{ x with names := x.names ++ [t] }, ?_, ?_, hhd.trans hed.symm, ?_, ?_, fun u => ?_⟩
      · show upd st.N _ _ _ = _
        rw [e1, upd_same]
      · rw [e1]
        exact hb0
      · rw [hE, cntI_add, e1, if_pos rfl, ← hl0]
        simp
      · show (x.names ++ [t]).Nodup
        rw [List.nodup_append]
        refine ⟨hnd0, by simp, fun a ha b hb => ?_⟩
        simp only [List.mem_singleton] at hb
        subst hb
        intro e2
        subst e2
        exact ht' _ ((hn0 a).1 ha) ⟨hkd, rfl⟩
      · show u ∈ x.names ++ [t] ↔ _
        rw [mem, List.mem_append, hn0 u, List.mem_singleton, e1, hed, hkd]
        simp
    · rcases (mem e).1 he with h1 | rfl
      · obtain ⟨y, hy, hb, hh, hl, hnd, hn⟩ := h.node e h1
        refine ⟨y, ?_, hb, hh, ?_, hnd, fun u => ?_⟩
        · show upd st.N _ _ _ = _
          rw [upd_other _ _ (fun e2 => e1 (h.inj e h1 e0 hmk e2))]
          exact hy
        · rw [hE, cntI_add, if_neg (fun e2 => e1 e2.symm)]
          exact hl
        · rw [hn u, mem]
          exact ⟨Or.inl, fun h2 => h2.elim id (fun e2 => absurd (congrArg (fun z : En => z.2.1) e2) e1)⟩
      · exact absurd rfl e1
  · intro e he e' he' hff
    obtain ⟨a, ha, ea, _⟩ := hid e he
    obtain ⟨a', ha', ea', _⟩ := hid e' he'
    rw [← ea, ← ea'] at hff ⊢
    exact h.inj a ha a' ha' hff
  · intro d'
    show ((upd st.Z x.home _) d').getD 0 = _
    have hz := h.size d'
    rw [hE, cntD_add]
    by_cases e1 : d' = x.home
    · rw [e1] at hz ⊢
      rw [upd_same, if_pos hhd.symm, hz]
      simp
    · rw [upd_other _ _ e1, if_neg (fun e2 : d = d' => e1 (e2.symm.trans hhd.symm)), hz]
      simp
  · intro u
    show (st.G u).isSome = true ↔ _
    rw [h.uids]
    constructor
    · rintro ⟨e, he, r⟩
      exact ⟨e, (mem e).2 (Or.inl he), r⟩
    · rintro ⟨e, he, r⟩
      obtain ⟨a, ha, ea, _⟩ := hid e he
      exact ⟨a, ha, by rw [ea]; exact r⟩
  · intro e he e' he' y y' hy hy' q q' hu
    obtain ⟨a, ha, ea, _⟩ := hid e he
    obtain ⟨a', ha', ea', _⟩ := hid e' he'
    rw [← ea] at hy ⊢
    rw [← ea'] at hy' ⊢
    exact h.seg a ha a' ha' y y' hy hy' q q' hu
  · intro e he y hy q
    obtain ⟨a, ha, ea, _⟩ := hid e he
    rw [← ea] at hy
    exact h.dir a ha y hy q
  · intro e he e' he' y y' hy hy' q q' hu
    obtain ⟨a, ha, ea, _⟩ := hid e he
    obtain ⟨a', ha', ea', _⟩ := hid e' he'
    rw [← ea] at hy ⊢
    rw [← ea'] at hy' ⊢
    exact h.dirU a ha a' ha' y y' hy hy' q q' hu
  · intro e he
    obtain ⟨a, ha, _, ea⟩ := hid e he
    have := h.alive a ha
    rw [ea] at this
    exact this

end

end Go.Proofs.YtpcdcmoapenbdaaDoor.T

namespace Go.Proofs.YtpcdcmoapenbdaaDoor.T
open Go.Proofs.YtpcdcmoapenbdaaDoor.A (Tm)

theorem cntI_mid (A C : List En) (e : En) (id : Nat) : cntI (A ++ e :: C) id = cntI (A ++ C) id + (if e.2.1 = id then 1 else 0) := by
  unfold cntI
  rw [List.filter_append, List.length_append, List.filter_cons, List.filter_append, List.length_append]
  by_cases h : e.2.1 = id
  · simp [h]; omega
  · simp [h]
theorem cntD_mid (A C : List En) (e : En) (d : Int) : cntD (A ++ e :: C) d = cntD (A ++ C) d + (if e.1 = d then 1 else 0) := by
  unfold cntD
  rw [List.filter_append, List.length_append, List.filter_cons, List.filter_append, List.length_append]
  by_cases h : e.1 = d
  · simp [h]; omega
  · simp [h]
theorem cntI_pos {E : List En} {id : Nat} (h : 0 < cntI E id) : ∃ e ∈ E, e.2.1 = id := by
  unfold cntI at h
  obtain ⟨e, he⟩ := List.exists_mem_of_length_pos h
  rw [List.mem_filter] at he
  exact ⟨e, he.1, by simpa using he.2⟩
theorem part_at {α : Type} {l : List α} {k : Nat} (hk : k < l.length) : l = l.take k ++ l[k] :: l.drop (k + 1) := by
  rw [← List.drop_eq_getElem_cons hk, List.take_append_drop]

section
variable {st : St} {m : Ms} {f : Nat → Nat}

theorem Rel.key_id (h : Rel st m f) {e e' : En} (he : e ∈ m.E) (he' : e' ∈ m.E) (h1 : e.1 = e'.1) (h2 : e.2.2 = e'.2.2) : e.2.1 = e'.2.1 := by
  have a := h.fwd e he
  have b := h.fwd e' he'
  rw [h1, h2, b] at a
  exact h.inj e he e' he' (Option.some.inj a).symm

/-- a name less -/
theorem Rel.unname (h : Rel st m f) {d : Int} {s : Txt} {k i : Nat} {x : Nd} (ha : at? m.E d s = some k) (hN : ∀ hk : k < m.E.length, st.N (f m.E[k].2.1) = some x) (hi : i < x.names.length) (his : x.names[i] = s) (hne : ¬ x.names.length = 1) :
    ∃ hk : k < m.E.length, Rel (unbindS (nodeS st (f m.E[k].2.1) (lessX x i)) d s) (unnameM m k) f := by
  obtain ⟨hk, hkd, hks⟩ := at_yes ha
  refine ⟨hk, ?_⟩
  have hx := hN hk
  have hmk := List.getElem_mem hk
  have hpart := part_at hk
  obtain ⟨x0, hx0, hb0, hh0, hl0, hnd0, hn0⟩ := h.node _ hmk
  rw [hx] at hx0
  cases hx0
  have hnp := part_at hi
  have hE : (unnameM m k).E = m.E.take k ++ m.E.drop (k + 1) := rfl
  generalize m.E.take k = A at *
  generalize m.E.drop (k + 1) = C at *
  generalize m.E[k] = e0 at *
  have hkey := h.key
  rw [hpart, List.pairwise_append] at hkey
  obtain ⟨hk1, hk2, hk3⟩ := hkey
  rw [List.pairwise_cons] at hk2
  have mem : ∀ e, e ∈ m.E ↔ e ∈ (unnameM m k).E ∨ e = e0 := fun e => by
    rw [hE, hpart]
    simp only [List.mem_append, List.mem_cons]
    constructor
    · rintro (a | a | a)
      · exact Or.inl (Or.inl a)
      · exact Or.inr a
      · exact Or.inl (Or.inr a)
    · rintro ((a | a) | a)
      · exact Or.inl a
      · exact Or.inr (Or.inr a)
      · exact Or.inr (Or.inl a)
  have sub : ∀ e, e ∈ (unnameM m k).E → e ∈ m.E := fun e he => (mem e).2 (Or.inl he)
  have nk : ∀ e, e ∈ (unnameM m k).E → ¬ (e.1 = d ∧ e.2.2 = s) := fun e he hh => by
    rw [hE, List.mem_append] at he
    rcases he with he | he
    · exact hk3 e he e0 (by simp) ⟨hh.1.trans hkd.symm, hh.2.trans hks.symm⟩
    · exact hk2.1 e he ⟨hkd.trans hh.1.symm, hks.trans hh.2.symm⟩
  have hhd : x.home = d := hh0.trans hkd
  have same : ∀ e ∈ m.E, e.2.1 = e0.2.1 → e.1 = d := fun e h1 e1 => by
    obtain ⟨y, hy, _, hyh, _⟩ := h.node e h1
    rw [e1, hx] at hy
    cases hy
    exact hyh.symm.trans hhd
  have cI : ∀ id, cntI m.E id = cntI (unnameM m k).E id + (if e0.2.1 = id then 1 else 0) := fun id => by rw [hE, ← cntI_mid, ← hpart]
  have cD : ∀ d', cntD m.E d' = cntD (unnameM m k).E d' + (if e0.1 = d' then 1 else 0) := fun d' => by rw [hE, ← cntD_mid, ← hpart]
  have hmore : ∃ e ∈ (unnameM m k).E, e.2.1 = e0.2.1 := by
    refine cntI_pos ?_
    have := cI e0.2.1
    rw [if_pos rfl] at this
    omega
  have hnm : ∀ u, u ∈ (lessX x i).names ↔ u ∈ x.names ∧ u ≠ s := fun u => by
    show u ∈ x.names.take i ++ x.names.drop (i + 1) ↔ _
    rw [his] at hnp
    have nd := hnd0
    rw [hnp, List.nodup_append, List.nodup_cons] at nd
    obtain ⟨n1, ⟨n2, n3⟩, n4⟩ := nd
    constructor
    · intro hu
      rw [List.mem_append] at hu
      refine ⟨?_, ?_⟩
      · rw [hnp, List.mem_append, List.mem_cons]
        exact hu.elim Or.inl (fun h1 => Or.inr (Or.inr h1))
      · rcases hu with hu | hu
        · exact n4 u hu s (by simp)
        · intro e1
          rw [e1] at hu
          exact n2 hu
    · rintro ⟨hu, hus⟩
      rw [hnp] at hu
      simp only [List.mem_append, List.mem_cons] at hu ⊢
      rcases hu with hu | hu | hu
      · exact Or.inl hu
      · exact absurd hu hus
      · exact Or.inr hu
  refine ⟨h.last, fun d' => ?_, ?_, ?_, ?_, ?_, ?_, ?_, ?_, ?_, ?_, ?_, ?_⟩
  · show isD _ d' = isMD m.D d'
    rw [← h.dirs]
    unfold isD unbindS nodeS
    by_cases e1 : d' = d
    · have := h.alive _ hmk
      rw [← h.dirs, hkd, ← e1] at this
      unfold isD at this
      rw [this]
      simp [e1, upd_same]
    · simp [upd_other _ _ e1]
  · rw [hE, List.pairwise_append]
    exact ⟨hk1, hk2.2, fun a ha b hb => hk3 a ha b (by simp [hb])⟩
  · intro e he
    show upd st.P (d, s) none _ = _
    rw [upd_other _ _ (fun e1 => nk e he ⟨congrArg Prod.fst e1, congrArg Prod.snd e1⟩)]
    exact h.fwd e (sub e he)
  · intro d' s' g' hp
    change upd st.P (d, s) none _ = _ at hp
    by_cases hkk : (d', s') = (d, s)
    · rw [hkk, upd_same] at hp
      cases hp
    · rw [upd_other _ _ hkk] at hp
      obtain ⟨e, he, h1⟩ := h.bwd d' s' g' hp
      rcases (mem e).1 he with h2 | rfl
      · exact ⟨e, h2, h1⟩
      · exact absurd (Prod.ext (h1.1.symm.trans hkd) (h1.2.symm.trans hks)) hkk
  · intro e he
    have hem := sub e he
    by_cases e1 : e.2.1 = e0.2.1
    · refine ⟨lessX x i, ?_, ?_, hhd.trans (same e hem e1).symm, ?_, ?_, fun u => ?_⟩
      · show upd st.N _ _ _ = _
        rw [e1, upd_same]
      · rw [e1]
        exact hb0
      · have := cI e.2.1
        rw [if_pos e1.symm] at this
        show (x.names.take i ++ x.names.drop (i + 1)).length = _
        rw [e1] at this ⊢
        simp only [List.length_append, List.length_take, List.length_drop]
        omega
      · show (x.names.take i ++ x.names.drop (i + 1)).Nodup
        refine List.Nodup.sublist ?_ hnd0
        conv => rhs; rw [hnp]
        exact List.Sublist.append (List.Sublist.refl _) (List.sublist_cons_self _ _)
      · rw [hnm u, hn0 u, e1, same e hem e1, hkd, mem]
        constructor
        · rintro ⟨h1 | h1, h2⟩
          · exact h1
          · exact absurd ((congrArg (fun z : En => z.2.2) h1).trans hks) h2
        · intro h1
          exact ⟨Or.inl h1, fun h2 => nk _ h1 ⟨rfl, h2⟩⟩
    · obtain ⟨y, hy, hb, hh, hl, hnd, hn⟩ := h.node e hem
      refine ⟨y, ?_, hb, hh, ?_, hnd, fun u => ?_⟩
      · show upd st.N _ _ _ = _
        rw [upd_other _ _ (fun e2 => e1 (h.inj e hem e0 hmk e2))]
        exact hy
      · have := cI e.2.1
        rw [if_neg (fun e2 => e1 e2.symm)] at this
        omega
      · rw [hn u, mem]
        exact ⟨fun h2 => h2.elim id (fun e2 => absurd (congrArg (fun z : En => z.2.1) e2) e1), Or.inl⟩
  · exact fun e he e' he' => h.inj e (sub e he) e' (sub e' he')
  · intro d'
    show ((upd st.Z d _) d').getD 0 = _
    have hz := h.size d'
    have hc := cD d'
    by_cases e1 : d' = d
    · subst e1
      rw [upd_same]
      show (st.Z d').getD 0 - 1 = _
      rw [if_pos hkd] at hc
      omega
    · rw [upd_other _ _ e1]
      show (st.Z d').getD 0 = _
      rw [if_neg (fun e2 : e0.1 = d' => e1 (e2.symm.trans hkd))] at hc
      omega
  · intro u
    show (st.G u).isSome = true ↔ _
    rw [h.uids]
    constructor
    · rintro ⟨e, he, r⟩
      rcases (mem e).1 he with h1 | rfl
      · exact ⟨e, h1, r⟩
      · obtain ⟨e', he', e1⟩ := hmore
        exact ⟨e', he', by rw [e1]; exact r⟩
    · rintro ⟨e, he, r⟩
      exact ⟨e, sub e he, r⟩
  · exact fun e he e' he' => h.seg e (sub e he) e' (sub e' he')
  · exact fun e he => h.dir e (sub e he)
  · exact fun e he e' he' => h.dirU e (sub e he) e' (sub e' he')
  · exact fun e he => h.alive e (sub e he)

theorem unbindAll_P (d : Int) : ∀ (l : List Txt) (st : St) (d' : Int) (s' : Txt), (unbindAll d l st).P (d', s') = if d' = d ∧ s' ∈ l then none else st.P (d', s')
  | [], st, d', s' => by simp [unbindAll]
  | t :: l, st, d', s' => by
    show (unbindAll d l (unbindS st d t)).P (d', s') = _
    rw [unbindAll_P d l]
    by_cases h1 : d' = d ∧ s' ∈ l
    · rw [if_pos h1, if_pos ⟨h1.1, by simp [h1.2]⟩]
    · rw [if_neg h1]
      show upd st.P (d, t) none (d', s') = _
      by_cases h2 : (d', s') = (d, t)
      · cases h2
        rw [upd_same, if_pos ⟨rfl, by simp⟩]
      · rw [upd_other _ _ h2, if_neg]
        rintro ⟨h3, h4⟩
        rw [List.mem_cons] at h4
        rcases h4 with h4 | h4
        · exact h2 (by rw [h3, h4])
        · exact h1 ⟨h3, h4⟩
theorem unbindAll_G (d : Int) : ∀ (l : List Txt) (st : St), (unbindAll d l st).G = st.G
  | [], _ => rfl
  | t :: l, st => (unbindAll_G d l (unbindS st d t)).trans rfl
theorem unbindAll_last (d : Int) : ∀ (l : List Txt) (st : St), (unbindAll d l st).last = st.last
  | [], _ => rfl
  | t :: l, st => (unbindAll_last d l (unbindS st d t)).trans rfl
theorem unbindAll_Zo (d : Int) {d' : Int} (h : d' ≠ d) : ∀ (l : List Txt) (st : St), (unbindAll d l st).Z d' = st.Z d'
  | [], _ => rfl
  | t :: l, st => (unbindAll_Zo d h l (unbindS st d t)).trans (upd_other _ _ h)
theorem unbindAll_Zn (d : Int) : ∀ (l : List Txt) (st : St), ((unbindAll d l st).Z d).getD 0 = (st.Z d).getD 0 - l.length
  | [], st => by simp [unbindAll]
  | t :: l, st => by
    rw [show unbindAll d (t :: l) st = unbindAll d l (unbindS st d t) from rfl, unbindAll_Zn d l (unbindS st d t)]
    show ((upd st.Z d _) d).getD 0 - _ = _
    rw [upd_same]
    simp
    omega
theorem unbindAll_Zs (d : Int) : ∀ (l : List Txt) (st : St), (st.Z d).isSome = true ∨ l ≠ [] → ((unbindAll d l st).Z d).isSome = true
  | [], st, h => by simpa [unbindAll] using h
  | t :: l, st, _ => unbindAll_Zs d l (unbindS st d t) (Or.inl (by show ((upd st.Z d _) d).isSome = true; rw [upd_same]; rfl))

theorem mem_delE {E : List En} {id : Nat} {e : En} : e ∈ delE E id ↔ e ∈ E ∧ e.2.1 ≠ id := by
  unfold delE
  rw [List.mem_filter]
  simp
theorem cntI_del (E : List En) {id id' : Nat} (h : id' ≠ id) : cntI (delE E id) id' = cntI E id' := by
  unfold cntI delE
  rw [List.filter_filter]
  congr 2
  funext e
  by_cases h1 : e.2.1 = id'
  · simp [h1, h]
  · simp [h1]
theorem cntD_del {E : List En} {id : Nat} {d : Int} (h : ∀ e ∈ E, e.2.1 = id → e.1 = d) (d' : Int) : cntD E d' = cntD (delE E id) d' + (if d' = d then cntI E id else 0) := by
  induction E with
  | nil => simp [cntD, delE, cntI]
  | cons e E ih =>
    have ih := ih (fun e he => h e (by simp [he]))
    have h0 := h e (by simp)
    have q1 : cntD (e :: E) d' = cntD E d' + (if e.1 = d' then 1 else 0) := by
      unfold cntD
      rw [List.filter_cons]
      by_cases h1 : e.1 = d' <;> simp [h1]
    have q2 : cntI (e :: E) id = cntI E id + (if e.2.1 = id then 1 else 0) := by
      unfold cntI
      rw [List.filter_cons]
      by_cases h1 : e.2.1 = id <;> simp [h1]
    have q3 : cntD (delE (e :: E) id) d' = cntD (delE E id) d' + (if e.2.1 ≠ id ∧ e.1 = d' then 1 else 0) := by
      unfold cntD delE
      rw [List.filter_cons]
      by_cases h1 : e.2.1 = id
      · simp [h1]
      · simp only [h1, decide_false, Bool.not_false, if_true, List.filter_cons, not_false_eq_true, true_and, ne_eq]
        by_cases h2 : e.1 = d' <;> simp [h2]
    rw [q1, q2, q3]
    by_cases h1 : e.2.1 = id
    · have := h0 h1
      by_cases h2 : d' = d
      · subst h2
        simp [h1, this] at ih ⊢
        omega
      · have h3 : ¬ d = d' := fun h4 => h2 h4.symm
        simp [h1, this, h2, h3] at ih ⊢
        exact ih
    · simp only [h1, if_false, Nat.add_zero, ne_eq, not_false_eq_true, true_and]
      omega

/-- a branch less, with all its names -/
theorem Rel.del (h : Rel st m f) {d : Int} {s : Txt} {k : Nat} {x : Nd} {st1 : St} {D' : List Bool} (ha : at? m.E d s = some k) (hN : ∀ hk : k < m.E.length, st.N (f m.E[k].2.1) = some x)
    (hP1 : st1.P = st.P) (hN1 : st1.N = st.N) (hl1 : st1.last = st.last) (hZ1 : ∀ d', (st1.Z d').getD 0 = (st.Z d').getD 0)
    (hdirs : ∀ d', d' ≠ d → isD st1 d' = isMD D' d') (hdd : isMD D' d = true) (hlen : D'.length = m.D.length) (hG1 : ∀ u, (st1.G u).isSome = true ↔ ((st.G u).isSome = true ∧ ¬ (x.br.kind = 1 ∧ x.br.uid = u)))
    (hal : ∀ e ∈ m.E, e.1 ≠ d → isMD D' e.1 = true) :
    ∃ hk : k < m.E.length, Rel (unbindAll d x.names st1) ⟨m.B, delE m.E m.E[k].2.1, D'⟩ f := by
  obtain ⟨hk, hkd, hks⟩ := at_yes ha
  refine ⟨hk, ?_⟩
  have hx := hN hk
  have hmk := List.getElem_mem hk
  obtain ⟨x0, hx0, hb0, hh0, hl0, hnd0, hn0⟩ := h.node _ hmk
  rw [hx] at hx0
  cases hx0
  generalize m.E[k] = e0 at *
  have hhd : x.home = d := hh0.trans hkd
  have same : ∀ e ∈ m.E, e.2.1 = e0.2.1 → e.1 = d := fun e h1 e1 => by
    obtain ⟨y, hy, _, hyh, _⟩ := h.node e h1
    rw [e1, hx] at hy
    cases hy
    exact hyh.symm.trans hhd
  have hs0 : s ∈ x.names := (hn0 s).2 (by rw [← hks]; exact hmk)
  have hne : x.names ≠ [] := fun e1 => by rw [e1] at hs0; cases hs0
  have mem : ∀ e, e ∈ delE m.E e0.2.1 ↔ e ∈ m.E ∧ e.2.1 ≠ e0.2.1 := fun e => mem_delE
  have sub : ∀ e, e ∈ delE m.E e0.2.1 → e ∈ m.E := fun e he => ((mem e).1 he).1
  refine ⟨?_, fun d' => ?_, ?_, ?_, ?_, ?_, ?_, ?_, ?_, ?_, ?_, ?_, ?_⟩
  · rw [unbindAll_last, hl1]
    show _ = (D'.length : Int)
    rw [hlen]
    exact h.last
  · show isD _ d' = isMD D' d'
    by_cases e1 : d' = d
    · rw [e1, hdd]
      unfold isD
      rw [unbindAll_Zs d x.names st1 (Or.inr hne)]
      rfl
    · rw [← hdirs d' e1]
      unfold isD
      rw [unbindAll_Zo d e1]
  · exact h.key.sublist List.filter_sublist
  · intro e he
    obtain ⟨h1, h2⟩ := (mem e).1 he
    rw [unbindAll_P, if_neg, hP1]
    · exact h.fwd e h1
    · rintro ⟨h3, h4⟩
      have h5 := (hn0 e.2.2).1 h4
      exact h2 (h.key_id (e' := (e0.1, e0.2.1, e.2.2)) h1 h5 (h3.trans hkd.symm) rfl)
  · intro d' s' g' hp
    rw [unbindAll_P] at hp
    by_cases h1 : d' = d ∧ s' ∈ x.names
    · rw [if_pos h1] at hp
      cases hp
    · rw [if_neg h1, hP1] at hp
      obtain ⟨e, he, h2, h3⟩ := h.bwd d' s' g' hp
      refine ⟨e, (mem e).2 ⟨he, fun e1 => h1 ?_⟩, h2, h3⟩
      have h4 := same e he e1
      refine ⟨h2.symm.trans h4, (hn0 s').2 ?_⟩
      rw [hkd, ← e1, ← h4, ← h3]
      exact he
  · intro e he
    obtain ⟨h1, h2⟩ := (mem e).1 he
    obtain ⟨y, hy, hb, hh, hl, hnd, hn⟩ := h.node e h1
    refine ⟨y, ?_, hb, hh, ?_, hnd, fun u => ?_⟩
    · rw [unbindAll_N, hN1]
      exact hy
    · show _ = cntI (delE m.E e0.2.1) e.2.1
      rw [cntI_del _ h2]
      exact hl
    · show _ ↔ _ ∈ delE m.E e0.2.1
      rw [hn u, mem]
      exact ⟨fun h3 => ⟨h3, h2⟩, fun h3 => h3.1⟩
  · exact fun e he e' he' => h.inj e (sub e he) e' (sub e' he')
  · intro d'
    show _ = (cntD (delE m.E e0.2.1) d' : Int)
    have hz := h.size d'
    have hc := cntD_del same d'
    have h1 := hZ1 d'
    by_cases e1 : d' = d
    · rw [e1] at hz hc h1 ⊢
      rw [unbindAll_Zn]
      rw [if_pos rfl] at hc
      omega
    · rw [unbindAll_Zo d e1]
      rw [if_neg e1] at hc
      omega
  · intro u
    rw [unbindAll_G, hG1, h.uids]
    constructor
    · rintro ⟨⟨e, he, y, hy, h1, h2⟩, h3⟩
      refine ⟨e, (mem e).2 ⟨he, fun e1 => h3 ?_⟩, y, hy, h1, h2⟩
      rw [e1, hb0] at hy
      cases hy
      exact ⟨h1, h2⟩
    · rintro ⟨e, he, y, hy, h1, h2⟩
      obtain ⟨h3, h4⟩ := (mem e).1 he
      exact ⟨⟨e, h3, y, hy, h1, h2⟩, fun h5 => h4 (h.seg e h3 e0 hmk y x.br hy hb0 h1 h5.1 (h2.trans h5.2.symm))⟩
  · exact fun e he e' he' => h.seg e (sub e he) e' (sub e' he')
  · intro e he y hy q
    show _ ∧ _ < (D'.length : Int)
    rw [hlen]
    exact h.dir e (sub e he) y hy q
  · exact fun e he e' he' => h.dirU e (sub e he) e' (sub e' he')
  · intro e he
    show isMD D' e.1 = true
    by_cases e1 : e.1 = d
    · rw [e1]; exact hdd
    · exact hal e (sub e he) e1

/-- a branch changed -/
theorem Rel.set (h : Rel st m f) {d : Int} {s : Txt} {k : Nat} {x : Nd} {y : Br} (ha : at? m.E d s = some k) (hN : ∀ hk : k < m.E.length, st.N (f m.E[k].2.1) = some x) (h1 : y.kind = x.br.kind) (h2 : y.uid = x.br.uid) (h3 : y.dir = x.br.dir) :
    ∃ hk : k < m.E.length, Rel (nodeS st (f m.E[k].2.1) { x with br := y }) (setM m m.E[k].2.1 y) f := by
  obtain ⟨hk, hkd, hks⟩ := at_yes ha
  refine ⟨hk, ?_⟩
  have hx := hN hk
  have hmk := List.getElem_mem hk
  obtain ⟨x0, hx0, hb0, hh0, hl0, hnd0, hn0⟩ := h.node _ hmk
  rw [hx] at hx0
  cases hx0
  generalize m.E[k] = e0 at *
  have hB : ∀ e ∈ m.E, ∀ z, (setM m e0.2.1 y).B[e.2.1]? = some z → ∃ z', m.B[e.2.1]? = some z' ∧ z.kind = z'.kind ∧ z.uid = z'.uid ∧ z.dir = z'.dir := by
    intro e he z hz
    change (m.B.set e0.2.1 y)[e.2.1]? = some z at hz
    rw [List.getElem?_set] at hz
    by_cases e1 : e0.2.1 = e.2.1
    · rw [if_pos e1, if_pos (by rw [e1]; exact h.id_lt he)] at hz
      cases hz
      exact ⟨x.br, by rw [← e1]; exact hb0, h1, h2, h3⟩
    · rw [if_neg e1] at hz
      exact ⟨z, hz, rfl, rfl, rfl⟩
  have hB' : ∀ e ∈ m.E, ∀ z', m.B[e.2.1]? = some z' → ∃ z, (setM m e0.2.1 y).B[e.2.1]? = some z ∧ z.kind = z'.kind ∧ z.uid = z'.uid := by
    intro e he z' hz
    show ∃ z, (m.B.set e0.2.1 y)[e.2.1]? = some z ∧ _
    rw [List.getElem?_set]
    by_cases e1 : e0.2.1 = e.2.1
    · rw [← e1, hb0] at hz
      cases hz
      exact ⟨y, by rw [if_pos e1, if_pos (by rw [e1]; exact h.id_lt he)], h1, h2⟩
    · exact ⟨z', by rw [if_neg e1]; exact hz, rfl, rfl⟩
  refine ⟨h.last, h.dirs, h.key, h.fwd, h.bwd, ?_, h.inj, h.size, ?_, ?_, ?_, ?_, h.alive⟩
  · intro e he
    show ∃ z, upd st.N _ _ _ = some z ∧ (m.B.set e0.2.1 y)[e.2.1]? = _ ∧ _
    by_cases e1 : e.2.1 = e0.2.1
    · refine ⟨{ x with br := y }, ?_, ?_, ?_, ?_, hnd0, fun u => ?_⟩
      · rw [e1, upd_same]
      · rw [List.getElem?_set, if_pos e1.symm, if_pos (by rw [← e1]; exact h.id_lt he)]
      · obtain ⟨z, hz, _, hzh, _⟩ := h.node e he
        rw [e1, hx] at hz
        cases hz
        exact hzh
      · rw [e1]
        exact hl0
      · obtain ⟨z, hz, _, hzh, _, _, hzn⟩ := h.node e he
        rw [e1, hx] at hz
        cases hz
        exact hzn u
    · obtain ⟨z, hz, hb, r⟩ := h.node e he
      refine ⟨z, ?_, ?_, r⟩
      · rw [upd_other _ _ (fun e2 => e1 (h.inj e he e0 hmk e2))]
        exact hz
      · rw [List.getElem?_set, if_neg (fun e2 => e1 e2.symm)]
        exact hb
  · intro u
    show (st.G u).isSome = true ↔ _
    rw [h.uids]
    constructor
    · rintro ⟨e, he, z, hz, k1, k2⟩
      obtain ⟨z', hz', q1, q2⟩ := hB' e he z hz
      exact ⟨e, he, z', hz', q1.trans k1, q2.trans k2⟩
    · rintro ⟨e, he, z, hz, k1, k2⟩
      obtain ⟨z', hz', q1, q2, _⟩ := hB e he z hz
      exact ⟨e, he, z', hz', q1.symm.trans k1, q2.symm.trans k2⟩
  · intro e he e' he' z z' hz hz' k1 k2 hu
    obtain ⟨y1, g1, q1, q2, _⟩ := hB e he z hz
    obtain ⟨y2, g2, r1, r2, _⟩ := hB e' he' z' hz'
    exact h.seg e he e' he' y1 y2 g1 g2 (q1.symm.trans k1) (r1.symm.trans k2) (q2.symm.trans (hu.trans r2))
  · intro e he z hz k1
    obtain ⟨y1, g1, q1, _, q3⟩ := hB e he z hz
    rw [q3]
    exact h.dir e he y1 g1 (q1.symm.trans k1)
  · intro e he e' he' z z' hz hz' k1 k2 hu
    obtain ⟨y1, g1, q1, _, q3⟩ := hB e he z hz
    obtain ⟨y2, g2, r1, _, r3⟩ := hB e' he' z' hz'
    exact h.dirU e he e' he' y1 y2 g1 g2 (q1.symm.trans k1) (r1.symm.trans k2) (q3.symm.trans (hu.trans r3))

end

end Go.Proofs.YtpcdcmoapenbdaaDoor.T
