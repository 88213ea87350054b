/-
  A tree under a law's hands, told by what its names say (Sees): Add of a link, a directory, a segment; the four walks. The texts are given as the program spells them.
-/
import Derived.Test.YtpcdcmoapenbdaaDoorWFolls
import Derived.Test.YtpcdcmoapenbdaaDoorTLink
namespace Go.Proofs.YtpcdcmoapenbdaaDoor.T
open Go.ChangeShapes Go.WideShapes Go.ChangeAt Go.RowKit
open Go.Proofs.YtpcdcmoapenbdaaDoor.N (bs bs_data bs_size bs_inj bs_of Glob)
open Go.Proofs.YtpcdcmoapenbdaaDoor.A (Tm TRow)

/-- what names say, with one more -/
def updL (L : Int → Txt → Option Br) (d : Int) (s : Txt) (b : Br) : Int → Txt → Option Br := fun d' s' => if d' = d ∧ s' = s then some b else L d' s'
def noL : Int → Txt → Option Br := fun _ _ => none
def rootD : Int → Bool := fun d => decide (d = 0)

structure Sees (L : Int → Txt → Option Br) (D : Int → Bool) (la : Int) (U : Int → Bool) (st : St) : Prop where
  lk : lk st = L
  dir : isD st = D
  last : st.last = la
  uid : (fun u => (st.G u).isSome) = U
  links : LinksOk st

theorem sees_no : Sees noL rootD 0 (fun _ => false) noSt :=
  ⟨by funext d s; simp [T.lk, noSt, noL], by funext d; simp [isD, noSt, rootD], rfl, by funext u; simp [noSt], fun g x h => by simp [noSt] at h⟩

theorem TreeAt.wf {w : World} {b : Nat} {F : Nat → Prop} {c : Nat} {st : St} (h : TreeAt w b F c st) : ∀ k g, st.P k = some g → ∃ x, st.N g = some x := by
  obtain ⟨_, _, _, _, _, h⟩ := h
  exact h.thereP
theorem TreeAt.fresh {w : World} {b : Nat} {F : Nat → Prop} {c : Nat} {st : St} (h : TreeAt w b F c st) {g : Nat} (hg : w.heap.size ≤ g) : st.N g = none := by
  obtain ⟨_, _, _, _, _, h⟩ := h
  exact h.fresh hg

theorem lk_new {st st' : St} {g : Nat} (hw : ∀ k g, st.P k = some g → ∃ x, st.N g = some x) (hf : st.N g = none) {d : Int} {s : Txt} {x : Nd} (hP : st'.P = upd st.P (d, s) (some g)) (hN : ∀ j, j ≠ g → st'.N j = st.N j) (hg : st'.N g = some x) : lk st' = updL (lk st) d s x.br := by
  funext d' s'
  unfold lk updL
  rw [hP]
  by_cases e : (d', s') = (d, s)
  · obtain ⟨rfl, rfl⟩ : d' = d ∧ s' = s := by simpa using e
    simp [upd_same, hg]
  · have e' : ¬ (d' = d ∧ s' = s) := by simpa using e
    rw [upd_other _ _ e, if_neg e']
    cases hp : st.P (d', s') with
    | none => simp [hp]
    | some j =>
      obtain ⟨y, hy⟩ := hw _ _ hp
      have : j ≠ g := by rintro rfl; rw [hf] at hy; cases hy
      simp [hp, hN j this]
theorem isD_put {st st' : St} {d z : Int} (hZ : st'.Z = upd st.Z d (some z)) (hd : isD st d = true) : isD st' = isD st := by
  funext d'
  unfold isD at hd ⊢
  rw [hZ]
  by_cases e : d' = d
  · subst e
    rw [upd_same, hd]
    rfl
  · rw [upd_other _ _ e]

theorem Sees.free {L : Int → Txt → Option Br} {D : Int → Bool} {la : Int} {U : Int → Bool} {st : St} (h : Sees L D la U st) (hw : ∀ k g, st.P k = some g → ∃ x, st.N g = some x) {d : Int} {s : Txt} (hD : D d = true) (hm : N.may 32 s = true) (hn : L d s = none) : freeE st d s = 0 := by
  have h1 : isD st d = true := by rw [h.dir]; exact hD
  have h2 : st.P (d, s) = none := by
    have := congrFun (congrFun h.lk d) s
    rw [hn] at this
    unfold T.lk at this
    cases hp : st.P (d, s) with
    | none => rfl
    | some g =>
      obtain ⟨x, hx⟩ := hw _ _ hp
      simp [hp, hx] at this
  simp [freeE, h1, hm, h2]

section
variable {L : Int → Txt → Option Br} {D : Int → Bool} {la : Int} {U : Int → Bool} {st : St}

theorem Sees.link (h : Sees L D la U st) (hw : ∀ k g, st.P k = some g → ∃ x, st.N g = some x) {g : Nat} (hf : st.N g = none) {d : Int} {s l : Txt} (hD : D d = true) (hl : l.length ≤ 168) : Sees (updL L d s (linkB l)) D la U (linkS st g l d s) where
  lk := by
    rw [← h.lk]
    exact lk_new hw hf (x := ⟨linkB l, d, [s]⟩) rfl (fun j hj => by simp [linkS, bindS, nodeS, upd, hj]) (by simp [linkS, bindS, nodeS, upd])
  dir := by rw [← h.dir]; exact isD_put rfl (by rw [h.dir]; exact hD)
  last := h.last
  uid := h.uid
  links := fun j x hx hk => by
    by_cases e : j = g
    · subst e
      simp [linkS, bindS, nodeS, upd] at hx
      subst hx
      exact hl
    · simp [linkS, bindS, nodeS, upd, e] at hx
      exact h.links j x hx hk
theorem Sees.seg (h : Sees L D la U st) (hw : ∀ k g, st.P k = some g → ∃ x, st.N g = some x) {g : Nat} (hf : st.N g = none) {d : Int} {s : Txt} {br : Br} (hD : D d = true) : Sees (updL L d s (segB br)) D la (fun u => decide (u = br.uid) || U u) (segS st g br d s) where
  lk := by
    rw [← h.lk]
    exact lk_new hw hf (x := ⟨segB br, d, [s]⟩) rfl (fun j hj => by simp [segS, bindS, nodeS, upd, hj]) (by simp [segS, bindS, nodeS, upd])
  dir := by rw [← h.dir]; exact isD_put rfl (by rw [h.dir]; exact hD)
  last := h.last
  uid := by
    funext u
    rw [← h.uid]
    by_cases e : u = br.uid <;> simp [segS, bindS, nodeS, upd, e]
  links := fun j x hx hk => by
    by_cases e : j = g
    · subst e
      simp [segS, bindS, nodeS, upd] at hx
      subst hx
      simp [segB] at hk
    · simp [segS, bindS, nodeS, upd, e] at hx
      exact h.links j x hx hk
theorem Sees.dirs (h : Sees L D la U st) (hw : ∀ k g, st.P k = some g → ∃ x, st.N g = some x) {g : Nat} (hf : st.N g = none) {d : Int} {s : Txt} (hD : D d = true) : Sees (updL L d s (dirN (la + 1))) (fun d' => decide (d' = la + 1) || D d') (la + 1) U (dirS st g d s) where
  lk := by
    rw [← h.lk, ← h.last]
    exact lk_new hw hf (x := ⟨dirN (st.last + 1), d, [s]⟩) rfl (fun j hj => by simp [dirS, bindS, upd, hj]) (by simp [dirS, bindS, upd, dirX, dirN])
  dir := by
    funext d'
    rw [← h.dir, ← h.last]
    have h1 : isD st d = true := by rw [h.dir]; exact hD
    unfold isD at h1 ⊢
    by_cases e : d' = d
    · subst e
      rw [h1]
      simp [dirS, bindS, upd, dirX]
    · by_cases e' : d' = st.last + 1
      · subst e'
        have e2 : ¬ d = st.last + 1 := fun h => e h.symm
        simp [dirS, bindS, upd, dirX, e, e2]
      · simp [dirS, bindS, upd, dirX, e, e']
  last := by simp [dirS, bindS, h.last]
  uid := h.uid
  links := fun j x hx hk => by
    by_cases e : j = g
    · subst e
      simp [dirS, bindS, upd, dirX] at hx
      subst hx
      simp at hk
    · simp [dirS, bindS, upd, e] at hx
      exact h.links j x hx hk

end

/-- a branch as a law spells it -/
@[reducible] def LitV (k u : Int) (l : ByteArray) : Value := .agg #[.int .i64 k, .int .i64 u, .int .i64 0, .string l, .bool false, .slice none 0 0, .int .i64 0, .int .i64 0, .int .i64 0, .int .i64 0]
def litB (k u : Int) (l : ByteArray) : Br := ⟨k, u, 0, l.data.toList, false, [], 0, 0, 0, 0⟩
theorem lit_brv (k u : Int) (l : ByteArray) : LitV k u l = BrV (litB k u l) (.slice none 0 0) := by
  show _ = Value.agg #[_, _, _, .string (bs l.data.toList), _, _, _, _, _, _]
  rw [bs_of]
  rfl

section
variable {w0 V : World} {b c : Nat} {L : Int → Txt → Option Br} {D : Int → Bool} {la : Int} {U : Int → Bool}

theorem Has.glob {Φ : St → Prop} (h : Has w0 V b c Φ) (hg : Glob w0) : Glob V := hg.below h.bel

theorem has_new (w : World) : Calls Tryd.prog 9 #[] w fun e w' => e = .returned (TP w.heap.size) ∧ Has w w' w.heap.size 0 (Sees noL rootD 0 fun _ => false) ∧ w.heap.size < w'.heap.size :=
  (new_at w).mono fun e w' ⟨h1, h2, h3, h4⟩ => ⟨h1, ⟨_, _, h2, sees_no, h3, fun i hi => by omega⟩, h4⟩

theorem has_link (h : Has w0 V b c (Sees L D la U)) (hg : Glob w0) (d : Int) (s l : ByteArray) (hd : rng d) (hD : D d = true) (hm : N.may 32 s.data.toList = true) (hn : L d s.data.toList = none) (hp : (N.partsOf l.data.toList).isSome = true) (hc : c < 10000) :
    Calls Tryd.prog 18 #[TP b, .int .i64 d, .string s, LitV 3 0 l] V fun e w' => e = .returned (.tuple #[.int .i64 0, .int .i64 0]) ∧ Has w0 w' b (c + 3) (Sees (updL L d s.data.toList (linkB l.data.toList)) D la U) ∧ V.heap.size ≤ w'.heap.size := by
  have hgV := h.glob hg
  obtain ⟨F, st, h1, h2, h3, h4⟩ := h
  obtain ⟨ps, hps⟩ := Option.isSome_iff_exists.1 hp
  have hl := (N.partsOf_some hps).2.2.2
  have hml : ∀ t : Txt, t.length ≤ 168 → t.length ≤ maxLen := fun t ht => by unfold maxLen; omega
  have hsl := (N.may_pos hm).2.1
  have := add_link h1 hgV (d := d) (s := s.data.toList) hd (hml _ (by omega)) (h2.free h1.wf hD hm hn) (br := litB 3 0 l) (a := none) (n := 0) (cc := 0) rfl (hml _ hl) (by simp [N.er, litB, hps]) hc
  rw [bs_of, ← lit_brv] at this
  exact this.mono fun e w' ⟨e1, F', g, hgg, h5, h6⟩ => ⟨e1, has_went h3 h4 h5 (h2.link h1.wf (h1.fresh hgg) hD hl) h6, h6.size⟩

theorem has_dir (h : Has w0 V b c (Sees L D la U)) (d : Int) (s : ByteArray) (hd : rng d) (hD : D d = true) (hm : N.may 32 s.data.toList = true) (hn : L d s.data.toList = none) {lb : Int} (hb : la + 1 = lb) (hc : c < 10000) :
    Calls Tryd.prog 18 #[TP b, .int .i64 d, .string s, LitV 2 0 ⟨#[]⟩] V fun e w' => e = .returned (.tuple #[.int .i64 lb, .int .i64 0]) ∧ Has w0 w' b (c + 5) (Sees (updL L d s.data.toList (dirN lb)) (fun d' => decide (d' = lb) || D d') lb U) ∧ V.heap.size ≤ w'.heap.size := by
  subst hb
  obtain ⟨F, st, h1, h2, h3, h4⟩ := h
  have hml : ∀ t : Txt, t.length ≤ 168 → t.length ≤ maxLen := fun t ht => by unfold maxLen; omega
  have hsl := (N.may_pos hm).2.1
  have := add_dir h1 (d := d) (s := s.data.toList) hd (hml _ (by omega)) (h2.free h1.wf hD hm hn) (br := litB 2 0 ⟨#[]⟩) (a := none) (n := 0) (cc := 0) rfl hc
  rw [bs_of, ← lit_brv, h2.last] at this
  exact this.mono fun e w' ⟨e1, F', g, hgg, h5, h6⟩ => ⟨e1, has_went h3 h4 h5 (h2.dirs h1.wf (h1.fresh hgg) hD) h6, h6.size⟩

theorem has_seg (h : Has w0 V b c (Sees L D la U)) (d : Int) (s : ByteArray) (u : Int) (hd : rng d) (hD : D d = true) (hm : N.may 32 s.data.toList = true) (hn : L d s.data.toList = none) (hu : 1 ≤ u) (hu' : u ≤ 9223372036854775807) (hU : U u = false) (hc : c < 10000) :
    Calls Tryd.prog 18 #[TP b, .int .i64 d, .string s, LitV 1 u ⟨#[]⟩] V fun e w' => e = .returned (.tuple #[.int .i64 0, .int .i64 0]) ∧ Has w0 w' b (c + 4) (Sees (updL L d s.data.toList (litB 1 u ⟨#[]⟩)) D la (fun u' => decide (u' = u) || U u')) ∧ V.heap.size ≤ w'.heap.size := by
  obtain ⟨F, st, h1, h2, h3, h4⟩ := h
  have hml : ∀ t : Txt, t.length ≤ 168 → t.length ≤ maxLen := fun t ht => by unfold maxLen; omega
  have hsl := (N.may_pos hm).2.1
  have hG : st.G u = none := by
    have := congrFun h2.uid u
    rw [hU] at this
    simpa using this
  have := add_seg h1 (d := d) (s := s.data.toList) hd (hml _ (by omega)) (h2.free h1.wf hD hm hn) (br := litB 1 u ⟨#[]⟩) (a := none) (cc := 0) (A.TRow.nil V) (fun t ht => by cases ht) rfl hu hu' rfl rfl hG hc
  rw [bs_of] at this
  rw [lit_brv]
  exact this.mono fun e w' ⟨e1, F', g, hgg, h5, h6⟩ => ⟨e1, has_went h3 h4 h5 (h2.seg (g := g) (s := s.data.toList) (br := litB 1 u ⟨#[]⟩) h1.wf (h1.fresh hgg) hD) h6, h6.size⟩

end

def awL : Int → Txt → Option Br := updL (updL noL 0 [108] (linkB [62, 108])) 0 [100] (dirN 1)
theorem aw_find : wFind awL (⟨#[62, 108]⟩ : ByteArray).data.toList = (14, noBr) := by kernel_rfl
theorem aw_dir : wDir awL (⟨#[62, 100]⟩ : ByteArray).data.toList = (1, 0) := by kernel_rfl

end Go.Proofs.YtpcdcmoapenbdaaDoor.T
