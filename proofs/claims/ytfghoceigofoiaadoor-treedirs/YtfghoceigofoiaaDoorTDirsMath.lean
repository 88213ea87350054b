/-
  TreeDirs: what its tree and its four rows have to do with each other.
-/
import Derived.Test.YtfghoceigofoiaaDoorTHandsMath
import Derived.Test.YtfghoceigofoiaaDoorTDelete
namespace Go.Proofs.YtfghoceigofoiaaDoor.T
open Go.ChangeShapes Go.WideShapes Go.ChangeAt Go.RowKit
open Go.Proofs.YtfghoceigofoiaaDoor.N (bs bs_data bs_size bs_inj)
open Go.Proofs.YtfghoceigofoiaaDoor.A (Tm TRow)

/-- how many of the first have d above them and are not gone -/
def cnt (U : Nat → Int) (G : Nat → Bool) (d : Int) : Nat → Int
  | 0 => 0
  | k + 1 => cnt U G d k + (if U k = d ∧ G k = false then 1 else 0)
theorem cnt_nonneg (U : Nat → Int) (G : Nat → Bool) (d : Int) : ∀ n, 0 ≤ cnt U G d n
  | 0 => Int.le_refl _
  | n + 1 => by
    have := cnt_nonneg U G d n
    unfold cnt
    split <;> omega
theorem cnt_pos {U : Nat → Int} {G : Nat → Bool} {d : Int} {k : Nat} (hu : U k = d) (hg : G k = false) : ∀ n, k < n → 1 ≤ cnt U G d n
  | 0, h => absurd h (Nat.not_lt_zero _)
  | n + 1, h => by
    unfold cnt
    by_cases e : k = n
    · subst e
      have := cnt_nonneg U G d k
      rw [if_pos ⟨hu, hg⟩]
      omega
    · have := cnt_pos hu hg n (by omega)
      split <;> omega
theorem cnt_eq {U U' : Nat → Int} {G G' : Nat → Bool} {d : Int} : ∀ n, (∀ k, k < n → U k = U' k ∧ G k = G' k) → cnt U G d n = cnt U' G' d n
  | 0, _ => rfl
  | n + 1, h => by
    unfold cnt
    rw [cnt_eq n (fun k hk => h k (by omega)), (h n (by omega)).1, (h n (by omega)).2]
theorem cnt_gone {U : Nat → Int} {G : Nat → Bool} {d : Int} {k : Nat} (hg : G k = false) : ∀ n, k < n → cnt U (upd G k true) d n = cnt U G d n - (if U k = d then 1 else 0)
  | 0, h => absurd h (Nat.not_lt_zero _)
  | n + 1, h => by
    by_cases e : k = n
    · subst e
      have h1 : cnt U (upd G k true) d k = cnt U G d k := cnt_eq k (fun j hj => ⟨rfl, upd_other _ _ (by omega)⟩)
      simp only [cnt, h1, upd_same, hg, and_true]
      by_cases e1 : U k = d <;> simp [e1]
    · have h1 := cnt_gone (U := U) (d := d) hg n (by omega)
      simp only [cnt, h1, upd_other G true (show n ≠ k by omega)]
      omega
theorem cnt_zero {U : Nat → Int} {G : Nat → Bool} {d : Int} : ∀ n, (∀ k, k < n → U k ≠ d) → cnt U G d n = 0
  | 0, _ => rfl
  | n + 1, h => by
    unfold cnt
    rw [cnt_zero n (fun k hk => h k (by omega)), if_neg (fun e => h n (by omega) e.1)]
    rfl

/-- the names that the law gives -/
def dg (i : Nat) : Txt := [UInt8.ofNat (48 + i / 10), UInt8.ofNat (48 + i % 10)]
def nm (i : Nat) : Txt := 110 :: dg i
theorem nm_may : ∀ i, i < 60 → N.may 32 (nm i) = true := by decide
theorem nm_inj {i j : Nat} (hi : i < 60) (hj : j < 60) (h : nm i = nm j) : i = j := by
  unfold nm dg at h
  simp only [List.cons.injEq, true_and, and_true] at h
  have h1 := congrArg UInt8.toNat h.1
  have h2 := congrArg UInt8.toNat h.2
  simp only [UInt8.toNat_ofNat'] at h1 h2
  omega
theorem nm_short (i : Nat) : (nm i).length ≤ maxLen := short_txt (by simp [nm, dg])

@[reducible] def dirK (k : Nat) : Br := ⟨2, 0, k, [], false, [], 0, 0, 0, 0⟩
@[reducible] def dnode (k : Nat) (d : Int) (s : Txt) : Nd := ⟨dirK k, d, [s]⟩

structure Inv (st : St) (i n : Nat) (I U : Nat → Int) (G : Nat → Bool) : Prop where
  pos : 0 < n
  le : n ≤ i + 1
  last : st.last + 1 = n
  u0 : U 0 = -1
  g0 : G 0 = false
  up : ∀ k, 0 < k → k < n → ∃ p : Nat, U k = p ∧ p < k
  zg : ∀ k : Nat, k < n → G k = true → st.Z k = none
  zn : ∀ k : Nat, k < n → G k = false → (st.Z k).getD 0 = I k ∧ (k = 0 ∨ (st.Z k).isSome = true)
  ct : ∀ p : Nat, p < n → I p = cnt U G p n
  gi : ∀ p : Nat, p < n → G p = true → I p = 0
  pl : ∀ d s g, st.P (d, s) = some g → ∃ k, 0 < k ∧ k < n ∧ G k = false ∧ U k = d ∧ st.N g = some (dnode k d s) ∧ ∃ j, j < i ∧ s = nm j
  un : ∀ d s g d' s' g' k, st.P (d, s) = some g → st.P (d', s') = some g' → st.N g = some (dnode k d s) → st.N g' = some (dnode k d' s') → (d, s) = (d', s')

theorem inv_start : Inv noSt 0 1 (fun _ => 0) (fun _ => -1) (fun _ => false) where
  pos := by omega
  le := by omega
  last := rfl
  u0 := rfl
  g0 := rfl
  up := fun k h1 h2 => by omega
  zg := fun k _ h => by cases h
  zn := fun k hk _ => ⟨rfl, Or.inl (by omega)⟩
  ct := fun p hp => by
    obtain rfl : p = 0 := by omega
    simp [cnt]
  gi := fun p _ h => by cases h
  pl := fun d s g h => by cases h
  un := fun d s g d' s' g' k h => by cases h

section
variable {st : St} {i n : Nat} {I U : Nat → Int} {G : Nat → Bool}

theorem Inv.more (h : Inv st i n I U G) : Inv st (i + 1) n I U G where
  pos := h.pos
  le := by have := h.le; omega
  last := h.last
  u0 := h.u0
  g0 := h.g0
  up := h.up
  zg := h.zg
  zn := h.zn
  ct := h.ct
  gi := h.gi
  pl := fun d s g hp => by
    obtain ⟨k, a1, a2, a3, a4, a5, j, a6, a7⟩ := h.pl d s g hp
    exact ⟨k, a1, a2, a3, a4, a5, j, by omega, a7⟩
  un := h.un

theorem Inv.free (h : Inv st i n I U G) (hi : i < 60) {k : Nat} (hk : k < n) (hg : G k = false) : freeE st k (nm i) = 0 := by
  have h1 : isD st k = true := by
    rcases (h.zn k hk hg).2 with e | e
    · subst e; exact isD0 st
    · simp [isD, e]
  have h2 : st.P ((k : Int), nm i) = none := by
    cases e : st.P ((k : Int), nm i) with
    | none => rfl
    | some g =>
      obtain ⟨_, _, _, _, _, _, j, hj, e2⟩ := h.pl _ _ _ e
      have := nm_inj hi (by omega) e2
      omega
  simp [freeE, h1, nm_may i hi, h2]
theorem Inv.nofree (h : Inv st i n I U G) {k : Nat} (hk : k < n) (hg : G k = true) (s : Txt) : freeE st k s = 4 := by
  have h0 : ¬ k = 0 := fun e => by
    subst e
    rw [h.g0] at hg
    cases hg
  have h1 : isD st k = false := by simp [isD, h.zg k hk hg, h0]
  simp [freeE, h1]
theorem Inv.nonneg (h : Inv st i n I U G) {k : Nat} (hk : k < n) : 0 ≤ I k := by rw [h.ct k hk]; exact cnt_nonneg _ _ _ _

theorem Inv.add (h : Inv st i n I U G) {k : Nat} (hk : k < n) (hg : G k = false) {g : Nat} (hf : ∀ g' x, st.N g' = some x → g' ≠ g) :
    Inv (dirS st g k (nm i)) (i + 1) (n + 1) (upd (upd I k (I k + 1)) n 0) (upd U n k) (upd G n false) := by
  have hl := h.last
  have hnk : ¬ n = k := by omega
  have hkn : ¬ k = n := by omega
  have eP : (dirS st g k (nm i)).P = upd st.P ((k : Int), nm i) (some g) := rfl
  have eN : (dirS st g k (nm i)).N = upd (upd st.N g (some (dirX (st.last + 1) k))) g (some (dnode n k (nm i))) := by
    simp [dirS, bindS, dirX, hl]
  have eZ : (dirS st g k (nm i)).Z = upd (upd st.Z (n : Int) (some 0)) (k : Int) (some ((st.Z k).getD 0 + 1)) := by
    simp only [dirS, bindS, dirX, hl]
    rw [upd_other _ _ (show (k : Int) ≠ n by omega)]
  have eL : (dirS st g k (nm i)).last = n := hl
  exact {
    pos := by omega
    le := by have := h.le; omega
    last := by rw [eL]; omega
    u0 := by rw [upd_other _ _ (by have := h.pos; omega)]; exact h.u0
    g0 := by rw [upd_other _ _ (by have := h.pos; omega)]; exact h.g0
    up := fun j h1 h2 => by
      by_cases e : j = n
      · subst e
        exact ⟨k, by rw [upd_same], hk⟩
      · rw [upd_other _ _ e]
        exact h.up j h1 (by omega)
    zg := fun j hj hg' => by
      by_cases e : j = n
      · subst e; rw [upd_same] at hg'; cases hg'
      · rw [upd_other _ _ e] at hg'
        have hjk : (j : Int) ≠ k := fun e2 => by
          have : j = k := by omega
          subst this
          rw [hg] at hg'
          cases hg'
        rw [eZ, upd_other _ _ hjk, upd_other _ _ (by omega)]
        exact h.zg j (by omega) hg'
    zn := fun j hj hg' => by
      rw [eZ]
      by_cases e : j = n
      · subst e
        rw [upd_other _ _ (by omega), upd_same, upd_same]
        exact ⟨rfl, Or.inr rfl⟩
      · rw [upd_other _ _ e] at hg'
        rw [upd_other (upd I k (I k + 1)) _ e]
        by_cases e2 : j = k
        · subst e2
          rw [upd_same, upd_same]
          exact ⟨by simp [(h.zn j hk hg).1], Or.inr rfl⟩
        · rw [upd_other _ _ (show (j : Int) ≠ k by omega), upd_other _ _ (show (j : Int) ≠ n by omega), upd_other _ _ e2]
          exact h.zn j (by omega) hg'
    ct := fun p hp => by
      have hc : cnt (upd U n k) (upd G n false) p n = cnt U G p n := cnt_eq n (fun j hj => ⟨upd_other _ _ (by omega), upd_other _ _ (by omega)⟩)
      simp only [cnt, hc, upd_same, and_true]
      by_cases e : p = n
      · subst e
        rw [upd_same, if_neg (by omega), cnt_zero]
        · rfl
        · intro j hj e2
          by_cases e0 : j = 0
          · subst e0; rw [h.u0] at e2; omega
          · obtain ⟨q, hq, hq2⟩ := h.up j (by omega) hj
            rw [hq] at e2
            omega
      · rw [upd_other _ _ e]
        by_cases e2 : p = k
        · subst e2
          rw [upd_same, if_pos rfl, h.ct p hk]
        · rw [upd_other _ _ e2, if_neg (by omega), h.ct p (by omega)]
          omega
    gi := fun p hp hg' => by
      by_cases e : p = n
      · subst e; exact upd_same _ _ _
      · rw [upd_other _ _ e] at hg' ⊢
        have : p ≠ k := fun e2 => by subst e2; rw [hg] at hg'; cases hg'
        rw [upd_other _ _ this]
        exact h.gi p (by omega) hg'
    pl := fun d s g' hp => by
      rw [eP] at hp
      by_cases e : ((d, s) : Int × Txt) = ((k : Int), nm i)
      · rw [e, upd_same] at hp
        cases hp
        obtain ⟨rfl, rfl⟩ := Prod.mk.inj e
        refine ⟨n, h.pos, by omega, upd_same _ _ _, upd_same _ _ _, ?_, i, by omega, rfl⟩
        rw [eN, upd_same]
      · rw [upd_other _ _ e] at hp
        obtain ⟨q, a1, a2, a3, a4, a5, j, a6, a7⟩ := h.pl d s g' hp
        have hgg : g' ≠ g := hf g' _ a5
        refine ⟨q, a1, by omega, by rw [upd_other _ _ (by omega)]; exact a3, by rw [upd_other _ _ (by omega)]; exact a4, ?_, j, by omega, a7⟩
        rw [eN, upd_other _ _ hgg, upd_other _ _ hgg]
        exact a5
    un := fun d s g1 d' s' g2 q h1 h2 h3 h4 => by
      rw [eP] at h1 h2
      rw [eN] at h3 h4
      have key : ∀ (d : Int) (s : Txt) (g' : Nat), upd st.P ((k : Int), nm i) (some g) (d, s) = some g' → ∀ q, upd (upd st.N g (some (dirX (st.last + 1) k))) g (some (dnode n k (nm i))) g' = some (dnode q d s) → ((d, s) = ((k : Int), nm i) ∧ q = n) ∨ (st.P (d, s) = some g' ∧ st.N g' = some (dnode q d s) ∧ q < n) := by
        intro d s g' hp q hq
        by_cases e : ((d, s) : Int × Txt) = ((k : Int), nm i)
        · rw [e, upd_same] at hp
          cases hp
          rw [upd_same] at hq
          have hq := Option.some.inj hq
          have : (n : Int) = q := congrArg (fun x : Nd => x.br.dir) hq
          exact Or.inl ⟨e, by omega⟩
        · rw [upd_other _ _ e] at hp
          obtain ⟨q', a1, a2, a3, a4, a5, j, a6, a7⟩ := h.pl d s g' hp
          have hgg : g' ≠ g := hf g' _ a5
          rw [upd_other _ _ hgg, upd_other _ _ hgg] at hq
          have h6 := Option.some.inj (a5.symm.trans hq)
          have : (q' : Int) = q := congrArg (fun x : Nd => x.br.dir) h6
          exact Or.inr ⟨hp, hq, by omega⟩
      rcases key d s g1 h1 q h3 with ⟨e1, e2⟩ | ⟨e1, e2, e3⟩
      · rcases key d' s' g2 h2 q h4 with ⟨f1, f2⟩ | ⟨f1, f2, f3⟩
        · rw [e1, f1]
        · omega
      · rcases key d' s' g2 h2 q h4 with ⟨f1, f2⟩ | ⟨f1, f2, f3⟩
        · omega
        · exact h.un d s g1 d' s' g2 q e1 f1 e2 f2 }

theorem Inv.del (h : Inv st i n I U G) {k p : Nat} (hk : k < n) (hg : G k = false) (hu : U k = p) (hp : p < k) (hz : I k = 0) {s : Txt} {g : Nat} (hP : st.P ((p : Int), s) = some g) (hN : st.N g = some (dnode k p s)) :
    Inv (unbindAll p [s] { st with Z := upd st.Z k none }) i n (upd I p (I p - 1)) U (upd G k true) := by
  have hpk : ((p : Int)) ≠ k := by omega
  have gp : G p = false := by
    cases e : G p with
    | false => rfl
    | true =>
      exfalso
      have h1 := h.gi p (by omega) e
      have h2 := cnt_pos hu hg n hk
      rw [h.ct p (by omega)] at h1
      omega
  have eP : (unbindAll p [s] { st with Z := upd st.Z k none }).P = upd st.P ((p : Int), s) none := rfl
  have eN : (unbindAll p [s] { st with Z := upd st.Z k none }).N = st.N := rfl
  have eZ : (unbindAll p [s] { st with Z := upd st.Z k none }).Z = upd (upd st.Z k none) (p : Int) (some ((st.Z p).getD 0 - 1)) := by
    show upd (upd st.Z k none) (p : Int) (some ((upd st.Z k none p).getD 0 - 1)) = _
    rw [upd_other _ _ hpk]
  exact {
    pos := h.pos
    le := h.le
    last := h.last
    u0 := h.u0
    g0 := by rw [upd_other _ _ (by omega)]; exact h.g0
    up := h.up
    zg := fun j hj hg' => by
      by_cases e : j = k
      · subst e
        rw [eZ, upd_other _ _ (by omega), upd_same]
      · rw [upd_other _ _ e] at hg'
        have : j ≠ p := fun e2 => by subst e2; rw [gp] at hg'; cases hg'
        rw [eZ, upd_other _ _ (by omega), upd_other _ _ (by omega)]
        exact h.zg j hj hg'
    zn := fun j hj hg' => by
      by_cases e : j = k
      · subst e; rw [upd_same] at hg'; cases hg'
      · rw [upd_other _ _ e] at hg'
        rw [eZ]
        by_cases e2 : j = p
        · subst e2
          rw [upd_same, upd_same]
          exact ⟨by simp [(h.zn j hj hg').1], Or.inr rfl⟩
        · rw [upd_other _ _ (show (j : Int) ≠ p by omega), upd_other _ _ (show (j : Int) ≠ k by omega), upd_other _ _ e2]
          exact h.zn j hj hg'
    ct := fun q hq => by
      rw [cnt_gone hg n hk, ← h.ct q hq]
      by_cases e : q = p
      · subst e
        rw [upd_same, if_pos hu]
      · rw [upd_other _ _ e, if_neg (by omega)]
        omega
    gi := fun q hq hg' => by
      by_cases e : q = k
      · subst e
        rw [upd_other _ _ (by omega)]
        exact hz
      · rw [upd_other _ _ e] at hg'
        have : q ≠ p := fun e2 => by subst e2; rw [gp] at hg'; cases hg'
        rw [upd_other _ _ this]
        exact h.gi q hq hg'
    pl := fun d t g' hp' => by
      rw [eP] at hp'
      by_cases e : ((d, t) : Int × Txt) = ((p : Int), s)
      · rw [e, upd_same] at hp'; cases hp'
      · rw [upd_other _ _ e] at hp'
        obtain ⟨q, a1, a2, a3, a4, a5, j, a6, a7⟩ := h.pl d t g' hp'
        have hqk : q ≠ k := fun e2 => by
          subst e2
          exact e (h.un d t g' p s g q hp' hP a5 hN)
        exact ⟨q, a1, a2, by rw [upd_other _ _ hqk]; exact a3, a4, a5, j, a6, a7⟩
    un := fun d t g1 d' t' g2 q h1 h2 h3 h4 => by
      rw [eP] at h1 h2
      have k1 : st.P (d, t) = some g1 := by
        by_cases e : ((d, t) : Int × Txt) = ((p : Int), s)
        · rw [e, upd_same] at h1; cases h1
        · rwa [upd_other _ _ e] at h1
      have k2 : st.P (d', t') = some g2 := by
        by_cases e : ((d', t') : Int × Txt) = ((p : Int), s)
        · rw [e, upd_same] at h2; cases h2
        · rwa [upd_other _ _ e] at h2
      exact h.un d t g1 d' t' g2 q k1 k2 h3 h4 }

end

end Go.Proofs.YtfghoceigofoiaaDoor.T
