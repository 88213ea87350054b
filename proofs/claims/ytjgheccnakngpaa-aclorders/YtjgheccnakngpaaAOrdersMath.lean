/-
  Terms of unlike users, set one behind another in any order: the list is one. No program stands in this text.
-/
import Derived.Test.YtjgheccnakngpaaASteps
namespace Go.Proofs.Ytjgheccnakngpaa.A
open Go.Proofs.Ytjgheccnakngpaa.N

/-- is a term left out: no user, or one that was there -/
def tw (l : List Tm) (u : List UInt8) (m : Nat) : Bool := !may 16 u || there (l.take m) u
theorem tw_zero (l : List Tm) (u : List UInt8) : tw l u 0 = !may 16 u := by simp [tw, there]
theorem tw_step {l : List Tm} {u : List UInt8} {m : Nat} (hm : m < l.length) : tw l u (m + 1) = (tw l u m || decide (l[m].1 = u)) := by
  unfold tw
  rw [List.take_succ_eq_append_getElem hm, there, List.any_append]
  simp [there, Bool.or_assoc]

/-- the terms that the law keeps -/
def kept (l : List Tm) : Nat → List Tm
  | 0 => []
  | k + 1 => if tw l (l.getD k ([], noFl)).1 k = false then kept l k ++ [l.getD k ([], noFl)] else kept l k
theorem kept_yes {l : List Tm} {k : Nat} (hk : k < l.length) (h : tw l l[k].1 k = false) : kept l (k + 1) = kept l k ++ [l[k]] := by
  have e : l.getD k ([], noFl) = l[k] := by simp [List.getD, hk]
  rw [kept, e, if_pos h]
theorem kept_no {l : List Tm} {k : Nat} (hk : k < l.length) (h : tw l l[k].1 k = true) : kept l (k + 1) = kept l k := by
  have e : l.getD k ([], noFl) = l[k] := by simp [List.getD, hk]
  rw [kept, e, if_neg (by simp [h])]
theorem kept_len (l : List Tm) : ∀ k, (kept l k).length ≤ k
  | 0 => by simp [kept]
  | k + 1 => by
    have := kept_len l k
    rw [kept]
    split <;> simp <;> omega

/-- unlike users that may be -/
structure Unlike (r : List Tm) : Prop where
  may_ : ∀ t ∈ r, may 16 t.1 = true
  apart : r.Pairwise (fun x y => x.1 ≠ y.1)

theorem kept_unlike (l : List Tm) : ∀ k, k ≤ l.length → Unlike (kept l k) ∧ ∀ t ∈ kept l k, there (l.take k) t.1 = true ∧ t ∈ l
  | 0, _ => ⟨⟨by simp [kept], by simp [kept]⟩, by simp [kept]⟩
  | k + 1, h => by
    obtain ⟨⟨h1, h2⟩, h3⟩ := kept_unlike l k (by omega)
    have hk : k < l.length := by omega
    have up : ∀ u, there (l.take k) u = true → there (l.take (k + 1)) u = true := by
      intro u hu
      rw [List.take_succ_eq_append_getElem hk, there, List.any_append]
      unfold there at hu
      simp [hu]
    cases ht : tw l l[k].1 k with
    | true =>
      rw [kept_no hk ht]
      exact ⟨⟨h1, h2⟩, fun t ht => ⟨up _ (h3 t ht).1, (h3 t ht).2⟩⟩
    | false =>
      rw [kept_yes hk ht]
      simp only [tw, Bool.or_eq_false_iff, Bool.not_eq_false'] at ht
      refine ⟨⟨?_, ?_⟩, ?_⟩
      · intro t hm
        rcases List.mem_append.1 hm with hm | hm
        · exact h1 t hm
        · obtain rfl : t = l[k] := by simpa using hm
          exact ht.1
      · rw [List.pairwise_append]
        refine ⟨h2, by simp, fun x hx y hy e => ?_⟩
        obtain rfl : y = l[k] := by simpa using hy
        have := (h3 x hx).1
        rw [e, ht.2] at this
        cases this
      · intro t hm
        rcases List.mem_append.1 hm with hm | hm
        · exact ⟨up _ (h3 t hm).1, (h3 t hm).2⟩
        · obtain rfl : t = l[k] := by simpa using hm
          refine ⟨?_, List.getElem_mem _⟩
          rw [List.take_succ_eq_append_getElem hk, there, List.any_append]
          simp

/-- terms set one behind another -/
def setAll (r : List Tm) : List Tm := r.foldl setL []
theorem setAll_snoc (r : List Tm) (t : Tm) : setAll (r ++ [t]) = setL (setAll r) t := by simp [setAll]

structure Laid (r m : List Tm) : Prop where
  may_ : lmay m = true
  mem : ∀ x, x ∈ m ↔ x ∈ r
  len : m.length = r.length

theorem laid_nil : Laid [] [] := ⟨by decide, by simp, rfl⟩
theorem Laid.step {r m : List Tm} {t : Tm} (h : Laid r m) (ht : may 16 t.1 = true) (ha : ∀ x ∈ r, x.1 ≠ t.1) (hl : r.length < 16) : setE m t = 0 ∧ Laid (r ++ [t]) (setL m t) := by
  have hn : there m t.1 = false := by
    cases k : there m t.1 with
    | false => rfl
    | true =>
      obtain ⟨x, hx, e⟩ := there_iff.1 k
      exact absurd e (ha x ((h.mem x).1 hx))
  have he : setE m t = 0 := setE_no h.may_ ht (by rw [h.len]; omega)
  refine ⟨he, setL_may he, fun x => ?_, ?_⟩
  · rw [setL_mem, List.mem_append]
    constructor
    · rintro (rfl | ⟨hx, _⟩)
      · exact Or.inr (by simp)
      · exact Or.inl ((h.mem x).1 hx)
    · rintro (hx | hx)
      · exact Or.inr ⟨(h.mem x).2 hx, ha x hx⟩
      · exact Or.inl (by simpa using hx)
  · rw [setL_len_no (lmay_parts h.may_).2.2 hn, h.len]
    simp

theorem laid_take {r : List Tm} (hr : Unlike r) (h16 : r.length ≤ 16) : ∀ k, k ≤ r.length → Laid (r.take k) (setAll (r.take k))
  | 0, _ => by simpa [setAll] using laid_nil
  | k + 1, h => by
    have hk : k < r.length := by omega
    have ih := laid_take hr h16 k (by omega)
    rw [List.take_succ_eq_append_getElem hk, setAll_snoc]
    refine (ih.step (hr.may_ _ (List.getElem_mem _)) (fun x hx => ?_) (by simp; omega)).2
    obtain ⟨i, hi, rfl⟩ := List.getElem_of_mem hx
    rw [List.getElem_take]
    have hi' : i < k := by simp at hi; omega
    exact List.pairwise_iff_getElem.1 hr.apart i k (by omega) hk hi'

theorem set_next {r : List Tm} (hr : Unlike r) (h16 : r.length ≤ 16) {k : Nat} (hk : k < r.length) : setE (setAll (r.take k)) r[k] = 0 ∧ setL (setAll (r.take k)) r[k] = setAll (r.take (k + 1)) := by
  have ih := laid_take hr h16 k (by omega)
  refine ⟨(ih.step (hr.may_ _ (List.getElem_mem _)) (fun x hx => ?_) (by simp; omega)).1, ?_⟩
  · obtain ⟨i, hi, rfl⟩ := List.getElem_of_mem hx
    rw [List.getElem_take]
    have hi' : i < k := by simp at hi; omega
    exact List.pairwise_iff_getElem.1 hr.apart i k (by omega) hk hi'
  · rw [List.take_succ_eq_append_getElem hk, setAll_snoc]

/-- the other order -/
def tau (n t j : Nat) : Nat := (n - 1 + t - j) % n
theorem tau_lt {n t j : Nat} (h : 0 < n) : tau n t j < n := Nat.mod_lt _ h
theorem tau_inj {n t i j : Nat} (hij : i < j) (hj : j < n) : tau n t i ≠ tau n t j := by
  intro e
  have := Nat.sub_mod_eq_zero_of_mod_eq e
  rw [show n - 1 + t - i - (n - 1 + t - j) = j - i by omega, Nat.mod_eq_of_lt (by omega)] at this
  omega
theorem tau_onto {n t i : Nat} (hi : i < n) : ∃ j, j < n ∧ tau n t j = i := by
  refine ⟨(n - 1 + t - i) % n, Nat.mod_lt _ (by omega), ?_⟩
  unfold tau
  have h1 := Nat.div_add_mod (n - 1 + t - i) n
  have h2 : n - 1 + t - (n - 1 + t - i) % n = i + n * ((n - 1 + t - i) / n) := by omega
  rw [h2, Nat.add_mul_mod_self_left, Nat.mod_eq_of_lt hi]

def turned (r : List Tm) (t : Nat) : List Tm := (List.range r.length).map (fun j => r.getD (tau r.length t j) ([], noFl))
theorem turned_len (r : List Tm) (t : Nat) : (turned r t).length = r.length := by simp [turned]
theorem turned_at {r : List Tm} {t k : Nat} (hk : k < r.length) : (turned r t)[k]'(by rw [turned_len]; exact hk) = r[tau r.length t k]'(tau_lt (by omega)) := by
  have := tau_lt (t := t) (j := k) (show 0 < r.length by omega)
  simp [turned, List.getD, this]
theorem turned_mem {r : List Tm} {t : Nat} (x : Tm) : x ∈ turned r t ↔ x ∈ r := by
  constructor
  · intro hx
    obtain ⟨k, hk, rfl⟩ := List.getElem_of_mem hx
    rw [turned_len] at hk
    rw [turned_at hk]
    exact List.getElem_mem _
  · intro hx
    obtain ⟨i, hi, rfl⟩ := List.getElem_of_mem hx
    obtain ⟨j, hj, e⟩ := tau_onto (t := t) hi
    have h1 := turned_at (t := t) hj
    simp only [e] at h1
    rw [← h1]
    exact List.getElem_mem _
theorem turned_unlike {r : List Tm} {t : Nat} (hr : Unlike r) : Unlike (turned r t) := by
  refine ⟨fun x hx => hr.may_ x ((turned_mem x).1 hx), ?_⟩
  rw [List.pairwise_iff_getElem]
  intro i j hi hj hij
  rw [turned_len] at hi hj
  rw [turned_at hi, turned_at hj]
  have hne := tau_inj (t := t) hij hj
  have l1 := tau_lt (t := t) (j := i) (show 0 < r.length by omega)
  have l2 := tau_lt (t := t) (j := j) (show 0 < r.length by omega)
  rcases Nat.lt_or_gt_of_ne hne with h | h
  · exact List.pairwise_iff_getElem.1 hr.apart _ _ l1 l2 h
  · exact fun e => List.pairwise_iff_getElem.1 hr.apart _ _ l2 l1 h e.symm

/-- in whatever order: one list -/
theorem orders_one {r : List Tm} (hr : Unlike r) (h16 : r.length ≤ 16) (t : Nat) : setAll (turned r t) = setAll r ∧ lmay (setAll r) = true ∧ (setAll r).length = r.length := by
  have h1 := laid_take hr h16 r.length (Nat.le_refl _)
  have h2 := laid_take (turned_unlike (t := t) hr) (by rw [turned_len]; exact h16) (turned r t).length (Nat.le_refl _)
  rw [List.take_length] at h1 h2
  refine ⟨up_ext (lmay_parts h2.may_).2.2 (lmay_parts h1.may_).2.2 (fun x => ?_), h1.may_, h1.len⟩
  rw [h2.mem, h1.mem, turned_mem]

end Go.Proofs.Ytjgheccnakngpaa.A
