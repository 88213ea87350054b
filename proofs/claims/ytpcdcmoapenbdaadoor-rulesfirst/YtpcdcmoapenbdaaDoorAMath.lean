/-
  Access lists as plain lists: a term is a user and three flags. The order of texts; which lists may be; a term set, dropped, found. No program stands in this text.
-/
import Derived.Test.YtpcdcmoapenbdaaDoorNMath
namespace Go.Proofs.YtpcdcmoapenbdaaDoor.A
open Go.Proofs.YtpcdcmoapenbdaaDoor.N
set_option linter.unusedSimpArgs false

abbrev Fl := Bool × Bool × Bool
abbrev Tm := List UInt8 × Fl

/-- the order of texts -/
def lt (a b : List UInt8) : Bool := Op.bytesLess a b

theorem lt_irrefl : ∀ a, lt a a = false
  | [] => rfl
  | x :: a => by
    have := lt_irrefl a
    simp only [lt] at this
    simp [lt, Op.bytesLess, this]

theorem lt_tri : ∀ a b, lt a b = false → lt b a = false → a = b
  | [], [], _, _ => rfl
  | [], _ :: _, h, _ => by simp [lt, Op.bytesLess] at h
  | _ :: _, [], _, h => by simp [lt, Op.bytesLess] at h
  | x :: a, y :: b, h, k => by
    simp only [lt, Op.bytesLess, Bool.or_eq_false_iff, decide_eq_false_iff_not, Bool.and_eq_false_iff, beq_eq_false_iff_ne] at h k
    have hxy : x = y := by
      have h1 := h.1
      have k1 := k.1
      rw [UInt8.lt_iff_toNat_lt] at h1 k1
      exact UInt8.toNat_inj.1 (by omega)
    subst hxy
    have h2 : Op.bytesLess a b = false := by rcases h.2 with h2 | h2; exact absurd rfl h2; exact h2
    have k2 : Op.bytesLess b a = false := by rcases k.2 with k2 | k2; exact absurd rfl k2; exact k2
    rw [lt_tri a b h2 k2]

theorem lt_trans : ∀ a b c, lt a b = true → lt b c = true → lt a c = true
  | _, [], _, h, _ => by cases ‹List UInt8› <;> simp [lt, Op.bytesLess] at h
  | _, _ :: _, [], _, k => by simp [lt, Op.bytesLess] at k
  | [], _ :: _, _ :: _, _, _ => rfl
  | x :: a, y :: b, z :: c, h, k => by
    simp only [lt, Op.bytesLess, Bool.or_eq_true, decide_eq_true_eq, Bool.and_eq_true, beq_iff_eq] at h k ⊢
    rcases h with h | ⟨rfl, h⟩
    · rcases k with k | ⟨rfl, k⟩
      · left
        rw [UInt8.lt_iff_toNat_lt] at h k ⊢
        omega
      · left; exact h
    · rcases k with k | ⟨rfl, k⟩
      · left; exact k
      · right; exact ⟨rfl, lt_trans a b c h k⟩

theorem lt_asymm {a b : List UInt8} (h : lt a b = true) : lt b a = false := by
  cases k : lt b a with
  | false => rfl
  | true =>
    have := lt_trans a b a h k
    rw [lt_irrefl] at this
    cases this

theorem lt_ne {a b : List UInt8} (h : lt a b = true) : a ≠ b := by
  rintro rfl
  rw [lt_irrefl] at h
  cases h

theorem cmp_neg : ∀ a b, decide (Lib.compareBytes a b < 0) = lt a b
  | [], [] => rfl
  | [], _ :: _ => rfl
  | _ :: _, [] => rfl
  | x :: a, y :: b => by
    have ih := cmp_neg a b
    simp only [lt] at ih
    simp only [Lib.compareBytes, lt, Op.bytesLess]
    by_cases h : x < y
    · simp [h]
    · by_cases k : y < x
      · have hne : ¬ x = y := by rintro rfl; exact h k
        simp [h, k, hne]
      · have hxy : x = y := by
          rw [UInt8.lt_iff_toNat_lt] at h k
          exact UInt8.toNat_inj.1 (by omega)
        subst hxy
        simp [h, ih]

theorem cmp_zero : ∀ a b, decide (Lib.compareBytes a b = 0) = decide (a = b)
  | [], [] => rfl
  | [], _ :: _ => by simp [Lib.compareBytes]
  | _ :: _, [] => by simp [Lib.compareBytes]
  | x :: a, y :: b => by
    have ih := cmp_zero a b
    simp only [Lib.compareBytes]
    by_cases h : x < y
    · have hne : ¬ x = y := by
        rintro rfl
        rw [UInt8.lt_iff_toNat_lt] at h
        omega
      simp [h, hne]
    · by_cases k : y < x
      · have hne : ¬ x = y := by rintro rfl; exact h k
        simp [h, k, hne]
      · have hxy : x = y := by
          rw [UInt8.lt_iff_toNat_lt] at h k
          exact UInt8.toNat_inj.1 (by omega)
        subst hxy
        simp [h, ih]

/-- strictly rising -/
def Up (l : List Tm) : Prop := l.Pairwise (fun a b => lt a.1 b.1 = true)
instance (l : List Tm) : Decidable (Up l) := inferInstanceAs (Decidable (l.Pairwise (fun a b => lt a.1 b.1 = true)))

/-- a list that may be -/
def lmay (l : List Tm) : Bool := decide (l.length ≤ 16) && (l.all (fun t => may 16 t.1) && decide (Up l))

/-- so far it may be -/
def upTo (l : List Tm) (k : Nat) : Prop := (l.take k).all (fun t => may 16 t.1) = true ∧ Up (l.take k)

theorem lmay_long {l : List Tm} (h : 16 < l.length) : lmay l = false := by simp [lmay]; omega
theorem upTo_zero (l : List Tm) : upTo l 0 := ⟨by simp, by simp [Up]⟩
theorem lmay_all {l : List Tm} (h : l.length ≤ 16) (hu : upTo l l.length) : lmay l = true := by
  obtain ⟨h1, h2⟩ := hu
  rw [List.take_length] at h1 h2
  simp [lmay, h, h2]
  simpa using h1
theorem lmay_user {l : List Tm} {k : Nat} (hk : k < l.length) (h : may 16 l[k].1 = false) : lmay l = false := by
  have : l.all (fun t => may 16 t.1) = false := by
    rw [List.all_eq_false]
    exact ⟨l[k], List.getElem_mem _, by simp [h]⟩
  simp only [lmay, this, Bool.false_and, Bool.and_false]
theorem lmay_order {l : List Tm} {k j : Nat} (hk : k < l.length) (hj : j < k) (h : lt (l[j]'(by omega)).1 l[k].1 = false) : lmay l = false := by
  have : ¬ Up l := by
    intro hu
    have := List.pairwise_iff_getElem.1 hu j k (by omega) hk hj
    rw [h] at this
    cases this
  simp [lmay, this]
theorem upTo_step {l : List Tm} {k : Nat} (hk : k < l.length) (hu : upTo l k) (h1 : may 16 l[k].1 = true) (h2 : ∀ j (_ : j + 1 = k), lt (l[j]'(by omega)).1 l[k].1 = true) : upTo l (k + 1) := by
  obtain ⟨u1, u2⟩ := hu
  refine ⟨?_, ?_⟩
  · rw [List.take_succ_eq_append_getElem hk, List.all_append, u1]
    simp [h1]
  · unfold Up at u2 ⊢
    rw [List.take_succ_eq_append_getElem hk, List.pairwise_append]
    refine ⟨u2, by simp, fun a ha b hb => ?_⟩
    obtain rfl : b = l[k] := by simpa using hb
    obtain ⟨i, hi, rfl⟩ := List.getElem_of_mem ha
    have hik : i < k := by simp at hi; omega
    obtain ⟨j, rfl⟩ : ∃ j, j + 1 = k := ⟨k - 1, by omega⟩
    have h3 := h2 j rfl
    rw [List.getElem_take]
    by_cases e : i = j
    · subst e; exact h3
    · have := List.pairwise_iff_getElem.1 u2 i j (by simpa using hi) (by simp; omega) (by omega)
      rw [List.getElem_take, List.getElem_take] at this
      exact lt_trans _ _ _ this h3

theorem lmay_parts {l : List Tm} (h : lmay l = true) : l.length ≤ 16 ∧ (∀ t ∈ l, may 16 t.1 = true) ∧ Up l := by
  simp only [lmay, Bool.and_eq_true, decide_eq_true_eq, List.all_eq_true] at h
  exact ⟨h.1, h.2.1, h.2.2⟩
theorem lmay_of {l : List Tm} (h1 : l.length ≤ 16) (h2 : ∀ t ∈ l, may 16 t.1 = true) (h3 : Up l) : lmay l = true := by
  simp only [lmay, Bool.and_eq_true, decide_eq_true_eq, List.all_eq_true]
  exact ⟨h1, h2, h3⟩

/-- how many stand ahead of a user, and whether there is one of it -/
def ahead (l : List Tm) (u : List UInt8) : Nat := l.countP (fun t => lt t.1 u)
def there (l : List Tm) (u : List UInt8) : Bool := l.any (fun t => decide (t.1 = u))

theorem ahead_le (l : List Tm) (u : List UInt8) : ahead l u ≤ l.length := List.countP_le_length

/-- the boundary of what stands ahead -/
theorem ahead_is {l : List Tm} {u : List UInt8} : ∀ {i : Nat}, i ≤ l.length → (∀ j (h : j < l.length), j < i → lt l[j].1 u = true) → (∀ j (h : j < l.length), i ≤ j → lt l[j].1 u = false) → ahead l u = i := by
  induction l with
  | nil => intro i hi _ _; simp at hi; simp [ahead, hi]
  | cons a r ih =>
    intro i hi h1 h2
    unfold ahead at ih ⊢
    cases i with
    | zero =>
      rw [List.countP_eq_zero]
      intro x hx
      obtain ⟨t, ht, rfl⟩ := List.getElem_of_mem hx
      simp [h2 t ht (Nat.zero_le _)]
    | succ i =>
      have ha : lt a.1 u = true := h1 0 (by simp) (by omega)
      rw [List.countP_cons_of_pos (by simpa using ha), ih (i := i) (by simpa using hi) (fun j h hj => h1 (j + 1) (by simpa using h) (by omega)) (fun j h hj => h2 (j + 1) (by simpa using h) (by omega))]

theorem up_mono {l : List Tm} (hu : Up l) {u : List UInt8} {a b : Nat} (hab : a ≤ b) (hb : b < l.length) (h : lt l[b].1 u = true) : lt (l[a]'(by omega)).1 u = true := by
  by_cases e : a = b
  · subst e; exact h
  · exact lt_trans _ _ _ (List.pairwise_iff_getElem.1 hu a b (by omega) hb (by omega)) h

theorem up_tail {a : Tm} {r : List Tm} (h : Up (a :: r)) : Up r := (List.pairwise_cons.1 h).2
theorem up_head {a : Tm} {r : List Tm} (h : Up (a :: r)) : ∀ x ∈ r, lt a.1 x.1 = true := (List.pairwise_cons.1 h).1

/-- a rising list is what stands ahead of u, what is u's, what comes behind -/
theorem parts {u : List UInt8} : ∀ {l : List Tm}, Up l → l.take (ahead l u) = l.filter (fun x => lt x.1 u) ∧ l.drop (ahead l u) = l.filter (fun x => !lt x.1 u)
  | [], _ => by simp
  | a :: r, h => by
    obtain ⟨i1, i2⟩ := parts (u := u) (up_tail h)
    cases ha : lt a.1 u with
    | true =>
      have e : ahead (a :: r) u = ahead r u + 1 := by simp [ahead, List.countP_cons, ha]
      rw [e]
      simp [ha, i1, i2]
    | false =>
      have hr : ∀ x ∈ r, lt x.1 u = false := by
        intro x hx
        cases k : lt x.1 u with
        | false => rfl
        | true => rw [lt_trans _ _ _ (up_head h x hx) k] at ha; cases ha
      have e : ahead (a :: r) u = 0 := by
        unfold ahead
        rw [List.countP_eq_zero]
        intro x hx
        rcases List.mem_cons.1 hx with rfl | hx
        · simp [ha]
        · simp [hr x hx]
      rw [e]
      have f1 : (a :: r).filter (fun x => lt x.1 u) = [] := by
        rw [List.filter_eq_nil_iff]
        intro x hx
        rcases List.mem_cons.1 hx with rfl | hx
        · simp [ha]
        · simp [hr x hx]
      have f2 : (a :: r).filter (fun x => !lt x.1 u) = a :: r := by
        rw [List.filter_eq_self]
        intro x hx
        rcases List.mem_cons.1 hx with rfl | hx
        · simp [ha]
        · simp [hr x hx]
      rw [f1, f2]
      simp

/-- .. at the boundary stands u's own term, if there is one -/
theorem there_at {u : List UInt8} : ∀ {l : List Tm}, Up l → (∀ h : ahead l u < l.length, decide (l[ahead l u].1 = u) = there l u) ∧ (¬ ahead l u < l.length → there l u = false)
  | [], _ => by simp [there]
  | a :: r, h => by
    obtain ⟨i1, i2⟩ := there_at (u := u) (up_tail h)
    cases ha : lt a.1 u with
    | true =>
      have e : ahead (a :: r) u = ahead r u + 1 := by simp [ahead, List.countP_cons, ha]
      have t : there (a :: r) u = there r u := by simp [there, lt_ne ha]
      simp only [e, t]
      exact ⟨fun hl => i1 (by simpa using hl), fun hl => i2 (by simpa using hl)⟩
    | false =>
      have hr : ∀ x ∈ r, lt x.1 u = false := by
        intro x hx
        cases k : lt x.1 u with
        | false => rfl
        | true => rw [lt_trans _ _ _ (up_head h x hx) k] at ha; cases ha
      have e : ahead (a :: r) u = 0 := by
        unfold ahead
        rw [List.countP_eq_zero]
        intro x hx
        rcases List.mem_cons.1 hx with rfl | hx
        · simp [ha]
        · simp [hr x hx]
      simp only [e]
      refine ⟨fun _ => ?_, fun hl => absurd (by simp) hl⟩
      simp only [List.getElem_cons_zero]
      by_cases e2 : a.1 = u
      · simp [there, e2]
      · have : there (a :: r) u = false := by
          simp only [there, List.any_eq_false, decide_eq_true_eq]
          intro x hx
          rcases List.mem_cons.1 hx with rfl | hx
          · exact e2
          · rintro rfl
            have := up_head h x hx
            rw [this] at ha
            cases ha
        simp [this, e2]

/-- a term set, dropped -/
def setL (l : List Tm) (t : Tm) : List Tm := l.filter (fun x => lt x.1 t.1) ++ t :: l.filter (fun x => lt t.1 x.1)
def dropL (l : List Tm) (u : List UInt8) : List Tm := l.filter (fun x => decide (x.1 ≠ u))

theorem behind {u : List UInt8} {x : Tm} : (!lt x.1 u) = (lt u x.1 || decide (x.1 = u)) := by
  cases h : lt x.1 u with
  | true =>
    have h1 := lt_asymm h
    have h2 := lt_ne h
    simp [h1, h2]
  | false =>
    cases k : lt u x.1 with
    | true => rfl
    | false =>
      have := lt_tri _ _ h k
      simp [this]

theorem drop_no {l : List Tm} {u : List UInt8} (hu : Up l) (h : there l u = false) : l.drop (ahead l u) = l.filter (fun x => lt u x.1) := by
  rw [(parts hu).2]
  apply List.filter_congr
  intro x hx
  have : ¬ x.1 = u := by
    intro e
    have : there l u = true := by simp only [there, List.any_eq_true, decide_eq_true_eq]; exact ⟨x, hx, e⟩
    rw [h] at this
    cases this
  rw [behind]
  simp [this]

theorem up_lt_of_eq {l : List Tm} (hu : Up l) {i j : Nat} (hi : i < l.length) (hj : j < l.length) (hij : i < j) : lt l[i].1 l[j].1 = true := List.pairwise_iff_getElem.1 hu i j hi hj hij

theorem drop_yes {l : List Tm} {u : List UInt8} (hu : Up l) (h : there l u = true) : ahead l u < l.length ∧ l.drop (ahead l u + 1) = l.filter (fun x => lt u x.1) := by
  have hl : ahead l u < l.length := by
    rcases Nat.lt_or_ge (ahead l u) l.length with h1 | h1
    · exact h1
    · rw [(there_at hu).2 (by omega)] at h; cases h
  refine ⟨hl, ?_⟩
  have e := (there_at hu).1 hl
  rw [h] at e
  have e : l[ahead l u].1 = u := by simpa using e
  have h2 := (parts (u := u) hu).2
  rw [List.drop_eq_getElem_cons hl] at h2
  have h3 : l.filter (fun x => lt u x.1) = (l.filter (fun x => !lt x.1 u)).filter (fun x => lt u x.1) := by
    rw [List.filter_filter]
    apply List.filter_congr
    intro x _
    cases k : lt u x.1 with
    | false => rfl
    | true => simp [lt_asymm k]
  rw [h3, ← h2, List.filter_cons, e, lt_irrefl]
  simp only [Bool.false_eq_true, if_false]
  symm
  rw [List.filter_eq_self]
  intro x hx
  obtain ⟨i, hi, rfl⟩ := List.getElem_of_mem hx
  rw [List.getElem_drop]
  have hi' : ahead l u + 1 + i < l.length := by simp at hi; omega
  have h4 := up_lt_of_eq hu hl hi' (by omega)
  rwa [e] at h4

theorem dropL_is {l : List Tm} {u : List UInt8} (hu : Up l) (h : there l u = true) : l.take (ahead l u) ++ l.drop (ahead l u + 1) = dropL l u := by
  rw [(drop_yes hu h).2, (parts hu).1]
  have hsp : ∀ m : List Tm, Up m → m.filter (fun x => lt x.1 u) ++ m.filter (fun x => lt u x.1) = m.filter (fun x => decide (x.1 ≠ u)) := by
    intro m hm
    induction m with
    | nil => rfl
    | cons a r ih =>
      have ih := ih (up_tail hm)
      cases ha : lt a.1 u with
      | true =>
        have hb := lt_asymm ha
        have hn := lt_ne ha
        rw [List.filter_cons_of_pos (by simpa using ha), List.filter_cons_of_neg (by simp [hb]), List.filter_cons_of_pos (by simpa using hn), List.cons_append, ih]
      | false =>
        have hr : r.filter (fun x => lt x.1 u) = [] := by
          rw [List.filter_eq_nil_iff]
          intro x hx k
          have k : lt x.1 u = true := by simpa using k
          rw [lt_trans _ _ _ (up_head hm x hx) k] at ha
          cases ha
        rw [hr] at ih
        simp only [List.nil_append] at ih
        by_cases e : a.1 = u
        · simp [List.filter_cons, ha, e, hr, lt_irrefl, ih]
        · have hb : lt u a.1 = true := by
            cases k : lt u a.1 with
            | true => rfl
            | false => exact absurd (lt_tri _ _ ha k) e
          simp [List.filter_cons, ha, e, hr, hb, ih]
  exact hsp l hu

theorem setL_no {l : List Tm} {t : Tm} (hu : Up l) (h : there l t.1 = false) : l.take (ahead l t.1) ++ (t :: l.drop (ahead l t.1)) = setL l t := by
  rw [drop_no hu h, (parts hu).1]; rfl
theorem setL_yes {l : List Tm} {t : Tm} (hu : Up l) (h : there l t.1 = true) : l.take (ahead l t.1) ++ (t :: l.drop (ahead l t.1 + 1)) = setL l t := by
  rw [(drop_yes hu h).2, (parts hu).1]; rfl

theorem setL_len_no {l : List Tm} {t : Tm} (hu : Up l) (h : there l t.1 = false) : (setL l t).length = l.length + 1 := by
  rw [← setL_no hu h]
  have := ahead_le l t.1
  simp; omega
theorem setL_len_yes {l : List Tm} {t : Tm} (hu : Up l) (h : there l t.1 = true) : (setL l t).length = l.length := by
  rw [← setL_yes hu h]
  have := (drop_yes hu h).1
  simp; omega

theorem setL_mem {l : List Tm} {t x : Tm} : x ∈ setL l t ↔ x = t ∨ (x ∈ l ∧ x.1 ≠ t.1) := by
  simp only [setL, List.mem_append, List.mem_filter, List.mem_cons]
  constructor
  · rintro (⟨h1, h2⟩ | rfl | ⟨h1, h2⟩)
    · exact Or.inr ⟨h1, lt_ne h2⟩
    · exact Or.inl rfl
    · exact Or.inr ⟨h1, (lt_ne h2).symm⟩
  · rintro (rfl | ⟨h1, h2⟩)
    · exact Or.inr (Or.inl rfl)
    · cases h : lt x.1 t.1 with
      | true => exact Or.inl ⟨h1, rfl⟩
      | false =>
        cases k : lt t.1 x.1 with
        | true => exact Or.inr (Or.inr ⟨h1, rfl⟩)
        | false => exact absurd (lt_tri _ _ h k) h2

theorem setL_up {l : List Tm} {t : Tm} (hu : Up l) : Up (setL l t) := by
  unfold Up setL at *
  rw [List.pairwise_append]
  refine ⟨hu.filter _, ?_, ?_⟩
  · rw [List.pairwise_cons]
    exact ⟨fun x hx => by simpa using (List.mem_filter.1 hx).2, hu.filter _⟩
  · intro a ha b hb
    have h1 : lt a.1 t.1 = true := by simpa using (List.mem_filter.1 ha).2
    rcases List.mem_cons.1 hb with rfl | hb
    · exact h1
    · exact lt_trans _ _ _ h1 (by simpa using (List.mem_filter.1 hb).2)

theorem dropL_up {l : List Tm} {u : List UInt8} (hu : Up l) : Up (dropL l u) := List.Pairwise.filter _ hu
theorem dropL_may {l : List Tm} {u : List UInt8} (h : lmay l = true) : lmay (dropL l u) = true := by
  obtain ⟨h1, h2, h3⟩ := lmay_parts h
  exact lmay_of (Nat.le_trans (List.length_filter_le _ _) h1) (fun t ht => h2 t (List.mem_filter.1 ht).1) (dropL_up h3)
theorem dropL_there (l : List Tm) (u : List UInt8) : there (dropL l u) u = false := by
  simp [there, dropL]
theorem dropL_none {l : List Tm} {u : List UInt8} (h : there l u = false) : dropL l u = l := by
  rw [dropL, List.filter_eq_self]
  intro x hx
  have := List.any_eq_false.1 h x hx
  simpa using this
theorem dropL_len {l : List Tm} {u : List UInt8} : (dropL l u).length = l.length ↔ there l u = false := by
  constructor
  · intro h
    have := (List.length_filter_eq_length_iff.1 h)
    simp only [there, List.any_eq_false, decide_eq_true_eq]
    intro x hx
    simpa using this x hx
  · intro h
    rw [dropL_none h]

/-- the document's Set: the list, and why not -/
def setE (l : List Tm) (t : Tm) : Int := if lmay l = false then 1 else if may 16 t.1 = false then 3 else if there l t.1 = false ∧ l.length = 16 then 7 else 0
def setR (l : List Tm) (t : Tm) : List Tm := if setE l t = 0 then setL l t else []
def dropE (l : List Tm) (u : List UInt8) : Int := if lmay l = false then 1 else if there l u = false then 4 else 0
def dropR (l : List Tm) (u : List UInt8) : List Tm := if dropE l u = 0 then dropL l u else []

def noFl : Fl := (false, false, false)
def look (l : List Tm) (u : List UInt8) : Option Fl := (l.find? (fun t => decide (t.1 = u))).map (·.2)
/-- the document's Find -/
def findR (l : List Tm) (u : List UInt8) : Fl := if lmay l = false then noFl else (look l u).getD ((look l [42]).getD noFl)

theorem setE_may {l : List Tm} {t : Tm} (h : lmay l = false) : setE l t = 1 := by simp [setE, h]
theorem setE_name {l : List Tm} {t : Tm} (h : lmay l = true) (h1 : may 16 t.1 = false) : setE l t = 3 := by simp [setE, h, h1]
theorem setE_full {l : List Tm} {t : Tm} (h : lmay l = true) (h1 : may 16 t.1 = true) (h2 : there l t.1 = false) (h3 : l.length = 16) : setE l t = 7 := by simp [setE, h, h1, h2, h3]
theorem setE_yes {l : List Tm} {t : Tm} (h : lmay l = true) (h1 : may 16 t.1 = true) (h2 : there l t.1 = true) : setE l t = 0 := by simp [setE, h, h1, h2]
theorem setE_no {l : List Tm} {t : Tm} (h : lmay l = true) (h1 : may 16 t.1 = true) (h3 : ¬ l.length = 16) : setE l t = 0 := by simp [setE, h, h1, h3]
theorem setE_zero {l : List Tm} {t : Tm} (h : setE l t = 0) : lmay l = true ∧ may 16 t.1 = true ∧ (there l t.1 = true ∨ l.length < 16) := by
  unfold setE at h
  cases h1 : lmay l with
  | false => simp [h1] at h
  | true =>
    cases h2 : may 16 t.1 with
    | false => simp [h1, h2] at h
    | true =>
      refine ⟨rfl, rfl, ?_⟩
      cases h3 : there l t.1 with
      | true => exact Or.inl rfl
      | false =>
        right
        have := (lmay_parts h1).1
        rcases Nat.lt_or_ge l.length 16 with h4 | h4
        · exact h4
        · have : l.length = 16 := by omega
          simp [h1, h2, h3, this] at h
theorem setR_zero {l : List Tm} {t : Tm} (h : setE l t = 0) : setR l t = setL l t := by simp [setR, h]
theorem setR_not {l : List Tm} {t : Tm} (h : setE l t ≠ 0) : setR l t = [] := by simp [setR, h]
theorem setR_may {l : List Tm} {t : Tm} : lmay (setR l t) = true := by
  by_cases h : setE l t = 0
  · rw [setR_zero h]
    obtain ⟨h1, h2, h3⟩ := setE_zero h
    obtain ⟨p1, p2, p3⟩ := lmay_parts h1
    refine lmay_of ?_ ?_ (setL_up p3)
    · cases ht : there l t.1 with
      | true => rw [setL_len_yes p3 ht]; exact p1
      | false =>
        rw [setL_len_no p3 ht]
        rcases h3 with h3 | h3
        · rw [ht] at h3; cases h3
        · omega
    · intro x hx
      rcases setL_mem.1 hx with rfl | ⟨hx, _⟩
      · exact h2
      · exact p2 x hx
  · rw [setR_not h]; decide

theorem dropE_may {l : List Tm} {u : List UInt8} (h : lmay l = false) : dropE l u = 1 := by simp [dropE, h]
theorem dropE_none {l : List Tm} {u : List UInt8} (h : lmay l = true) (h1 : there l u = false) : dropE l u = 4 := by simp [dropE, h, h1]
theorem dropE_yes {l : List Tm} {u : List UInt8} (h : lmay l = true) (h1 : there l u = true) : dropE l u = 0 := by simp [dropE, h, h1]
theorem dropR_may {l : List Tm} {u : List UInt8} (h : lmay l = false) : dropR l u = [] := by simp [dropR, dropE_may h]
theorem dropR_none {l : List Tm} {u : List UInt8} (h : lmay l = true) (h1 : there l u = false) : dropR l u = [] := by simp [dropR, dropE_none h h1]
theorem dropR_yes {l : List Tm} {u : List UInt8} (h : lmay l = true) (h1 : there l u = true) : dropR l u = dropL l u := by simp [dropR, dropE_yes h h1]

/-- what is found: at its place -/
theorem look_at {l : List Tm} {u : List UInt8} (hu : Up l) (h : there l u = true) : look l u = some (l[ahead l u]'(drop_yes hu h).1).2 := by
  have hl := (drop_yes hu h).1
  have e := (there_at hu).1 hl
  rw [h] at e
  have e : l[ahead l u].1 = u := by simpa using e
  unfold look
  have : l.find? (fun t => decide (t.1 = u)) = some l[ahead l u] := by
    rw [List.find?_eq_some_iff_getElem]
    refine ⟨by simpa using e, ahead l u, hl, rfl, fun j hj => ?_⟩
    have := up_lt_of_eq hu (show j < l.length by omega) hl hj
    rw [e] at this
    simpa using lt_ne this
  rw [this]
  rfl
theorem look_none {l : List Tm} {u : List UInt8} (h : there l u = false) : look l u = none := by
  unfold look
  rw [Option.map_eq_none_iff, List.find?_eq_none]
  exact List.any_eq_false.1 h
theorem look_mem {l : List Tm} {t : Tm} (hu : Up l) (h : t ∈ l) : look l t.1 = some t.2 := by
  unfold look
  have : l.find? (fun x => decide (x.1 = t.1)) = some t := by
    induction l with
    | nil => cases h
    | cons a r ih =>
      rw [List.find?_cons]
      rcases List.mem_cons.1 h with rfl | hr
      · simp
      · have := lt_ne (up_head hu t hr)
        simp [this, ih (up_tail hu) hr]
  rw [this]
  rfl
theorem there_iff {l : List Tm} {u : List UInt8} : there l u = true ↔ ∃ t ∈ l, t.1 = u := by simp [there]

theorem look_setL {l : List Tm} {t : Tm} (hu : Up l) (u : List UInt8) : look (setL l t) u = if u = t.1 then some t.2 else look l u := by
  by_cases e : u = t.1
  · subst e
    rw [if_pos rfl]
    exact look_mem (setL_up hu) (setL_mem.2 (Or.inl rfl))
  · rw [if_neg e]
    cases h : there l u with
    | true =>
      obtain ⟨x, hx, rfl⟩ := there_iff.1 h
      rw [look_mem hu hx]
      exact look_mem (setL_up hu) (setL_mem.2 (Or.inr ⟨hx, e⟩))
    | false =>
      rw [look_none h]
      apply look_none
      cases h2 : there (setL l t) u with
      | false => rfl
      | true =>
        obtain ⟨x, hx, rfl⟩ := there_iff.1 h2
        rcases setL_mem.1 hx with rfl | ⟨hx, _⟩
        · exact absurd rfl e
        · have : there l x.1 = true := there_iff.2 ⟨x, hx, rfl⟩
          rw [h] at this
          cases this

/-- two rising lists of the same terms are one -/
theorem up_ext : ∀ {a b : List Tm}, Up a → Up b → (∀ x, x ∈ a ↔ x ∈ b) → a = b
  | [], [], _, _, _ => rfl
  | [], y :: b, _, _, h => by have := (h y).2 (by simp); cases this
  | x :: a, [], _, _, h => by have := (h x).1 (by simp); cases this
  | x :: a, y :: b, ha, hb, h => by
    have hxy : x = y := by
      rcases List.mem_cons.1 ((h x).1 (by simp)) with e | hx
      · exact e
      · rcases List.mem_cons.1 ((h y).2 (by simp)) with e | hy
        · exact e.symm
        · have h1 := up_head hb x hx
          rw [lt_asymm (up_head ha y hy)] at h1
          cases h1
    subst hxy
    rw [up_ext (up_tail ha) (up_tail hb) (fun z => ?_)]
    constructor
    · intro hz
      rcases List.mem_cons.1 ((h z).1 (List.mem_cons_of_mem _ hz)) with rfl | hz'
      · exact absurd rfl (lt_ne (up_head ha z hz))
      · exact hz'
    · intro hz
      rcases List.mem_cons.1 ((h z).2 (List.mem_cons_of_mem _ hz)) with rfl | hz'
      · exact absurd rfl (lt_ne (up_head hb z hz))
      · exact hz'

end Go.Proofs.YtpcdcmoapenbdaaDoor.A
