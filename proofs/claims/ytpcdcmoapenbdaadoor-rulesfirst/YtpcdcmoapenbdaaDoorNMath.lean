/-
  Names and paths as lists of bytes: what may be a name, a path cut at its strokes, parts joined. No program stands in this text.
-/
import Derived.Lib.SplitLaws
import Derived.Lib.Join
namespace Go.Proofs.YtpcdcmoapenbdaaDoor.N

/-- a list of bytes as a text -/
def bs (l : List UInt8) : ByteArray := ⟨l.toArray⟩
theorem bs_data (l : List UInt8) : (bs l).data.toList = l := by simp [bs]
theorem bs_of (s : ByteArray) : bs s.data.toList = s := by cases s; simp [bs]
theorem bs_size (l : List UInt8) : (bs l).size = l.length := by simp [bs, ByteArray.size]
theorem bs_inj {a b : List UInt8} (h : bs a = bs b) : a = b := by rw [← bs_data a, h, bs_data]

/-- a sign of a name -/
def okSign (b : UInt8) : Bool := decide (33 ≤ b.toNat) && decide (b.toNat ≤ 126) && !(b == 62)
/-- a name of at most so many signs -/
def may (most : Nat) (l : List UInt8) : Bool := decide (1 ≤ l.length) && decide (l.length ≤ most) && l.all okSign

theorem may_pos {m : Nat} {l : List UInt8} (h : may m l = true) : 1 ≤ l.length ∧ l.length ≤ m ∧ l.all okSign = true := by
  simp only [may, Bool.and_eq_true, decide_eq_true_eq] at h
  exact ⟨h.1.1, h.1.2, h.2⟩

theorem no_stroke {m : Nat} {l : List UInt8} (h : may m l = true) : (62 : UInt8) ∉ l := by
  intro hm
  have := List.all_eq_true.1 (may_pos h).2.2 _ hm
  simp [okSign] at this

/-- a text cut at its strokes -/
def cut : List UInt8 → List (List UInt8)
  | [] => [[]]
  | b :: r => if b = 62 then [] :: cut r else (b :: (cut r).headD []) :: (cut r).tail

theorem cut_ne (l : List UInt8) : cut l ≠ [] := by
  cases l with
  | nil => simp [cut]
  | cons b r => unfold cut; split <;> simp

theorem cut_pos (l : List UInt8) : 1 ≤ (cut l).length := List.length_pos_iff.2 (cut_ne l)

theorem head_tail (l : List UInt8) : (cut l).headD [] :: (cut l).tail = cut l := by
  have := cut_ne l
  cases h : cut l with
  | nil => exact absurd h this
  | cons a t => rfl

theorem splitK_cons (b : UInt8) (h : b ≠ 62) : ∀ (k : Nat) (l : List UInt8),
    Lib.splitK [62] 0 k (b :: l) = (b :: (Lib.splitK [62] 0 k l).headD []) :: (Lib.splitK [62] 0 k l).tail
  | 0, l => rfl
  | k + 1, l => by
    have hne : Lib.index (b :: l) [62] = if Lib.index l [62] == -1 then -1 else Lib.index l [62] + 1 := by
      rw [Lib.index_one, Lib.index_one]
      show Lib.indexByte (b :: l) 62 = _
      have hb : (b == 62) = false := by simpa using h
      rw [Lib.indexByte, hb]
      rfl
    have hge := Lib.index_ge l [62]
    unfold Lib.splitK
    rw [hne]
    by_cases hm : Lib.index l [62] = -1
    · simp [hm]
    · have h1 : ¬ ((Lib.index l [62] == -1) = true) := by simpa using hm
      rw [if_neg h1]
      have h2 : ¬ ((Lib.index l [62] + 1 == -1) = true) := by
        intro e
        have := eq_of_beq e
        omega
      rw [if_neg h2, if_neg h1]
      have e1 : (Lib.index l [62] + 1).toNat = (Lib.index l [62]).toNat + 1 := by omega
      rw [e1]
      simp

theorem split_cut : ∀ l : List UInt8, Lib.splitK [62] 0 (Lib.count l [62]) l = cut l
  | [] => by
    have : Lib.count [] [62] = 0 := by decide
    rw [this]; rfl
  | b :: r => by
    have ih := split_cut r
    by_cases h : b = 62
    · subst h
      have hc : Lib.count (62 :: r) [62] = Lib.count r [62] + 1 := by
        rw [Lib.count_one, Lib.count_one]
        simp
      have hi : Lib.index (62 :: r) [62] = 0 := by
        rw [Lib.index_one]
        simp [Lib.indexByte]
      rw [hc]
      unfold Lib.splitK
      rw [hi]
      simp only [cut, if_true]
      rw [← ih]
      rfl
    · rw [Lib.count_cons_ne b 62 r h, splitK_cons b h, ih]
      simp [cut, h]

theorem cut_len (l : List UInt8) : (cut l).length = Lib.count l [62] + 1 := by
  induction l with
  | nil => rfl
  | cons b r ih =>
    by_cases h : b = 62
    · subst h
      have hc : Lib.count (62 :: r) [62] = Lib.count r [62] + 1 := by
        rw [Lib.count_one, Lib.count_one]
        simp
      simp [cut, hc, ih]
    · rw [Lib.count_cons_ne b 62 r h]
      have := cut_pos r
      simp [cut, h]
      omega

/-- parts joined: a stroke ahead of each; a stroke alone where there is none -/
def joinOf (ps : List (List UInt8)) : List UInt8 := if ps = [] then [62] else ps.flatMap (62 :: ·)

theorem joinOf_cons (p : List UInt8) (ps : List (List UInt8)) : joinOf (p :: ps) = 62 :: (p ++ ps.flatMap (62 :: ·)) := by simp [joinOf]

theorem join_lib (ps : List (List UInt8)) : 62 :: Lib.join ps [62] = joinOf ps := by
  cases ps with
  | nil => rfl
  | cons p r =>
    rw [Lib.join_cons, joinOf_cons, Lib.joinTail]
    simp [List.flatMap]

theorem join_cut (r : List UInt8) : joinOf (cut r) = 62 :: r := by
  induction r with
  | nil => rfl
  | cons b r ih =>
    by_cases h : b = 62
    · subst h
      have e : cut (62 :: r) = [] :: cut r := by simp [cut]
      rw [e, joinOf_cons]
      have := ih
      rw [joinOf, if_neg (cut_ne r)] at this
      rw [this]; rfl
    · have e : cut (b :: r) = (b :: (cut r).headD []) :: (cut r).tail := by simp [cut, h]
      rw [e, joinOf_cons]
      have e2 := ih
      rw [← head_tail r, joinOf_cons] at e2
      simp only [List.cons_append]
      rw [List.cons.inj e2 |>.2]

theorem cut_free (p : List UInt8) (h : (62 : UInt8) ∉ p) : cut p = [p] := by
  induction p with
  | nil => rfl
  | cons b r ih =>
    have hb : b ≠ 62 := fun e => h (by simp [e])
    rw [cut, if_neg hb, ih (fun hm => h (List.mem_cons_of_mem _ hm))]
    rfl

theorem cut_app (p r : List UInt8) (h : (62 : UInt8) ∉ p) : cut (p ++ 62 :: r) = p :: cut r := by
  induction p with
  | nil => simp [cut]
  | cons b q ih =>
    have hb : b ≠ 62 := fun e => h (by simp [e])
    rw [List.cons_append, cut, if_neg hb, ih (fun hm => h (List.mem_cons_of_mem _ hm))]
    rfl

theorem cut_join (ps : List (List UInt8)) (h0 : ps ≠ []) (h : ∀ p ∈ ps, (62 : UInt8) ∉ p) : cut (joinOf ps).tail = ps := by
  induction ps with
  | nil => exact absurd rfl h0
  | cons p r ih =>
    rw [joinOf_cons, List.tail_cons]
    cases r with
    | nil => simpa using cut_free p (h p (by simp))
    | cons q t =>
      have := ih (by simp) (fun x hx => h x (List.mem_cons_of_mem _ hx))
      rw [joinOf_cons, List.tail_cons] at this
      rw [List.flatMap_cons, List.cons_append, cut_app p _ (h p (by simp)), this]

/-- a path's parts, if it is one -/
def partsOf (l : List UInt8) : Option (List (List UInt8)) :=
  if 168 < l.length ∨ l.head? ≠ some 62 then none
  else if l = [62] then some []
  else if 16 < (cut l.tail).length ∨ (cut l.tail).all (may 32) = false then none
  else some (cut l.tail)

theorem joinOf_head (ps : List (List UInt8)) : (joinOf ps).head? = some 62 := by
  cases ps with
  | nil => rfl
  | cons p r => rw [joinOf_cons]; rfl

theorem joinOf_one {ps : List (List UInt8)} (h : ∀ p ∈ ps, may 32 p = true) : joinOf ps = [62] ↔ ps = [] := by
  constructor
  · intro e
    cases ps with
    | nil => rfl
    | cons p r =>
      have := (may_pos (h p (by simp))).1
      rw [joinOf_cons] at e
      have e2 := (List.cons.inj e).2
      have e3 : p = [] := (List.append_eq_nil_iff.1 e2).1
      subst e3
      simp at this
  · rintro rfl; rfl

theorem partsOf_join {ps : List (List UInt8)} (h : ∀ p ∈ ps, may 32 p = true) (h16 : ps.length ≤ 16) (h168 : (joinOf ps).length ≤ 168) : partsOf (joinOf ps) = some ps := by
  unfold partsOf
  rw [if_neg (by rw [joinOf_head]; simp; omega)]
  by_cases h0 : ps = []
  · subst h0; rfl
  · rw [if_neg (fun e => h0 ((joinOf_one h).1 e)), cut_join ps h0 (fun p hp => no_stroke (h p hp)), if_neg]
    rintro (h1 | h1)
    · omega
    · rw [List.all_eq_true.2 h] at h1; cases h1

theorem partsOf_long {ps : List (List UInt8)} (h : ∀ p ∈ ps, may 32 p = true) (hl : 16 < ps.length ∨ 168 < (joinOf ps).length) : partsOf (joinOf ps) = none := by
  unfold partsOf
  by_cases h1 : 168 < (joinOf ps).length
  · rw [if_pos (Or.inl h1)]
  · have h16 : 16 < ps.length := hl.resolve_right h1
    have h0 : ps ≠ [] := by rintro rfl; simp at h16
    rw [if_neg (by rw [joinOf_head]; simp; omega), if_neg (fun e => h0 ((joinOf_one h).1 e)), cut_join ps h0 (fun p hp => no_stroke (h p hp)), if_pos (Or.inl h16)]

theorem partsOf_some {l : List UInt8} {ps : List (List UInt8)} (h : partsOf l = some ps) : l = joinOf ps ∧ (∀ p ∈ ps, may 32 p = true) ∧ ps.length ≤ 16 ∧ l.length ≤ 168 := by
  unfold partsOf at h
  split at h
  · cases h
  · rename_i h1
    have h168 : l.length ≤ 168 := by by_cases hx : 168 < l.length; exact absurd (Or.inl hx) h1; omega
    have hh : l.head? = some 62 := by by_cases hx : l.head? = some 62; exact hx; exact absurd (Or.inr hx) h1
    split at h
    · rename_i h2
      cases h
      exact ⟨h2, by simp, by simp, h168⟩
    · split at h
      · cases h
      · rename_i h3
        cases h
        have hlen : (cut l.tail).length ≤ 16 := by by_cases hx : 16 < (cut l.tail).length; exact absurd (Or.inl hx) h3; omega
        have hall : (cut l.tail).all (may 32) = true := by
          cases hx : (cut l.tail).all (may 32)
          · exact absurd (Or.inr hx) h3
          · rfl
        refine ⟨?_, List.all_eq_true.1 hall, hlen, h168⟩
        rw [join_cut]
        cases l with
        | nil => cases hh
        | cons b r => simp at hh; rw [hh]; rfl

/-- one sign more: a stroke begins a part, another sign goes on with the last -/
def grow (ps : List (List UInt8)) (b : UInt8) : List (List UInt8) := if b = 62 then ps ++ [[]] else ps.dropLast ++ [ps.getLastD [] ++ [b]]

theorem grow_fold (r : List UInt8) : ∀ (ps : List (List UInt8)) (p : List UInt8), r.foldl grow (ps ++ [p]) = ps ++ (p ++ (cut r).headD []) :: (cut r).tail := by
  induction r with
  | nil => intro ps p; simp [cut]
  | cons b r ih =>
    intro ps p
    rw [List.foldl_cons]
    by_cases h : b = 62
    · have e : grow (ps ++ [p]) b = (ps ++ [p]) ++ [[]] := by simp [grow, h]
      rw [e, ih]
      have e2 : cut (b :: r) = [] :: cut r := by simp [cut, h]
      rw [e2, List.nil_append, head_tail]
      simp
    · have e : grow (ps ++ [p]) b = ps ++ [p ++ [b]] := by simp [grow, h, List.getLastD_eq_getLast?]
      rw [e, ih]
      have e2 : cut (b :: r) = (b :: (cut r).headD []) :: (cut r).tail := by simp [cut, h]
      rw [e2]
      simp

theorem grow_cut (r : List UInt8) : (62 :: r).foldl grow [] = cut r := by
  have e : (62 :: r).foldl grow [] = r.foldl grow ([] ++ [[]]) := rfl
  rw [e, grow_fold, List.nil_append, List.nil_append, head_tail]

/-- what Split hands back: the parts, or none -/
def ps (l : List UInt8) : List (List UInt8) := (partsOf l).getD []
/-- and its error's number -/
def er (l : List UInt8) : Int := if (partsOf l).isSome then 0 else 3

theorem ps_may (l : List UInt8) : ∀ p ∈ ps l, may 32 p = true := by
  unfold ps
  cases h : partsOf l with
  | none => simp
  | some q => exact (partsOf_some h).2.1

theorem ps_len (l : List UInt8) : (ps l).length ≤ 16 := by
  unfold ps
  cases h : partsOf l with
  | none => simp
  | some q => exact (partsOf_some h).2.2.1

theorem sum_le {qs : List (List UInt8)} (h : ∀ p ∈ qs, may 32 p = true) : (qs.flatMap (62 :: ·)).length ≤ 33 * qs.length := by
  induction qs with
  | nil => simp
  | cons p r ih =>
    have h1 := (may_pos (h p (by simp))).2.1
    have h2 := ih (fun x hx => h x (List.mem_cons_of_mem _ hx))
    simp only [List.flatMap_cons, List.length_append, List.length_cons] at h2 ⊢
    omega

theorem joinOf_le {qs : List (List UInt8)} (h : ∀ p ∈ qs, may 32 p = true) : (joinOf qs).length ≤ 33 * qs.length + 1 := by
  unfold joinOf
  split
  · simp
  · have := sum_le h; omega

end Go.Proofs.YtpcdcmoapenbdaaDoor.N
