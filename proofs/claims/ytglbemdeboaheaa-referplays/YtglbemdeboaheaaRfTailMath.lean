/-
  ReferPlays, behind each deed: whose name it is, which names are in order; the slots that stay.
-/
import Derived.Test.YtglbemdeboaheaaRfFrame
import Derived.Deep.CutBlock
namespace Go.Proofs.Ytglbemdeboaheaa.Rf
open Go.ChangeShapes Go.WideShapes Go.ChangeAt Go.RowKit
open Go.Proofs.Ytglbemdeboaheaa.N (bs bs_data bs_size bs_inj bs_of may retB)
open Go.Proofs.Ytglbemdeboaheaa.G (El Row flat kT goodT)
set_option linter.unusedVariables false

/-- what holds at a round's end -/
def TailI (X : World) (b : Nat) (s0 : Value) (k : Nat) (a : Act) (w : World) : Prop :=
  Fr a ∧ slot a 0 = s0 ∧ slot a 3 = RP b ∧ slot a 5 = .int .i64 k ∧
    ∃ (F : Nat → Prop) (c : Nat) (m : List Dd), c ≤ k + 1 ∧ m.length ≤ k + 1 ∧ (∀ x ∈ m, x.name.length ≤ 100 ∧ x.Ok) ∧ PM X w b F c (Lm m) (slot a 4) m

/-- whose name it is, as far as the list was gone through -/
def OptOf (m : List Dd) (r : Int) (n : Txt) (k : Nat) (o : Option Int) : Prop :=
  (o = none ∧ ∀ j (hj : j < m.length), j < k → ¬ same r n m[j]) ∨ ∃ j, ∃ hj : j < m.length, j < k ∧ same r n m[j] ∧ o = some m[j].seg
theorem OptOf.start (m : List Dd) (r : Int) (n : Txt) : OptOf m r n 0 none := Or.inl ⟨rfl, fun _ _ h => absurd h (Nat.not_lt_zero _)⟩
section
variable {m : List Dd} {r : Int} {n : Txt} {k : Nat} {o : Option Int}
theorem OptOf.no (h : OptOf m r n k o) (hk : k < m.length) (hn : ¬ same r n m[k]) : OptOf m r n (k + 1) o := by
  rcases h with ⟨e, h⟩ | ⟨j, hj, h1, h2, e⟩
  · refine Or.inl ⟨e, fun j hj hl => ?_⟩
    by_cases ej : j = k
    · subst ej
      exact hn
    · exact h j hj (by omega)
  · exact Or.inr ⟨j, hj, by omega, h2, e⟩
theorem OptOf.yes (hk : k < m.length) (hn : same r n m[k]) : OptOf m r n (k + 1) (some m[k].seg) := Or.inr ⟨k, hk, by omega, hn, rfl⟩
theorem OptOf.get (h : OptOf m r n m.length o) (g : Good (Lm m)) : get (Lm m) r n = o := by
  rcases h with ⟨e, h⟩ | ⟨j, hj, _, h2, e⟩
  · rw [e]
    exact Lm_none (fun j hj => h j hj hj)
  · rw [e]
    exact Lm_get g hj h2
end

/-- the names so far: rising, those of the segment in the ring -/
structure NamesOf (m : List Dd) (r s : Int) (k : Nat) (qs : List Txt) : Prop where
  up : qs.Pairwise (fun x y => x ≤ y)
  perm : qs.Perm (namesOf (Lm (m.take k)) r s)
theorem NamesOf.start (m : List Dd) (r s : Int) : NamesOf m r s 0 [] := ⟨List.Pairwise.nil, by simp [namesOf, Lm]⟩
section
variable {m : List Dd} {r s : Int} {k : Nat} {qs : List Txt}
theorem names_step (hk : k < m.length) : namesOf (Lm (m.take (k + 1))) r s = namesOf (Lm (m.take k)) r s ++ (if m[k].ring = r ∧ m[k].seg = s then [m[k].name] else []) := by
  rw [List.take_succ_eq_append_getElem hk, Lm_app, namesOf, List.filter_append, List.map_append]
  congr 1
  simp only [Lm, List.map_cons, List.map_nil, toE]
  by_cases h1 : m[k].ring = r
  · by_cases h2 : m[k].seg = s
    · simp [isOf, h1, h2]
    · simp [isOf, h1, h2]
  · simp [isOf, h1]
theorem NamesOf.no (h : NamesOf m r s k qs) (hk : k < m.length) (hn : ¬ (m[k].ring = r ∧ m[k].seg = s)) : NamesOf m r s (k + 1) qs :=
  ⟨h.up, by rw [names_step hk, if_neg hn, List.append_nil]; exact h.perm⟩
theorem NamesOf.yes (h : NamesOf m r s k qs) (hk : k < m.length) (hn : m[k].ring = r ∧ m[k].seg = s) {j : Nat} (hj : j ≤ qs.length) (hlo : ∀ i (hi : i < qs.length), i < j → qs[i] ≤ m[k].name) (hhi : ∀ i (hi : i < qs.length), j ≤ i → m[k].name < qs[i]) :
    NamesOf m r s (k + 1) (qs.take j ++ [m[k].name] ++ qs.drop j) where
  up := by
    rw [List.append_assoc, List.pairwise_append]
    refine ⟨h.up.sublist (List.take_sublist _ _), ?_, fun x hx y hy => ?_⟩
    · rw [List.singleton_append, List.pairwise_cons]
      refine ⟨fun y hy => ?_, h.up.sublist (List.drop_sublist _ _)⟩
      obtain ⟨i, hi, rfl⟩ := List.getElem_of_mem hy
      rw [List.getElem_drop]
      exact List.le_of_lt (hhi _ (by rw [List.length_drop] at hi; omega) (by omega))
    · obtain ⟨i, hi, rfl⟩ := List.getElem_of_mem hx
      rw [List.length_take] at hi
      rw [List.getElem_take]
      rcases List.mem_append.1 hy with hy | hy
      · rw [List.mem_singleton.1 hy]
        exact hlo i (by omega) (by omega)
      · obtain ⟨i', hi', rfl⟩ := List.getElem_of_mem hy
        rw [List.length_drop] at hi'
        rw [List.getElem_drop]
        exact List.le_trans (hlo i (by omega) (by omega)) (List.le_of_lt (hhi (j + i') (by omega) (by omega)))
  perm := by
    rw [names_step hk, if_pos hn]
    refine List.Perm.trans ?_ (h.perm.append_right _)
    have e : qs = qs.take j ++ qs.drop j := (List.take_append_drop j qs).symm
    refine List.Perm.trans ?_ (List.Perm.append_right _ (List.Perm.of_eq e.symm))
    rw [List.append_assoc, List.append_assoc]
    exact List.Perm.append_left _ List.perm_append_comm
theorem NamesOf.all (h : NamesOf m r s m.length qs) : ofL (Lm m) r s = qs := by
  have hp := h.perm
  rw [List.take_length] at hp
  refine List.Perm.eq_of_pairwise (le := fun a b => a ≤ b) (fun a b _ _ h1 h2 => List.le_antisymm h1 h2) (sortT_sorted _) h.up ((sortT_perm _).trans hp.symm)
end

/-- the slots that stay while the list is gone through -/
structure TS (s0 : Value) (b : Nat) (v : Value) (k db : Nat) (gt : Option Int) (a : Act) : Prop where
  fr : Fr a
  h0 : slot a 0 = s0
  h3 : slot a 3 = RP b
  h4 : slot a 4 = v
  h5 : slot a 5 = .int .i64 k
  h6 : slot a 6 = .pointer (some ⟨db, 0, none⟩)
  h14 : slot a 14 = .int .i64 (gt.getD 0)
  h15 : slot a 15 = .bool gt.isSome

/-- the code of an 'if' whose test lies in that slot -/
def theThen (t : Nat) : Code → Option Code
  | .cond (.tmp u) a b => if u = t then some a else match theThen t a with
    | some c => some c
    | none => theThen t b
  | .cond _ a b => match theThen t a with
    | some c => some c
    | none => theThen t b
  | .block _ c => theThen t c
  | .seq a b => match theThen t a with
    | some c => some c
    | none => theThen t b
  | .loop c => theThen t c
  | .scope c => theThen t c
  | _ => none
noncomputable def insCode : Code := ((Try.f3.body.bind (theThen 270)).getD .skip)

/-- a text alone in a block -/
def QAt (w : World) (q : Nat) (n : Txt) : Prop := w.heap[q]? = some (.cells #[.string (bs n)] 9 (0, 0))
theorem QAt.row {w : World} {q : Nat} {n : Txt} (h : QAt w q n) : Row kT w (some ⟨q, 0, none⟩) 1 [n] := by
  refine ⟨Nat.le_refl _, fun e => (by cases e), fun _ => ⟨q, 0, rfl, (Array.getElem?_eq_some_iff.1 h).1, fun j hj r u hu => ?_⟩⟩
  have e : j = 0 := by simp at hj; omega
  subst e
  unfold QAt at h
  rw [Nat.zero_mul, Nat.zero_add]
  simp only [World.cell?, h]
  simpa [kT, bs] using hu
theorem QAt.kept {w w' : World} {q : Nat} {n : Txt} (h : QAt w q n) {r : Option Nat} (g : w.grownBy w' r) (hr : some q ≠ r) : QAt w' q n := (g.block q (Array.getElem?_eq_some_iff.1 h).1 hr).trans h
theorem QAt.new (w : World) (n : Txt) : QAt (w.alloc (.cells #[.string (bs n)] 9)) w.heap.size n := heap_alloc_new w _
theorem QAt.alloc {w : World} {q : Nat} {n : Txt} (h : QAt w q n) (o : Obj) : QAt (w.alloc o) q n := (heap_alloc_old w o (Array.getElem?_eq_some_iff.1 h).1).trans h
theorem empty_own (w : World) (base : Nat) (h : base ≤ w.heap.size) : G.Own kT base (w.alloc (.cells #[] 9)) (.slice (some ⟨w.heap.size, 0, none⟩) 0 0) [] := World.ownsRow_lit w #[] 0 h (by decide) rfl

end Go.Proofs.Ytglbemdeboaheaa.Rf
