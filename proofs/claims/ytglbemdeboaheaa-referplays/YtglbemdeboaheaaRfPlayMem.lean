/-
  What ReferPlays holds in memory: a table of names, its own list of deeds, the deed at hand; where a name stands in the list.
-/
import Derived.Test.YtglbemdeboaheaaRfDeeds
import Derived.BigQuiet
import Derived.Deep.CutRange
namespace Go.Proofs.Ytglbemdeboaheaa.Rf
open Go.ChangeShapes Go.WideShapes Go.ChangeAt Go.RowKit
open Go.Proofs.Ytglbemdeboaheaa.N (bs bs_data bs_size bs_inj bs_of may retB)
open Go.Proofs.Ytglbemdeboaheaa.G (El Row flat kT goodT)

/-- the table and the list of deeds, apart -/
structure PM (X w : World) (b : Nat) (F : Nat → Prop) (c : Nat) (L : List E) (v : Value) (m : List Dd) : Prop where
  tab : RY X w b F c L
  own : G.Own kD X.heap.size w v m
  apart : ∀ k, v.ownBlock = some k → ¬ F k
/-- .. and the deed at hand -/
structure PS (X w : World) (b : Nat) (F : Nat → Prop) (c : Nat) (L : List E) (v : Value) (m : List Dd) (db : Nat) (d : Dd) : Prop where
  pm : PM X w b F c L v m
  deed : w.heap[db]? = some (DdO d)
  young : X.heap.size ≤ db
  dF : ¬ F db
  dv : ∀ k, v.ownBlock = some k → k ≠ db

section
variable {X w w' : World} {b : Nat} {F F' : Nat → Prop} {c c' : Nat} {L L' : List E} {v v' : Value} {m m' : List Dd} {db : Nat} {d : Dd}

theorem PM.start (h : RY X w b F c []) : PM X w b F c (Lm []) (.slice none 0 0) [] := ⟨h, G.Own.nil _ _, fun k hk => by cases hk⟩
theorem PM.bel (h : PM X w b F c L v m) (g : Below w.heap.size w w') : PM X w' b F c L v m := ⟨h.tab.bel g, h.own.below g, h.apart⟩
theorem PM.row (h : PM X w b F c L v m) : ∃ a cp, v = .slice a m.length cp ∧ Row kD w a cp m ∧ (m ≠ [] → ∃ k, a = some ⟨k, 0, none⟩) := h.own.row goodD
theorem PM.deed (h : PM X w b F c L v m) (d : Dd) : PS X (w.alloc (DdO d)) b F c L v m w.heap.size d where
  pm := h.bel (one_new w _)
  deed := heap_alloc_new w _
  young := h.tab.below.size
  dF := fun hf => by have := h.tab.at_.ltF _ hf; omega
  dv := fun k hk => by have := (h.own.lt hk).2; omega
theorem PS.lt (h : PS X w b F c L v m db d) : db < w.heap.size := (Array.getElem?_eq_some_iff.1 h.deed).1
theorem PS.at_ (h : PS X w b F c L v m db d) : DdAt w db 0 d := by
  constructor <;> simp [World.cell?, h.deed]
theorem PS.bel (h : PS X w b F c L v m db d) (g : Below w.heap.size w w') : PS X w' b F c L v m db d := ⟨h.pm.bel g, (g.block db h.lt).trans h.deed, h.young, h.dF, h.dv⟩
theorem PS.drewN (h : PS X w b F c L v m db d) (n : Nat) : PS X (w.drewN n) b F c L v m db d := h.bel (below_drewN w n)
theorem PS.alloc (h : PS X w b F c L v m db d) (o : Obj) : PS X (w.alloc o) b F c L v m db d := h.bel (one_new w o)
theorem PS.went (h : PS X w b F c L v m db d) (g : Went F w F' w') (y : RY X w' b F' c' L') : PS X w' b F' c' L' v m db d where
  pm := ⟨y, h.pm.own.of (fun k hk => g.block k (h.pm.own.lt hk).2 (h.pm.apart k hk)), fun k hk => g.out (h.pm.own.lt hk).2 (h.pm.apart k hk)⟩
  deed := (g.block db h.lt h.dF).trans h.deed
  young := h.young
  dF := g.out h.lt h.dF
  dv := h.dv
/-- an append to the list -/
theorem PS.app (h : PS X w b F c L v m db d) (o : G.Own kD X.heap.size w' v' m') (g : w.grownBy w' v.ownBlock) (hv : v'.ownBlock = v.ownBlock ∨ v'.ownBlock = some w.heap.size) : PS X w' b F c L v' m' db d where
  pm := ⟨h.pm.tab.grown g (fun k e => ⟨(h.pm.own.lt e).1, h.pm.apart k e⟩), o, fun k hk hF => by
    rcases hv with e | e
    · rw [e] at hk
      exact h.pm.apart k hk hF
    · rw [e] at hk
      cases hk
      have := h.pm.tab.at_.ltF _ hF
      omega⟩
  deed := (g.block db h.lt (fun e => h.dv db e.symm rfl)).trans h.deed
  young := h.young
  dF := h.dF
  dv := fun k hk e => by
    subst e
    rcases hv with e | e
    · rw [e] at hk
      exact h.dv k hk rfl
    · rw [e] at hk
      cases hk
      have := h.lt
      omega
/-- a list anew, all of whose memory is new -/
theorem PS.swap (h : PS X w b F c L v m db d) (g : Below w.heap.size w w') (o : G.Own kD w.heap.size w' v' m') : PS X w' b F c L v' m' db d where
  pm := ⟨h.pm.tab.bel g, o.mono h.pm.tab.below.size, fun k hk hF => by have := h.pm.tab.at_.ltF k hF; have := (o.lt hk).1; omega⟩
  deed := (g.block db h.lt).trans h.deed
  young := h.young
  dF := h.dF
  dv := fun k hk e => by have := h.lt; have := (o.lt hk).1; omega
theorem PS.out (h : PS X w b F c L v m db d) : PM X w b F c L v m := h.pm
end

/-- where a name stands in the first of a list -/
def AtOf (m : List Dd) (r : Int) (n : Txt) (k : Nat) (A : Int) : Prop :=
  (A = -1 ∧ ∀ j (hj : j < m.length), j < k → ¬ same r n m[j]) ∨ ∃ j, ∃ hj : j < m.length, A = j ∧ j < k ∧ same r n m[j]
theorem AtOf.start (m : List Dd) (r : Int) (n : Txt) : AtOf m r n 0 (-1) := Or.inl ⟨rfl, fun _ _ h => absurd h (Nat.not_lt_zero _)⟩
section
variable {m : List Dd} {r : Int} {n : Txt} {k : Nat} {A : Int}
theorem AtOf.no (h : AtOf m r n k A) (hk : k < m.length) (hn : ¬ same r n m[k]) : AtOf m r n (k + 1) A := by
  rcases h with ⟨e, h⟩ | ⟨j, hj, e, h1, h2⟩
  · refine Or.inl ⟨e, fun j hj hl => ?_⟩
    by_cases ej : j = k
    · subst ej
      exact hn
    · exact h j hj (by omega)
  · exact Or.inr ⟨j, hj, e, by omega, h2⟩
theorem AtOf.yes (hk : k < m.length) (hn : same r n m[k]) : AtOf m r n (k + 1) k := Or.inr ⟨k, hk, rfl, by omega, hn⟩
theorem AtOf.bd (h : AtOf m r n k A) : -1 ≤ A ∧ A < m.length := by
  rcases h with ⟨e, _⟩ | ⟨j, hj, e, _⟩ <;> omega
end

end Go.Proofs.Ytglbemdeboaheaa.Rf
