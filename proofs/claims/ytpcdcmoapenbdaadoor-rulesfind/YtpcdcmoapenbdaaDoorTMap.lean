/-
  Maps in memory as plain functions: a map of a call's own answers each key as a function of keys does; looked up, written, deleted from, made. One text for every kind of key and element.
-/
import Derived.Test.YtpcdcmoapenbdaaDoorProg
import Derived.WalkKit
import Derived.ProofKit
import Derived.Below
import Derived.Lib.Hide
import Derived.Maps.OwnSet
import Derived.Maps.AppendAt
import Derived.DeepKeys4
namespace Go.Proofs.YtpcdcmoapenbdaaDoor.T
open Go.ChangeShapes Go.WideShapes Go.ChangeAt Go.RowKit

/-- a function with one place changed -/
def upd {κ α : Type} [DecidableEq κ] (f : κ → α) (k : κ) (v : α) : κ → α := fun j => if j = k then v else f j
theorem upd_same {κ α : Type} [DecidableEq κ] (f : κ → α) (k : κ) (v : α) : upd f k v k = v := by simp [upd]
theorem upd_other {κ α : Type} [DecidableEq κ] (f : κ → α) {k j : κ} (v : α) (h : j ≠ k) : upd f k v j = f j := by simp [upd, h]

/-- how keys and elements of a kind of map read -/
structure Kind (κ α : Type) where
  kt : TypeId
  et : TypeId
  mt : TypeId
  kv : κ → Value
  kl : κ → Lit
  ok : κ → Prop
  ev : α → Value
  enc : α → DataW Unit
  zv : Value
  zd : DataW Unit
  R : Value → Option (DataW Unit × List MemPlace)

structure Kind.Good {κ α : Type} (s : Kind κ α) (P : Program) : Prop where
  keyed : Maps.Keyed P s.kt
  under : P.underlying s.mt = some (.map s.kt s.et)
  key : ∀ k, s.ok k → keyOf P s.kt (s.kv k) = some (s.kl k)
  inj : ∀ k k', s.kv k = s.kv k' → k = k'
  zero : ∀ w, (zeroValue s.et).run P w = .ok s.zv w
  zr : s.R s.zv = some (s.zd, [])
  rd : ∀ a, s.R (s.ev a) = some (s.enc a, [])
  back : ∀ v a ps, s.R v = some (s.enc a, ps) → v = s.ev a
  backz : ∀ v ps, s.R v = some (s.zd, ps) → v = s.zv

section
variable {κ α : Type} {s : Kind κ α} {P : Program} {w : World} {mb c : Nat} {f : κ → Option α}

theorem Kind.Good.ne (g : s.Good P) {k k' : κ} (hk : s.ok k) (hk' : s.ok k') (h : k' ≠ k) : s.kl k' ≠ s.kl k := by
  intro e
  have h1 := g.key k hk
  have h2 := g.key k' hk'
  rw [e] at h2
  exact h (g.inj _ _ (g.keyed.inj h2 h1))

/-- a map in memory answers as f -/
def MapIs (s : Kind κ α) (P : Program) (w : World) (mb c : Nat) (f : κ → Option α) : Prop :=
  ∃ D, w.ownsMap P s.kt s.R mb c D ∧ ∀ k, s.ok k → (f k = none → Maps.has D (s.kl k) = false) ∧ ∀ a, f k = some a → Maps.has D (s.kl k) = true ∧ D.atKey (s.kl k) s.zd = s.enc a

/-- .. or it is nil and has nothing -/
def MapO (s : Kind κ α) (P : Program) (w : World) (m : Option Nat) (c : Nat) (f : κ → Option α) : Prop :=
  (m = none → ∀ k, f k = none) ∧ ∀ mb, m = some mb → MapIs s P w mb c f

/-- what the map answers -/
def elem (s : Kind κ α) (f : κ → Option α) (k : κ) : Value :=
  match f k with
  | none => s.zv
  | some a => s.ev a
theorem elem_none {k : κ} (h : f k = none) : elem s f k = s.zv := by simp [elem, h]
theorem elem_some {k : κ} {a : α} (h : f k = some a) : elem s f k = s.ev a := by simp [elem, h]

theorem MapIs.of (h : MapIs s P w mb c f) {w' : World} (e : w'.heap[mb]? = w.heap[mb]?) : MapIs s P w' mb c f := by
  obtain ⟨D, ⟨es, cl, hb, r⟩, hk⟩ := h
  exact ⟨D, ⟨es, cl, e.trans hb, r⟩, hk⟩
theorem MapIs.lt (h : MapIs s P w mb c f) : mb < w.heap.size := by
  obtain ⟨D, hD, _⟩ := h
  exact hD.lt
theorem MapIs.isMap (h : MapIs s P w mb c f) : ∃ es cl, w.heap[mb]? = some (.map es cl) := by
  obtain ⟨D, ⟨es, cl, hb, _⟩, _⟩ := h
  exact ⟨es, cl, hb⟩
theorem MapIs.mono (h : MapIs s P w mb c f) {c' : Nat} (hc : c ≤ c') : MapIs s P w mb c' f := by
  obtain ⟨D, hD, hk⟩ := h
  exact ⟨D, hD.mono hc, hk⟩
theorem MapIs.made (w : World) (c : Nat) : MapIs s P (w.alloc (.map #[] 0)) w.heap.size c (fun _ => none) :=
  ⟨.map [], (World.ownsMap_made w _ _ _).mono (Nat.zero_le _), fun _ _ => ⟨fun _ => rfl, fun _ h => by cases h⟩⟩

theorem MapIs.look_ok (h : MapIs s P w mb c f) (g : s.Good P) {k : κ} (hk : s.ok k) :
    (Instr.lookup s.mt (.map (some mb)) (s.kv k) true).run P w = .ok (.tuple #[elem s f k, .bool (f k).isSome]) w := by
  obtain ⟨D, hD, hf⟩ := h
  obtain ⟨v, ps, hrun, hv⟩ := hD.look_ok g.keyed g.under (g.zero w) g.zr (g.key k hk)
  rw [hrun]
  cases hS : f k with
  | none =>
    have e := (hf k hk).1 hS
    rw [Maps.atKey_of_not_has e] at hv
    rw [e, g.backz _ _ hv, elem_none hS]
    rfl
  | some a =>
    obtain ⟨e, e'⟩ := (hf k hk).2 a hS
    rw [e'] at hv
    rw [e, g.back _ _ _ hv, elem_some hS]
    rfl
theorem MapIs.look (h : MapIs s P w mb c f) (g : s.Good P) {k : κ} (hk : s.ok k) :
    (Instr.lookup s.mt (.map (some mb)) (s.kv k) false).run P w = .ok (elem s f k) w := by
  obtain ⟨D, hD, hf⟩ := h
  obtain ⟨v, ps, hrun, hv⟩ := hD.lookup g.keyed g.under (g.zero w) g.zr (g.key k hk)
  rw [hrun]
  cases hS : f k with
  | none =>
    have e := (hf k hk).1 hS
    rw [Maps.atKey_of_not_has e] at hv
    rw [g.backz _ _ hv, elem_none hS]
  | some a =>
    obtain ⟨e, e'⟩ := (hf k hk).2 a hS
    rw [e'] at hv
    rw [g.back _ _ _ hv, elem_some hS]
theorem MapO.look_ok {m : Option Nat} (h : MapO s P w m c f) (g : s.Good P) {k : κ} (hk : s.ok k) :
    (Instr.lookup s.mt (.map m) (s.kv k) true).run P w = .ok (.tuple #[elem s f k, .bool (f k).isSome]) w := by
  cases m with
  | none =>
    have e := h.1 rfl k
    rw [Maps.look_nil true g.keyed g.under (g.zero w) (g.key k hk), elem_none e, e]
    rfl
  | some mb => exact (h.2 mb rfl).look_ok g hk
theorem MapO.look {m : Option Nat} (h : MapO s P w m c f) (g : s.Good P) {k : κ} (hk : s.ok k) :
    (Instr.lookup s.mt (.map m) (s.kv k) false).run P w = .ok (elem s f k) w := by
  cases m with
  | none =>
    have e := h.1 rfl k
    rw [Maps.look_nil false g.keyed g.under (g.zero w) (g.key k hk), elem_none e]
    rfl
  | some mb => exact (h.2 mb rfl).look g hk

theorem MapIs.store [DecidableEq κ] (h : MapIs s P w mb c f) (g : s.Good P) {k : κ} (hk : s.ok k) (a : α) (hc : c < maxLen) :
    ∃ w', (Instr.mapUpdate s.mt (.map (some mb)) (s.kv k) (s.ev a)).run P w = .ok () w' ∧ MapIs s P w' mb (c + 1) (upd f k (some a)) ∧ w.grownBy w' (some mb) := by
  obtain ⟨D, hD, hf⟩ := h
  obtain ⟨w', hrun, hD', ht⟩ := hD.store g.keyed g.under hc (g.key k hk) (g.rd a)
  refine ⟨w', hrun, ⟨_, hD', fun k' hk' => ?_⟩, ht.grown⟩
  have hl := g.keyed.key (g.key k hk)
  by_cases e : k' = k
  · subst e
    rw [upd_same]
    exact ⟨fun e => (by cases e), fun a' e => by cases e; exact ⟨Maps.has_put_same hD.isMap hl _, Maps.atKey_put_same hD.isMap hl _ _⟩⟩
  · have e' := g.ne hk hk' e
    rw [upd_other _ _ e, Maps.has_put_other e', Maps.atKey_put_other e']
    exact hf k' hk'
theorem MapIs.drop [DecidableEq κ] (h : MapIs s P w mb c f) (g : s.Good P) {k : κ} (hk : s.ok k) (ty : TypeId) :
    ∃ w', (Builtin.delete_ #[s.mt, s.kt] ty #[.map (some mb), s.kv k]).run P w = .ok (.tuple #[]) w' ∧ MapIs s P w' mb c (upd f k none) ∧ w.grownBy w' (some mb) := by
  obtain ⟨D, hD, hf⟩ := h
  obtain ⟨w', hrun, hD', ht⟩ := hD.drop g.keyed g.under (g.key k hk) ty
  refine ⟨w', hrun, ⟨_, hD', fun k' hk' => ?_⟩, ht.grown⟩
  by_cases e : k' = k
  · subst e
    rw [upd_same]
    exact ⟨fun _ => Maps.has_del_same, fun _ e => by cases e⟩
  · have e' := g.ne hk hk' e
    rw [upd_other _ _ e, Maps.has_del_other e', Maps.atKey_del_other e']
    exact hf k' hk'

end

end Go.Proofs.YtpcdcmoapenbdaaDoor.T
