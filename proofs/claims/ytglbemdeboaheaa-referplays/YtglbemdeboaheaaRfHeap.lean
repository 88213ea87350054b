/-
  What a table of reference names is in memory: one block of one cell that leads to a map (or to none), the map's entries those of a list of (ring, name, segment) in some order. What a call does to its blocks F and that it leaves all others alone (Went).
-/
import Derived.Test.YtglbemdeboaheaaChecked
import Derived.Test.YtglbemdeboaheaaNMath
import Derived.WalkKit
import Derived.ProofKit
import Derived.Below
import Derived.Lib.Hide
import Derived.Maps.OwnSet
import Derived.Maps.AppendAt
import Derived.Maps.RangeWalk
import Derived.DeepKeys4
import Derived.OpenShut
namespace Go.Proofs.Ytglbemdeboaheaa.Rf
open Go.ChangeShapes Go.WideShapes Go.ChangeAt Go.RowKit
open Go.Proofs.Ytglbemdeboaheaa.N (bs bs_data bs_size bs_inj)

abbrev Txt := List UInt8
def rng (k : Int) : Prop := -9223372036854775808 ≤ k ∧ k ≤ 9223372036854775807

/-- a name of a segment in a ring -/
structure E where
  ring : Int
  name : Txt
  seg : Int

def kl (r : Int) (n : Txt) : Lit := .string (keyBytes [.int .i64 r, .string n])
def enc (x : E) : Lit × DataW Unit := (kl x.ring x.name, .lit (.int .i64 x.seg))
@[reducible] def KV (r : Int) (n : Txt) : Value := .agg #[.int .i64 r, .string (bs n)]
@[reducible] def RP (b : Nat) : Value := .pointer (some ⟨b, 0, none⟩)
@[reducible] def RO (m : Option Nat) : Obj := .cells #[.map m] 46 (0, 0)

def ok (r : Int) (n : Txt) : Prop := rng r ∧ n.length ≤ maxLen
def isK (r : Int) (n : Txt) (x : E) : Bool := decide (x.ring = r) && decide (x.name = n)
/-- whose name it is -/
def get (L : List E) (r : Int) (n : Txt) : Option Int := (L.find? (isK r n)).map (·.seg)
def del (L : List E) (r : Int) (n : Txt) : List E := L.filter (fun x => !isK r n x)
def forget (L : List E) (s : Int) : List E := L.filter (fun x => !decide (x.seg = s))
def isOf (r s : Int) (x : E) : Bool := decide (x.ring = r) && decide (x.seg = s)
/-- the names of a segment in a ring, as they stand in the list -/
def namesOf (L : List E) (r s : Int) : List Txt := (L.filter (isOf r s)).map (·.name)

structure Good (L : List E) : Prop where
  key : ∀ x ∈ L, ok x.ring x.name
  one : L.Pairwise (fun x y => ¬ (x.ring = y.ring ∧ x.name = y.name))

theorem isK_iff {r : Int} {n : Txt} {x : E} : isK r n x = true ↔ x.ring = r ∧ x.name = n := by simp [isK]

theorem Good.nil : Good [] := ⟨fun _ h => (by cases h), List.Pairwise.nil⟩
theorem Good.filter {L : List E} (h : Good L) (p : E → Bool) : Good (L.filter p) := ⟨fun x hx => h.key x (List.mem_filter.1 hx).1, h.one.filter p⟩
theorem Good.del {L : List E} (h : Good L) (r : Int) (n : Txt) : Good (del L r n) := h.filter _
theorem Good.forget {L : List E} (h : Good L) (s : Int) : Good (forget L s) := h.filter _

theorem get_none {L : List E} {r : Int} {n : Txt} : get L r n = none ↔ ∀ x ∈ L, ¬ (x.ring = r ∧ x.name = n) := by
  unfold get
  rw [Option.map_eq_none_iff, List.find?_eq_none]
  exact ⟨fun h x hx e => h x hx (isK_iff.2 e), fun h x hx e => h x hx (isK_iff.1 e)⟩
theorem get_some {L : List E} {r : Int} {n : Txt} {s : Int} (h : get L r n = some s) : (⟨r, n, s⟩ : E) ∈ L := by
  unfold get at h
  obtain ⟨x, hx, rfl⟩ := Option.map_eq_some_iff.1 h
  have h1 := List.mem_of_find?_eq_some hx
  have h2 := isK_iff.1 (List.find?_some hx)
  obtain ⟨a, b, c⟩ := x
  obtain ⟨rfl, rfl⟩ := h2
  exact h1
theorem one_at {L : List E} (h : Good L) {x y : E} (hx : x ∈ L) (hy : y ∈ L) (e : x.ring = y.ring ∧ x.name = y.name) : x = y := by
  have := h.one
  clear h
  induction L with
  | nil => cases hx
  | cons z l ih =>
    obtain ⟨h1, h2⟩ := List.pairwise_cons.1 this
    rcases List.mem_cons.1 hx with rfl | hx'
    · rcases List.mem_cons.1 hy with rfl | hy'
      · rfl
      · exact absurd e (h1 y hy')
    · rcases List.mem_cons.1 hy with rfl | hy'
      · exact absurd ⟨e.1.symm, e.2.symm⟩ (h1 x hx')
      · exact ih hx' hy' h2
theorem get_mem {L : List E} (h : Good L) {x : E} (hx : x ∈ L) : get L x.ring x.name = some x.seg := by
  cases hg : get L x.ring x.name with
  | none => exact absurd ⟨rfl, rfl⟩ (get_none.1 hg x hx)
  | some s =>
    have := one_at h hx (get_some hg) ⟨rfl, rfl⟩
    rw [this]
theorem get_eq {L : List E} (h : Good L) {r : Int} {n : Txt} {s : Int} (hx : (⟨r, n, s⟩ : E) ∈ L) : get L r n = some s := get_mem h hx

theorem del_none {L : List E} {r : Int} {n : Txt} (h : get L r n = none) : del L r n = L :=
  List.filter_eq_self.2 (fun x hx => by
    cases hk : isK r n x with
    | false => rfl
    | true => exact absurd (isK_iff.1 hk) (get_none.1 h x hx))
theorem Good.snoc {L : List E} (h : Good L) {x : E} (hx : ok x.ring x.name) (hn : get L x.ring x.name = none) : Good (L ++ [x]) where
  key := fun y hy => by
    rcases List.mem_append.1 hy with hy | hy
    · exact h.key y hy
    · rw [List.mem_singleton.1 hy]
      exact hx
  one := List.pairwise_append.2 ⟨h.one, List.pairwise_singleton _ _, fun y hy z hz => by
    rw [List.mem_singleton.1 hz]
    exact get_none.1 hn y hy⟩
theorem perm_del {L : List E} (h : Good L) {x : E} (hx : x ∈ L) : (del L x.ring x.name ++ [x]).Perm L := by
  have := h.one
  clear h
  induction L with
  | nil => cases hx
  | cons z l ih =>
    obtain ⟨h1, h2⟩ := List.pairwise_cons.1 this
    rcases List.mem_cons.1 hx with rfl | hx'
    · have e : del (x :: l) x.ring x.name = l := by
        have e1 : isK x.ring x.name x = true := isK_iff.2 ⟨rfl, rfl⟩
        simp only [del, List.filter_cons, e1, Bool.not_true, Bool.false_eq_true, if_false]
        exact List.filter_eq_self.2 (fun y hy => by
          cases hk : isK x.ring x.name y with
          | false => rfl
          | true => exact absurd ((isK_iff.1 hk).imp Eq.symm Eq.symm) (h1 y hy))
      rw [e]
      exact List.perm_append_comm
    · have e1 : isK x.ring x.name z = false := by
        cases hk : isK x.ring x.name z with
        | false => rfl
        | true => exact absurd (isK_iff.1 hk) (h1 x hx')
      have e : del (z :: l) x.ring x.name = z :: del l x.ring x.name := by simp [del, e1]
      rw [e, List.cons_append]
      exact (ih hx' h2).cons z

theorem wf64 {k : Int} (h : rng k) : (Lit.int .i64 k).wf = true := WalkArith.wf_i64 (by unfold rng at h; omega)
theorem rng_of {n : Int} (h : (Lit.int .i64 n).wf = true) : rng n := by
  have := bounds_i64 h
  unfold rng
  omega
theorem laidOut : laidOutB Try.prog = true := by kernel_rfl
theorem rowRef : (50 : TypeId) < Try.prog.types.size := of_decide_eq_true (by kernel_rfl)
theorem wideRef : (match Try.prog.underlying 50 with | some (.array _ _) | some (.struct _) => true | _ => false) = true := by kernel_rfl
set_option maxRecDepth 100000 in
theorem lawRef : Maps.Keyed Try.prog 50 := Maps.Keyed.of_law (deep_law_laid laidOut (m := 3) (by omega) rowRef (by kernel_rfl) wideRef)
theorem keyRef : Try.prog.keyType 50 = true := by kernel_rfl
theorem cellsRef : Try.prog.cellsOf 50 = 2 := by kernel_rfl
theorem cellsInt : Try.prog.cellsOf 3 = 1 := by kernel_rfl
theorem cellsString : Try.prog.cellsOf 9 = 1 := by kernel_rfl
theorem many : 2 ≤ Try.prog.types.size := of_decide_eq_true (by kernel_rfl)
theorem zero_int (w : World) : (zeroValue 3).run Try.prog w = .ok (.int .i64 0) w := by kernel_rfl
theorem map_nil (w : World) : (binOp .eql 44 (.map none) (.map none)).run Try.prog w = .ok (.bool true) w := by kernel_rfl
theorem map_made (n : Nat) (w : World) : (binOp .eql 44 (.map (some n)) (.map none)).run Try.prog w = .ok (.bool false) w := by kernel_rfl

theorem key_ok {r : Int} {n : Txt} (h : ok r n) : keyOf Try.prog 50 (KV r n) = some (kl r n) := by
  have hw := wf64 h.1
  have hz : (bs n).size ≤ maxLen := by rw [bs_size]; exact h.2
  have hf : (KV r n).formed Try.prog 50 = true := by
    simp [Value.formed, Try.underlying50, cellsRef]
  unfold keyOf
  rw [Try.underlying50]
  simp only [keyRef, hf, Bool.and_self, if_true]
  obtain ⟨m, hm⟩ : ∃ m, Try.prog.types.size = m + 2 := ⟨Try.prog.types.size - 2, by have := many; omega⟩
  rw [hm]
  simp [Program.keyLits, Try.underlying50, Try.underlying3, Try.underlying9, cellsRef, cellsInt, cellsString, hw, hz, Value.cells, bs_data, kl]

theorem size_len (s : ByteArray) : s.data.toList.length = s.size := Array.length_toList

set_option maxRecDepth 100000 in
/-- what a key is -/
theorem key_inv {v : Value} {l : Lit} (h : keyOf Try.prog 50 v = some l) : ∃ r n, v = KV r n ∧ ok r n ∧ l = kl r n := by
  unfold keyOf at h
  rw [Try.underlying50] at h
  simp only [keyRef, Bool.true_and] at h
  split at h
  · rename_i hf
    cases v with
    | agg xs =>
      have hx : xs.size = 2 := by simpa [Value.formed, Try.underlying50, cellsRef] using hf
      obtain ⟨l0⟩ := xs
      match l0, hx with
      | [x0, x1], _ =>
        obtain ⟨n, hn⟩ : ∃ n, Try.prog.types.size = n + 2 := ⟨Try.prog.types.size - 2, by have := many; omega⟩
        rw [hn] at h
        simp [Program.keyLits, Try.underlying50, Try.underlying3, Try.underlying9, cellsRef, cellsInt, cellsString, Value.cells] at h
        cases x0 with
        | int q d =>
          by_cases hq : q = .i64 ∧ (Lit.int .i64 d).wf = true
          · obtain ⟨rfl, hw⟩ := hq
            cases x1 with
            | string s =>
              by_cases hs : s.size ≤ maxLen
              · simp [hw, hs] at h
                exact ⟨d, s.data.toList, by rw [KV, N.bs_of], ⟨rng_of hw, by rw [size_len]; exact hs⟩, h.symm⟩
              · simp [hw, hs] at h
            | _ => simp [hw] at h
          · cases x1 <;> simp [hq] at h
        | _ => simp at h
    | _ => simp [Value.formed, Try.underlying50] at hf
  · cases h

theorem KV_inj {r r' : Int} {n n' : Txt} (h : KV r n = KV r' n') : r = r' ∧ n = n' := by
  simp only [KV, Value.agg.injEq, Array.mk.injEq, List.cons.injEq, Value.int.injEq, Value.string.injEq, true_and, and_true] at h
  exact ⟨h.1, bs_inj h.2⟩
theorem kl_inj {r r' : Int} {n n' : Txt} (h : ok r n) (h' : ok r' n') (e : kl r n = kl r' n') : r = r' ∧ n = n' := by
  have h1 := key_ok h
  have h2 := key_ok h'
  rw [e] at h1
  exact KV_inj (lawRef.inj h1 h2)
theorem kl_key (r : Int) (n : Txt) : WideAt.IsKeyLit (kl r n) := trivial
theorem kl_same {r r' : Int} {n n' : Txt} (h : ok r n) (h' : ok r' n') : (kl r n).sameKey (kl r' n') = (decide (r = r') && decide (n = n')) := by
  by_cases e : r = r' ∧ n = n'
  · obtain ⟨rfl, rfl⟩ := e
    simp [WideAt.sameKey_self (kl_key r n)]
  · rw [Maps.sameKey_ne (fun e' => e (kl_inj h h' e'))]
    by_cases e1 : r = r'
    · have : ¬ n = n' := fun e2 => e ⟨e1, e2⟩
      simp [this]
    · simp [e1]

def intR : Value → Option (DataW Unit × List MemPlace)
  | .int .i64 n => some (.lit (.int .i64 n), [])
  | _ => none
theorem intR_inv {v : Value} {n : Int} {ps : List MemPlace} (h : intR v = some (.lit (.int .i64 n), ps)) : v = .int .i64 n := by
  unfold intR at h
  split at h
  · simp only [Option.some.injEq, Prod.mk.injEq, DataW.lit.injEq, Lit.int.injEq, true_and] at h
    rw [h.1]
  · cases h
theorem intR_is {v : Value} {y : DataW Unit × List MemPlace} (h : intR v = some y) : ∃ n, v = .int .i64 n ∧ y = (.lit (.int .i64 n), []) := by
  unfold intR at h
  split at h
  · exact ⟨_, rfl, (Option.some.inj h).symm⟩
  · cases h

/-! ### the map -/

/-- the map's entries are those of the list -/
def MapL (w : World) (mb c : Nat) (L : List E) : Prop := ∃ es, w.ownsMap Try.prog 50 intR mb c (.map es) ∧ es.Perm (L.map enc)

section
variable {w : World} {mb c : Nat} {L : List E}

theorem MapL.lt (h : MapL w mb c L) : mb < w.heap.size := by
  obtain ⟨es, h, _⟩ := h
  exact h.lt
theorem MapL.isMap (h : MapL w mb c L) : ∃ es cl, w.heap[mb]? = some (.map es cl) := by
  obtain ⟨_, ⟨es, cl, hb, _⟩, _⟩ := h
  exact ⟨es, cl, hb⟩
theorem MapL.of (h : MapL w mb c L) {w' : World} (e : w'.heap[mb]? = w.heap[mb]?) : MapL w' mb c L := by
  obtain ⟨es, ⟨x, cl, hb, r⟩, hp⟩ := h
  exact ⟨es, ⟨x, cl, e.trans hb, r⟩, hp⟩
theorem MapL.mono (h : MapL w mb c L) {c' : Nat} (hc : c ≤ c') : MapL w mb c' L := by
  obtain ⟨es, h, hp⟩ := h
  exact ⟨es, h.mono hc, hp⟩
theorem MapL.perm (h : MapL w mb c L) {L' : List E} (hp : L.Perm L') : MapL w mb c L' := by
  obtain ⟨es, h, hp'⟩ := h
  exact ⟨es, h, hp'.trans (hp.map _)⟩
theorem MapL.made (w : World) (c : Nat) : MapL (w.alloc (.map #[] 0)) w.heap.size c [] :=
  ⟨[], (World.ownsMap_made w _ _ _).mono (Nat.zero_le _), List.Perm.nil⟩

theorem any_eq {α : Type} {p q : α → Bool} : ∀ {l : List α}, (∀ x ∈ l, p x = q x) → l.any p = l.any q
  | [], _ => rfl
  | y :: l, h => by rw [List.any_cons, List.any_cons, h y (by simp), any_eq (fun x hx => h x (by simp [hx]))]
theorem any_get (L : List E) (r : Int) (n : Txt) : (get L r n).isSome = L.any (isK r n) := by
  unfold get
  rw [Option.isSome_map]
  exact List.isSome_find?

theorem MapL.has {es : List (Lit × DataW Unit)} (hp : es.Perm (L.map enc)) (g : Good L) {r : Int} {n : Txt} (hk : ok r n) : Maps.has (.map es) (kl r n) = (get L r n).isSome := by
  rw [Maps.has_eq, hp.any_eq, List.any_map, any_get]
  exact any_eq (fun x hx => by
    show (kl x.ring x.name).sameKey (kl r n) = isK r n x
    rw [kl_same (g.key x hx) hk]
    rfl)
theorem MapL.at_ {es : List (Lit × DataW Unit)} (h : w.ownsMap Try.prog 50 intR mb c (.map es)) (hp : es.Perm (L.map enc)) {x : E} (hx : x ∈ L) (z : DataW Unit) : (DataW.map es).atKey (kl x.ring x.name) z = .lit (.int .i64 x.seg) := by
  obtain ⟨es', e, hap, _⟩ := h.entries lawRef
  cases e
  exact WideAt.atKey_mem z (kl_key _ _) hap (hp.mem_iff.2 (List.mem_map.2 ⟨x, hx, rfl⟩))

theorem MapL.look (h : MapL w mb c L) (g : Good L) {r : Int} {n : Txt} (hk : ok r n) :
    (Instr.lookup 44 (.map (some mb)) (KV r n) true).run Try.prog w = .ok (.tuple #[.int .i64 ((get L r n).getD 0), .bool (get L r n).isSome]) w := by
  obtain ⟨es, hD, hp⟩ := h
  obtain ⟨v, ps, hrun, hv⟩ := hD.look_ok lawRef Try.underlying44 (zero_int w) (zd := .lit (.int .i64 0)) (zp := []) rfl (key_ok hk)
  rw [hrun, MapL.has hp g hk]
  cases hg : get L r n with
  | none =>
    have e : Maps.has (DataW.map es) (kl r n) = false := by rw [MapL.has hp g hk, hg]; rfl
    rw [Maps.atKey_of_not_has e] at hv
    rw [intR_inv hv]
    rfl
  | some s =>
    rw [MapL.at_ (x := ⟨r, n, s⟩) hD hp (get_some hg)] at hv
    rw [intR_inv hv]
    rfl
theorem look_nil {r : Int} {n : Txt} (hk : ok r n) (w : World) :
    (Instr.lookup 44 (.map none) (KV r n) true).run Try.prog w = .ok (.tuple #[.int .i64 0, .bool false]) w := by
  rw [Maps.look_nil true lawRef Try.underlying44 (zero_int w) (key_ok hk)]
  rfl

theorem filter_enc (g : Good L) {r : Int} {n : Txt} (hk : ok r n) : (L.map enc).filter (fun p => !p.1.sameKey (kl r n)) = (del L r n).map enc := by
  rw [List.filter_map, del]
  congr 1
  exact List.filter_congr (fun x hx => by
    show (!(kl x.ring x.name).sameKey (kl r n)) = !isK r n x
    rw [kl_same (g.key x hx) hk]
    rfl)

theorem MapL.put (h : MapL w mb c L) (g : Good L) {x : E} (hk : ok x.ring x.name) (hc : c < maxLen) :
    ∃ w', (Instr.mapUpdate 44 (.map (some mb)) (KV x.ring x.name) (.int .i64 x.seg)).run Try.prog w = .ok () w' ∧ MapL w' mb (c + 1) (del L x.ring x.name ++ [x]) ∧ w.grownBy w' (some mb) := by
  obtain ⟨es, hD, hp⟩ := h
  obtain ⟨w', hrun, hD', ht⟩ := hD.store lawRef Try.underlying44 hc (key_ok hk) (val := .int .i64 x.seg) (d := .lit (.int .i64 x.seg)) (ps := []) rfl
  refine ⟨w', hrun, ⟨_, hD', ?_⟩, ht.grown⟩
  refine (insert_perm _ _).trans ?_
  rw [List.map_append]
  refine List.Perm.trans ?_ List.perm_append_comm
  show (enc x :: es.filter (fun p => !p.1.sameKey (kl x.ring x.name))).Perm (enc x :: (del L x.ring x.name).map enc)
  rw [← filter_enc g hk]
  exact (hp.filter _).cons _
theorem MapL.drop (h : MapL w mb c L) (g : Good L) {r : Int} {n : Txt} (hk : ok r n) (ty : TypeId) :
    ∃ w', (Builtin.delete_ #[44, 50] ty #[.map (some mb), KV r n]).run Try.prog w = .ok (.tuple #[]) w' ∧ MapL w' mb c (del L r n) ∧ w.grownBy w' (some mb) := by
  obtain ⟨es, hD, hp⟩ := h
  obtain ⟨w', hrun, hD', ht⟩ := hD.drop lawRef Try.underlying44 (key_ok hk) ty
  refine ⟨w', hrun, ⟨_, hD', ?_⟩, ht.grown⟩
  rw [← filter_enc g hk]
  exact hp.filter _
theorem MapL.len (h : MapL w mb c L) (ty : TypeId) : (Builtin.len_ #[44] ty #[.map (some mb)]).run Try.prog w = .ok (.int .i64 L.length) w := by
  obtain ⟨es, hD, hp⟩ := h
  rw [hD.len Try.underlying44 ty, Maps.size_eq, hp.length_eq, List.length_map]
theorem len_nil (ty : TypeId) (w : World) : (Builtin.len_ #[44] ty #[.map none]).run Try.prog w = .ok (.int .i64 0) w := Maps.len_nil Try.underlying44 ty
theorem MapL.le (h : MapL w mb c L) : L.length ≤ c := by
  obtain ⟨es, hD, hp⟩ := h
  have := hD.size_le
  rw [Maps.size_eq, hp.length_eq, List.length_map] at this
  exact this

end

/-! ### the table -/

structure RfL (w : World) (b : Nat) (F : Nat → Prop) (c : Nat) (L : List E) (mp : Option Nat) : Prop where
  head : w.heap[b]? = some (RO mp)
  inF : F b
  ltF : ∀ i, F i → i < w.heap.size
  none_ : mp = none → L = []
  inM : ∀ mb, mp = some mb → F mb
  some_ : ∀ mb, mp = some mb → MapL w mb c L
  good : Good L

/-- a table in memory -/
def RfAt (w : World) (b : Nat) (F : Nat → Prop) (c : Nat) (L : List E) : Prop := ∃ mp, RfL w b F c L mp

/-- a call changed the blocks F and made new ones; the table's blocks are F' now -/
structure Went (F : Nat → Prop) (w : World) (F' : Nat → Prop) (w' : World) : Prop where
  os : w'.os = w.os
  tape : w'.tape = w.tape
  output : w'.output = w.output
  size : w.heap.size ≤ w'.heap.size
  block : ∀ i, i < w.heap.size → ¬ F i → w'.heap[i]? = w.heap[i]?
  foot : ∀ i, F' i → F i ∨ w.heap.size ≤ i

theorem Went.refl (F : Nat → Prop) (w : World) : Went F w F w := ⟨rfl, rfl, rfl, Nat.le_refl _, fun _ _ _ => rfl, fun _ h => Or.inl h⟩
theorem Went.trans {F F' F'' : Nat → Prop} {w w' w'' : World} (h : Went F w F' w') (h' : Went F' w' F'' w'') : Went F w F'' w'' :=
  ⟨h'.os.trans h.os, h'.tape.trans h.tape, h'.output.trans h.output, Nat.le_trans h.size h'.size,
    fun i hi hn => (h'.block i (Nat.lt_of_lt_of_le hi h.size) (fun hf => (h.foot i hf).elim hn (fun hg => by omega))).trans (h.block i hi hn),
    fun i hi => (h'.foot i hi).elim (fun hf => h.foot i hf) (fun hg => Or.inr (Nat.le_trans h.size hg))⟩
theorem Went.below {F F' : Nat → Prop} {w w' : World} (h : Went F w F' w') {B : Nat} (hB : ∀ i, F i → B ≤ i) (hs : B ≤ w.heap.size) : Below B w w' :=
  ⟨h.os, h.tape, h.output, h.size, fun i hi => h.block i (by omega) (fun hf => by have := hB i hf; omega)⟩
theorem Went.ge {F F' : Nat → Prop} {w w' : World} (h : Went F w F' w') {B : Nat} (hB : ∀ i, F i → B ≤ i) (hs : B ≤ w.heap.size) : ∀ i, F' i → B ≤ i :=
  fun i hi => (h.foot i hi).elim (hB i) (fun hg => by omega)
theorem Went.out {F F' : Nat → Prop} {w w' : World} (h : Went F w F' w') {g : Nat} (hg : g < w.heap.size) (hn : ¬ F g) : ¬ F' g := fun hf => (h.foot g hf).elim hn (fun h => by omega)
theorem Went.of_below {F : Nat → Prop} {w w' : World} (h : Below w.heap.size w w') : Went F w F w' := ⟨h.os, h.tape, h.output, h.size, fun i hi _ => h.block i hi, fun _ hf => Or.inl hf⟩
theorem Went.grown {F : Nat → Prop} {w w' : World} {mb : Nat} (h : w.grownBy w' (some mb)) (hm : F mb) : Went F w F w' :=
  ⟨h.os, h.tape, h.output, h.size, fun i hi hn => h.block i hi (fun e => by cases e; exact hn hm), fun _ hf => Or.inl hf⟩

theorem head_set {w : World} {b : Nat} {cs : Array Value} {t : TypeId} {fr : Nat × Nat} (h : w.heap[b]? = some (.cells cs t fr)) (i : Nat) (v : Value) : (w.setCell ⟨b, i, none⟩ v).heap[b]? = some (.cells (cs.setIfInBounds i v) t fr) := by
  rw [setCell_eq_setRow w b i cs t fr v h]
  exact setRow_heap _ _ _ _ _ _ h
theorem other_set {w : World} {b k : Nat} (i : Nat) (v : Value) (h : k ≠ b) : (w.setCell ⟨b, i, none⟩ v).heap[k]? = w.heap[k]? := Below.heap_setCell _ _ _ _ h
theorem one_new (w : World) (o : Obj) : Below w.heap.size w (w.alloc o) := (Below.refl _ _).alloc (Nat.le_refl _) o

section
variable {w : World} {b : Nat} {F : Nat → Prop} {c : Nat} {L : List E} {mp : Option Nat}

theorem RfL.cell (h : RfL w b F c L mp) : w.cell? ⟨b, 0, none⟩ = some (.map mp) := by simp [World.cell?, h.head]
theorem RfL.fz (h : RfL w b F c L mp) (i : Nat) : w.frozen? ⟨b, i, none⟩ = false := by simp [World.frozen?, h.head]
theorem RfL.lt (h : RfL w b F c L mp) : b < w.heap.size := h.ltF b h.inF
theorem RfL.ne (h : RfL w b F c L mp) {mb : Nat} (hm : mp = some mb) : mb ≠ b := by
  intro e
  obtain ⟨es, cl, hb⟩ := (h.some_ mb hm).isMap
  rw [e, h.head] at hb
  simp at hb
theorem RfL.le (h : RfL w b F c L mp) : L.length ≤ c := by
  cases mp with
  | none => rw [h.none_ rfl]; exact Nat.zero_le _
  | some mb => exact (h.some_ mb rfl).le
theorem RfL.look (h : RfL w b F c L mp) {r : Int} {n : Txt} (hk : ok r n) :
    (Instr.lookup 44 (.map mp) (KV r n) true).run Try.prog w = .ok (.tuple #[.int .i64 ((get L r n).getD 0), .bool (get L r n).isSome]) w := by
  cases mp with
  | none =>
    rw [h.none_ rfl]
    exact look_nil hk w
  | some mb => exact (h.some_ mb rfl).look h.good hk
theorem RfL.len (h : RfL w b F c L mp) (ty : TypeId) : (Builtin.len_ #[44] ty #[.map mp]).run Try.prog w = .ok (.int .i64 L.length) w := by
  cases mp with
  | none =>
    rw [h.none_ rfl]
    exact len_nil ty w
  | some mb => exact (h.some_ mb rfl).len ty

/-- other blocks may change -/
theorem RfL.keep (h : RfL w b F c L mp) {w' : World} (hs : w.heap.size ≤ w'.heap.size) (hk : ∀ i, F i → w'.heap[i]? = w.heap[i]?) : RfL w' b F c L mp where
  head := (hk b h.inF).trans h.head
  inF := h.inF
  ltF := fun i hi => Nat.lt_of_lt_of_le (h.ltF i hi) hs
  none_ := h.none_
  inM := h.inM
  some_ := fun mb hm => (h.some_ mb hm).of (hk mb (h.inM mb hm))
  good := h.good
theorem RfAt.keep (h : RfAt w b F c L) {w' : World} (hs : w.heap.size ≤ w'.heap.size) (hk : ∀ i, F i → w'.heap[i]? = w.heap[i]?) : RfAt w' b F c L := by
  obtain ⟨mp, h⟩ := h
  exact ⟨mp, h.keep hs hk⟩
theorem RfAt.below (h : RfAt w b F c L) {w' : World} (hb : Below w.heap.size w w') : RfAt w' b F c L := by
  obtain ⟨mp, h⟩ := h
  exact ⟨mp, h.keep hb.size (fun i hi => hb.block i (h.ltF i hi))⟩
theorem RfAt.ltF (h : RfAt w b F c L) : ∀ i, F i → i < w.heap.size := by
  obtain ⟨mp, h⟩ := h
  exact h.ltF
theorem RfAt.lt (h : RfAt w b F c L) : b < w.heap.size := by
  obtain ⟨mp, h⟩ := h
  exact h.lt
theorem RfAt.good (h : RfAt w b F c L) : Good L := by
  obtain ⟨mp, h⟩ := h
  exact h.good
theorem RfAt.le (h : RfAt w b F c L) : L.length ≤ c := by
  obtain ⟨mp, h⟩ := h
  exact h.le
theorem RfAt.mono (h : RfAt w b F c L) {c' : Nat} (hc : c ≤ c') : RfAt w b F c' L := by
  obtain ⟨mp, h⟩ := h
  exact ⟨mp, h.head, h.inF, h.ltF, h.none_, h.inM, fun mb e => (h.some_ mb e).mono hc, h.good⟩

/-- the map's block turned -/
theorem RfL.turn {mb : Nat} (h : RfL w b F c L (some mb)) {w' : World} (hg : w.grownBy w' (some mb)) {c' : Nat} {L' : List E} (hm : MapL w' mb c' L') (g : Good L') : RfL w' b F c' L' (some mb) where
  head := (hg.block b h.lt (fun e => h.ne rfl (by cases e; rfl))).trans h.head
  inF := h.inF
  ltF := fun i hi => Nat.lt_of_lt_of_le (h.ltF i hi) hg.size
  none_ := fun e => by cases e
  inM := h.inM
  some_ := fun mb' e => by cases e; exact hm
  good := g

/-- the map is made -/
theorem RfL.made (h : RfL w b F c L none) : RfL ((w.alloc (.map #[] 0)).setCell ⟨b, 0, none⟩ (.map (some w.heap.size))) b (fun i => F i ∨ i = w.heap.size) c L (some w.heap.size) where
  head := by rw [head_set ((heap_alloc_old _ _ h.lt).trans h.head)]; simp
  inF := Or.inl h.inF
  ltF := fun i hi => by
    simp
    rcases hi with hi | rfl
    · have := h.ltF i hi
      omega
    · omega
  none_ := fun e => by cases e
  inM := fun mb e => by cases e; exact Or.inr rfl
  some_ := fun mb e => by
    cases e
    rw [h.none_ rfl]
    exact (MapL.made w c).of (other_set _ _ (by have := h.lt; omega))
  good := h.good
theorem RfL.went (h : RfL w b F c L none) : Went F w (fun i => F i ∨ i = w.heap.size) ((w.alloc (.map #[] 0)).setCell ⟨b, 0, none⟩ (.map (some w.heap.size))) where
  os := rfl
  tape := rfl
  output := rfl
  size := by simp
  block := fun i hi hn => by
    rw [other_set _ _ (fun e => hn (by rw [e]; exact h.inF)), heap_alloc_old _ _ hi]
  foot := fun i hi => hi.imp id (fun e => by omega)

end

end Go.Proofs.Ytglbemdeboaheaa.Rf
