/-
  Of: the names of a segment in a ring, gone through in whatever order they come, collected and sorted.
-/
import Derived.Test.YtglbemdeboaheaaRfForget
import Derived.Test.YtglbemdeboaheaaShelf
import Derived.Sort.KeysCollected
import Derived.Laws.OwnMore
import Derived.OwnWalk
namespace Go.Proofs.Ytglbemdeboaheaa.Rf
open Go.ChangeShapes Go.WideShapes Go.ChangeAt Go.RowKit
open Go.Proofs.Ytglbemdeboaheaa.N (bs bs_data bs_size bs_inj may retB)

/-! ### texts of a call's own -/

def vals (qs : List Txt) : List Value := qs.map fun p => Value.string (bs p)
theorem info_text : (Try.prog.info? 9).map (fun i => (i.zero, i.size, i.bytes)) = some (some (.string ByteArray.empty), 1, 16) := by kernel_rfl
theorem info_parts {i? : Option TypeInfo} {z : Option Value} {s b : Nat} (h : i?.map (fun i => (i.zero, i.size, i.bytes)) = some (z, s, b)) : ∃ i, i? = some i ∧ i.zero = z ∧ i.size = s ∧ i.bytes = b := by
  cases i? with
  | none => cases h
  | some i =>
    simp only [Option.map_some, Option.some.injEq, Prod.mk.injEq] at h
    exact ⟨i, rfl, h.1, h.2.1, h.2.2⟩
theorem one_text (w : World) (y : Txt) : ∀ (j : Nat) (u : Value), [Value.string (bs y)][j]? = some u → (w.alloc (.cells #[.string (bs y)] 9)).cell? ((⟨w.heap.size, 0, none⟩ : Addr).add j) = some u := by
  intro j u h
  cases j with
  | zero =>
    cases h
    rw [show ((⟨w.heap.size, 0, none⟩ : Addr).add 0) = ⟨w.heap.size, 0, none⟩ from rfl]
    rw [World.cell?_alloc_at _ _ _ _ (by simp)]
    rfl
  | succ j => simp at h
theorem one_text2 (w : World) (o : Obj) (y : Txt) : ∀ (j : Nat) (u : Value), [Value.string (bs y)][j]? = some u → ((w.alloc o).alloc (.cells #[.string (bs y)] 9)).cell? ((⟨w.heap.size + 1, 0, none⟩ : Addr).add j) = some u := by
  intro j u h
  cases j with
  | zero =>
    cases h
    rw [show ((⟨w.heap.size + 1, 0, none⟩ : Addr).add 0) = ⟨w.heap.size + 1, 0, none⟩ from rfl]
    rw [World.cell?_alloc_at _ _ _ _ (by simp)]
    rfl
  | succ j => simp at h

/-- texts as they lie in memory -/
def Lies (lo : Nat) (w : World) (a : Option Addr) (qs : List Txt) : Prop :=
  0 < qs.length → ∃ blk, a = some ⟨blk, 0, none⟩ ∧ lo ≤ blk ∧ blk < w.heap.size ∧ ∀ (j : Nat) p, qs[j]? = some p → w.cell? ⟨blk, j, none⟩ = some (.string (bs p))
theorem Lies.below {lo : Nat} {w w' : World} {a : Option Addr} {qs : List Txt} (h : Lies lo w a qs) (hb : Below w.heap.size w w') : Lies lo w' a qs := fun h0 => by
  obtain ⟨bk, e, h1, hl, hc⟩ := h h0
  exact ⟨bk, e, h1, Nat.lt_of_lt_of_le hl hb.size, fun j p hp => (hb.cell (p := ⟨bk, j, none⟩) hl).trans (hc j p hp)⟩
theorem Lies.went {lo : Nat} {F F' : Nat → Prop} {w w' : World} {a : Option Addr} {qs : List Txt} (h : Lies lo w a qs) (g : Went F w F' w') (hF : ∀ i, F i → i < lo) : Lies lo w' a qs := fun h0 => by
  obtain ⟨bk, e, h1, hl, hc⟩ := h h0
  refine ⟨bk, e, h1, Nat.lt_of_lt_of_le hl g.size, fun j p hp => ?_⟩
  have hb := g.block bk hl (fun hf => by have := hF bk hf; omega)
  have := hc j p hp
  simpa [World.cell?, hb] using this
theorem Lies.mono {lo lo' : Nat} {w : World} {a : Option Addr} {qs : List Txt} (h : Lies lo w a qs) (hl : lo' ≤ lo) : Lies lo' w a qs := fun h0 => by
  obtain ⟨bk, e, h1, r⟩ := h h0
  exact ⟨bk, e, Nat.le_trans hl h1, r⟩
theorem Lies.at_ {lo : Nat} {w : World} {a : Option Addr} {qs : List Txt} (h : Lies lo w a qs) {k : Nat} (hk : k < qs.length) : ∃ bk, a = some ⟨bk, 0, none⟩ ∧ bk < w.heap.size ∧ w.cell? ⟨bk, k, none⟩ = some (.string (bs qs[k])) := by
  obtain ⟨bk, e, _, hl, hc⟩ := h (by omega)
  exact ⟨bk, e, hl, hc k _ (List.getElem?_eq_getElem hk)⟩

theorem heap_putRow {α : Type} [Inhabited α] (enc : α → Value) (w : World) (blk off k : Nat) (d : Array α) (h : k ≠ blk) : (Sort.putRow enc w blk off d).heap[k]? = w.heap[k]? := by
  simp [Sort.putRow, Sort.mapBlock, Array.getElem?_modify, Ne.symm h]

/-- the texts, sorted -/
def sortT (qs : List Txt) : List Txt := qs.mergeSort leB
theorem sortT_len (qs : List Txt) : (sortT qs).length = qs.length := by simp [sortT]
theorem sortT_perm (qs : List Txt) : (sortT qs).Perm qs := List.mergeSort_perm qs _
theorem sortT_of {qs rs : List Txt} (h : qs.Perm rs) : sortT qs = sortT rs := mergeSort_of_perm h
theorem sortT_sorted (qs : List Txt) : (sortT qs).Pairwise (fun x y => x ≤ y) := by
  have := List.pairwise_mergeSort (le := leB) (fun a b c h1 h2 => by
    simp only [leB, decide_eq_true_eq] at h1 h2 ⊢
    exact List.le_trans h1 h2) (fun a b => by
    simp only [leB, Bool.or_eq_true, decide_eq_true_eq]
    exact List.le_total a b) qs
  exact this.imp (fun h => by simpa using h)
/-- the names of a segment in a ring, rising -/
def ofL (L : List E) (r s : Int) : List Txt := sortT (namesOf L r s)

theorem sort_any {base : Nat} {w : World} {v : Value} {qs : List Txt} (h : w.ownsRow base 9 1 v qs.length (vals qs)) (hl : qs.length < 1000000) :
    Calls Try.prog 22 #[v] w fun e w' => e = .returned (.tuple #[]) ∧ (∃ a cap, v = .slice a qs.length cap ∧ Lies base w' a (sortT qs)) ∧ ∀ B, B ≤ base → B ≤ w.heap.size → Below B w w' := by
  by_cases h0 : qs = []
  · subst h0
    rcases h.2 with ⟨rfl, _⟩ | ⟨g, cap, cur, rfl, _⟩
    · refine (Try.slices_Sort_string_none none 0 w).mono fun e w' ⟨h1, h2⟩ => ?_
      subst h2
      exact ⟨h1, ⟨none, 0, rfl, fun h => absurd h (by simp [sortT])⟩, fun _ _ _ => Below.refl _ _⟩
    · refine (Try.slices_Sort_string_none (some ⟨g, 0, none⟩) cap w).mono fun e w' ⟨h1, h2⟩ => ?_
      subst h2
      exact ⟨h1, ⟨_, cap, rfl, fun h => absurd h (by simp [sortT])⟩, fun _ _ _ => Below.refl _ _⟩
  · have h' := h
    rcases h.2 with ⟨_, e⟩ | ⟨g, cap, cur, rfl, hb, hg, r⟩
    · exact absurd (List.length_eq_zero_iff.1 e) h0
    · have hlt : g < w.heap.size := (Array.getElem?_eq_some_iff.1 hg).1
      have hH : Sort.Holds encStr w g 0 qs.toArray := by
        intro j hj
        have hj' : j < qs.length := by simpa using hj
        refine ⟨?_, ?_⟩
        · rw [Nat.zero_add, World.ownsRow.cellAt h' j (by omega), vals, List.getElem?_map, List.getElem?_eq_getElem hj']
          simp [hj', bs]
        · simp [World.frozen?, hg]
      refine (Try.slices_Sort_string g 0 cap qs w hH hlt (by omega)).mono fun e w' ⟨h1, n, os, h2⟩ => ?_
      have hlen : (sortT qs).length = qs.length := by simp [sortT]
      have hH2 : Sort.Holds encStr w' g 0 (sortT qs).toArray := by
        rw [h2]
        refine Sort.holds_grow _ _ _ _ _ _ (by simp; exact hlt) ?_
        exact Sort.holds_putRow _ _ _ _ qs.toArray (sortT qs).toArray hH (by simp [sortT])
      refine ⟨h1, ⟨_, cap, rfl, fun _ => ⟨g, rfl, hb, ?_, fun j p hj => ?_⟩⟩, fun B hB hB' => ?_⟩
      · rw [h2]
        simp
        omega
      · obtain ⟨hj', rfl⟩ := List.getElem?_eq_some_iff.1 hj
        have := (hH2 j (by simpa using hj')).1
        rw [Nat.zero_add] at this
        simpa [hj', bs] using this
      · rw [h2]
        refine ⟨rfl, rfl, rfl, by simp, fun i hi => ?_⟩
        rw [Sort.heap_grow_old _ _ (by simp; omega), heap_putRow _ _ _ _ _ _ (by omega)]
        rfl

/-! ### which names have come already -/

def doneOf (L : List E) (left : Lit → Bool) (r s : Int) : List Txt := (L.filter (fun x => isOf r s x && !left (kl x.ring x.name))).map (·.name)

theorem filter_more {L : List E} (h : Good L) {x : E} (hx : x ∈ L) {p q : E → Bool} (hp : p x = false) (hq : q x = true) (ho : ∀ y ∈ L, ¬ (y.ring = x.ring ∧ y.name = x.name) → q y = p y) : (L.filter q).Perm (L.filter p ++ [x]) := by
  have := h.one
  clear h
  induction L with
  | nil => cases hx
  | cons z l ih =>
    obtain ⟨h1, h2⟩ := List.pairwise_cons.1 this
    rcases List.mem_cons.1 hx with rfl | hx'
    · have e : l.filter q = l.filter p := List.filter_congr (fun y hy => ho y (by simp [hy]) (fun e => h1 y hy ⟨e.1.symm, e.2.symm⟩))
      rw [List.filter_cons, List.filter_cons, hp, hq, e]
      exact (List.perm_append_comm (l₁ := l.filter p) (l₂ := [x])).symm
    · have e := ho z (by simp) (h1 x hx')
      have := ih hx' (fun y hy => ho y (by simp [hy])) h2
      rw [List.filter_cons, List.filter_cons, e]
      cases p z
      · exact this
      · exact this.cons z

section
variable {L : List E} {left : Lit → Bool} {r s : Int} {x : E}
theorem left_same (h : Good L) (hx : x ∈ L) {y : E} (hy : y ∈ L) (hn : ¬ (y.ring = x.ring ∧ y.name = x.name)) : (left (kl y.ring y.name) && !(kl y.ring y.name).sameKey (kl x.ring x.name)) = left (kl y.ring y.name) := by
  rw [kl_same (h.key y hy) (h.key x hx)]
  have : (decide (y.ring = x.ring) && decide (y.name = x.name)) = false := by
    by_cases e : y.ring = x.ring
    · have : ¬ y.name = x.name := fun e' => hn ⟨e, e'⟩
      simp [this]
    · simp [e]
  rw [this]
  simp
theorem done_more (h : Good L) (hx : x ∈ L) (hl : left (kl x.ring x.name) = true) (ho : isOf r s x = true) : (doneOf L (fun z => left z && !z.sameKey (kl x.ring x.name)) r s).Perm (doneOf L left r s ++ [x.name]) := by
  unfold doneOf
  have := (filter_more h hx (p := fun y => isOf r s y && !left (kl y.ring y.name)) (q := fun y => isOf r s y && !(left (kl y.ring y.name) && !(kl y.ring y.name).sameKey (kl x.ring x.name))) (by simp [hl]) (by simp [ho, WideAt.sameKey_self (kl_key x.ring x.name)]) (fun y hy hn => by simp only [left_same h hx hy hn])).map (·.name)
  rw [List.map_append] at this
  exact this
theorem done_same (h : Good L) (hx : x ∈ L) (ho : isOf r s x = false) : doneOf L (fun z => left z && !z.sameKey (kl x.ring x.name)) r s = doneOf L left r s := by
  unfold doneOf
  congr 1
  refine List.filter_congr (fun y hy => ?_)
  by_cases e : y.ring = x.ring ∧ y.name = x.name
  · obtain rfl := one_at h hy hx e
    simp [ho]
  · simp only [left_same h hx hy e]
theorem done_end (hl : ∀ kl, left kl = false) : doneOf L left r s = namesOf L r s := by
  unfold doneOf namesOf
  congr 1
  exact List.filter_congr (fun y _ => by simp [hl])
theorem done_start {es : List (Lit × DataW Unit)} (hp : es.Perm (L.map enc)) (h : Good L) : doneOf L (Maps.has (.map es)) r s = [] := by
  unfold doneOf
  rw [List.filter_eq_nil_iff.2 (fun y hy => ?_)]
  · rfl
  · rw [MapL.has hp h (h.key y hy), get_mem h hy]
    simp
end

/-- what the range's loop keeps -/
def LoopL (w V : World) (p c : Nat) (es : List (Lit × DataW Unit)) (L : List E) (r s : Int) (v : Value) : Prop :=
  ∃ left cnt qs, V.ranges Try.prog 50 intR p w.heap.size c (.map es) left cnt ∧ V.ownsRow (w.heap.size + 1) 9 1 v qs.length (vals qs) ∧ Below w.heap.size w V ∧ (doneOf L left r s).Perm qs ∧ qs.length + cnt ≤ c

theorem row_kept {base : Nat} {V V' : World} {v : Value} {n : Nat} {xs : List Value} {r : Nat} (h : V.ownsRow base 9 1 v n xs) (hg : V.grownBy V' (some r)) (hr : r < base) : V'.ownsRow base 9 1 v n xs :=
  h.kept hg (by
    by_cases e : v.ownBlock = none
    · exact Or.inl e
    · refine Or.inr (fun e' => ?_)
      have := (World.ownsRow.lt h r e').1
      omega)

theorem ranges_grown {w V V' U : World} {p c : Nat} {D : DataW Unit} {left : Lit → Bool} {cnt n : Nat} {v : Value} {xs : List Value} (h : V.ranges Try.prog 50 intR p w.heap.size c D left cnt) (hg : V.grownBy V' v.ownBlock) (ho : U.ownsRow (w.heap.size + 1) 9 1 v n xs) (hp : p < w.heap.size) :
    V'.ranges Try.prog 50 intR p w.heap.size c D left cnt :=
  h.kept hg (fun e => by have := (World.ownsRow.lt ho p e.symm).1; omega) (fun e => by have := (World.ownsRow.lt ho _ e.symm).1; omega)

section
variable {w : World} {b : Nat} {F : Nat → Prop} {c : Nat} {L : List E}

set_option maxHeartbeats 4000000 in
theorem of_any (h : RfAt w b F c L) (r s : Int) (hc : c < 1000000) {n : Nat} (hn : (ofL L r s).length = n) :
    Calls Try.prog 14 #[RP b, .int .i64 r, .int .i64 s] w fun e w' => ∃ a cp, e = .returned (.slice a n cp) ∧ Lies w.heap.size w' a (ofL L r s) ∧ Below w.heap.size w w' := by
  obtain ⟨mp, h⟩ := h
  have hg := h.good
  have c0 := h.cell
  have HN := Lib.hid hn
  cases mp with
  | none =>
    have hL := h.none_ rfl
    subst hL
    obtain rfl : n = 0 := by rw [← hn, ofL, sortT_len]; rfl
    have hrg := run_range_nilMap (P := Try.prog) w 44 _ _ Try.underlying44
    have hnx : ∀ ty, (Instr.next (.pointer (some ⟨w.heap.size, 0, none⟩)) false ty).run Try.prog (w.alloc (.mapIter none 0 #[] 0)) = _ := fun ty => run_next_nilMap _ ty 0 0 #[]
    have HS := Try.slices_Sort_string_none none 0
    clear h hg hn
    go_enter Try.func14, Try.ntmps14
    go_wp2
    refine wp_loop_rounds 1 ?_
    rw [rounds_succ]
    go_wp2_with (go_at_call 22; ((with_reducible refine (HS _).mono ?_); rintro e w1 ⟨rfl, rfl⟩))
    go_ret
    exact ⟨none, 0, rfl, fun h => absurd h (by rw [ofL, sortT_len]; simp [namesOf]), one_new w _⟩
  | some p =>
    obtain ⟨es, hD, hp⟩ := h.some_ p rfl
    have hpl := hD.lt
    have hsD := hD.size_le
    have HD := Lib.hid hD
    have HP := Lib.hid hp
    have HG := Lib.hid hg
    obtain ⟨i0, hi, hz0, hz1, hz2⟩ := info_parts info_text
    have start : Hid ((doneOf L (Maps.has (.map es)) r s).Perm []) := Lib.hid (by rw [done_start hp hg])
    clear h hD hp hg hn
    go_enter Try.func14, Try.ntmps14
    go_wp2_with (first
      | (at_range; refine wpList_range_own _ rfl _ 44 rfl 50 3 lawRef Try.underlying44 intR p c (.map es) rfl HD.out ?_; intro w0 hrg0 hg0 hs0)
      | go_in)
    go_frame
    have H0 : Hid (LoopL w w0 p c es L r s (.slice none 0 0)) := Lib.hid ⟨_, _, [], hrg0, World.ownsRow_nil _ _ _ _, ⟨hg0.os, hg0.tape, hg0.output, hg0.size, fun i hi => hg0.block i hi (by simp)⟩, start.out, by simpa using hsD⟩
    clear hrg0 hg0 hs0 start HD
    go_loopw [7] (fun v V => Hid (LoopL w V p c es L r s v)) (fun _ V => V.rangeLeft p w.heap.size)
    case atStart => exact H0
    case round =>
      clear H0
      obtain ⟨left, cnt, qs, hrg, hown, hbel, hcome, hcnt⟩ := hrel.out
      have hsl := (show ∃ a cap, u7 = Value.slice a qs.length cap from by
        rcases hown.2 with ⟨rfl, e⟩ | ⟨g, cap, cur, rfl, _⟩
        · exact ⟨none, 0, by rw [e]⟩
        · exact ⟨_, cap, rfl⟩)
      obtain ⟨va, vc, rfl⟩ := hsl
      have HO := Lib.hid hown
      have HB := Lib.hid hbel
      have HC := Lib.hid hcome
      have HR := Lib.hid hrg
      clear hrel hown hbel hcome
      go_wp2_with (first
        | (at_next; refine wpList_next_ranges _ rfl _ rfl 50 lawRef intR (fun x : Int × Txt => KV x.1 x.2) (fun z : Int => Value.int .i64 z) (fun key l hkey => by obtain ⟨r, n, e, _⟩ := key_inv hkey; exact ⟨(r, n), e⟩) (fun v y hv => by obtain ⟨z, e, _⟩ := intR_is hv; exact ⟨z, e⟩) p w.heap.size c (.map es) left cnt rfl hrg ?_ ?_)
        | go_in)
      · intro _ hl0
        have HL0 := Lib.hid hl0
        clear hl0 hrg
        go_wp2_with (first
          | (go_at_call 22; ((refine (sort_any HO.out (by omega)).mono ?_); rintro e w3 ⟨rfl, hres, b3⟩; have R3 := Lib.hid hres; have B3 := Lib.hid b3; clear hres b3))
          | go_in)
        go_ret
        obtain ⟨a, cap, e, hgot⟩ := R3.out
        simp only [Value.slice.injEq, true_and] at e
        obtain ⟨rfl, rfl⟩ := e
        have hq : ofL L r s = sortT qs := by
          rw [ofL, ← done_end HL0.out]
          exact sortT_of HC.out
        have hn' := HN.out
        rw [hq, sortT_len] at hn'
        subst hn'
        exact ⟨va, vc, rfl, by rw [hq]; exact hgot.mono (Nat.le_succ _), HB.out.trans (B3.out _ (by omega) HB.out.size)⟩
      · intro r' n' v' l y1 y2 w1 cnt1 hkey hlx hv hat hrg1 hlt hg1 hs1 hen
        obtain ⟨r1, n1, ek, hk1, rfl⟩ := key_inv hkey
        obtain ⟨rfl, rfl⟩ := KV_inj ek
        obtain ⟨v1, ev, ey⟩ := intR_is hv
        cases ev
        cases ey
        have hmem : Hid ((⟨r', n', v'⟩ : E) ∈ L) := Lib.hid (by
          have h1 := Maps.has_true_of_atKey hat
          rw [MapL.has HP.out HG.out hk1] at h1
          obtain ⟨s1, h2⟩ := Option.isSome_iff_exists.1 h1
          have h3 := get_some h2
          have h4 := MapL.at_ hrg1.owns HP.out h3 .nil
          rw [hat] at h4
          simp only [DataW.lit.injEq, Lit.int.injEq, true_and] at h4
          rw [h4]
          exact h3)
        have O1 := Lib.hid (row_kept HO.out hg1 (by omega))
        have B1 := Lib.hid (HB.out.grown hg1 HB.out.size (fun k e => by cases e; exact Nat.le_refl _))
        have G1 := Lib.hid hrg1
        have LX : Hid (left (kl r' n') = true) := Lib.hid hlx
        clear hkey hlx hv hat hrg1 hrg hg1 hs1 ek
        cases ho : isOf r s ⟨r', n', v'⟩ with
        | true =>
          have ho' := ho
          simp only [isOf, Bool.and_eq_true, decide_eq_true_eq] at ho'
          obtain ⟨rfl, rfl⟩ := ho'
          have HOF := Lib.hid ho
          clear ho
          go_wp2_with (first
            | (at_builtin; refine wpList_append_own_at _ rfl (.tmp 31) (.tmp 34) 36 rfl (w.heap.size + 1) 9 i0 _ 1 16 Try.underlying36 hi hz0 hz1 hz2 rfl (by decide) _ qs.length (vals qs) rfl ((O1.out.alloc _).alloc _) ⟨w1.heap.size + 1, 0, none⟩ 1 1 [.string (bs n')] rfl rfl (one_text2 w1 _ n') (by simp [Value.oneCell']) (by unfold maxLen; omega) (by omega) (by have := B1.out.size; simp; omega) ?_; intro v' w2 h1 h2 _ h4; have O2 := Lib.hid h1; have G2 := Lib.hid h2; clear h1 h2 h4)
            | go_in)
          go_roundw
          case rel => exact Lib.hid ⟨_, cnt1, qs ++ [n'], ranges_grown ((G1.out.alloc _).alloc _) G2.out O1.out hpl, by rw [show (qs ++ [n']).length = qs.length + 1 by simp, show vals (qs ++ [n']) = vals qs ++ [.string (bs n')] by simp [vals]]; exact O2.out, ((B1.out.alloc B1.out.size _).alloc (by have := B1.out.size; simp; omega) _).grown G2.out (by have := B1.out.size; simp; omega) (fun k e => by have := (World.ownsRow.lt O1.out k e).1; omega), (done_more HG.out hmem.out LX.out HOF.out).trans (HC.out.append_right _), by simp; omega⟩
          case measure => rw [(ranges_grown ((G1.out.alloc _).alloc _) G2.out O1.out hpl).left_eq, HR.out.left_eq]; exact hlt
        | false =>
          have HOF := Lib.hid ho
          by_cases hr : r' = r
          · have er : (r' == r) = true := by simpa using hr
            have es' : (v' == s) = false := by
              simp only [isOf, hr] at ho
              simpa using ho
            clear ho hr
            go_wp2
            go_roundw
            case rel => exact Lib.hid ⟨_, cnt1, qs, G1.out.alloc _, O1.out.alloc _, B1.out.alloc B1.out.size _, by rw [done_same HG.out hmem.out HOF.out]; exact HC.out, by omega⟩
            case measure => rw [(G1.out.alloc _).left_eq, HR.out.left_eq]; exact hlt
          · have er : (r' == r) = false := by simpa using hr
            clear ho hr
            go_wp2
            go_roundw
            case rel => exact Lib.hid ⟨_, cnt1, qs, G1.out.alloc _, O1.out.alloc _, B1.out.alloc B1.out.size _, by rw [done_same HG.out hmem.out HOF.out]; exact HC.out, by omega⟩
            case measure => rw [(G1.out.alloc _).left_eq, HR.out.left_eq]; exact hlt

end

end Go.Proofs.Ytglbemdeboaheaa.Rf
