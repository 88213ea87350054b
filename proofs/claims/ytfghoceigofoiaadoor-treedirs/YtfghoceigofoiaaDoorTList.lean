/-
  Names: all names of a directory, by a range over a map and a sort.
-/
import Derived.Test.YtfghoceigofoiaaDoorTDelete
import Derived.Test.YtfghoceigofoiaaDoorShelf
import Derived.Maps.RangeWalk
import Derived.OpenShut
namespace Go.Proofs.YtfghoceigofoiaaDoor.T
open Go.ChangeShapes Go.WideShapes Go.ChangeAt Go.RowKit
open Go.Proofs.YtfghoceigofoiaaDoor.N (bs bs_data bs_size bs_inj)
open Go.Proofs.YtfghoceigofoiaaDoor.A (Tm TRow)

theorem rng_of {n : Int} (h : (Lit.int .i64 n).wf = true) : rng n := by
  have := bounds_i64 h
  unfold rng
  omega

set_option maxRecDepth 100000 in
/-- what a key is -/
theorem key_inv {v : Value} {l : Lit} (h : keyOf Tryd.prog 84 v = some l) : ∃ d s, v = .agg #[.int .i64 d, .string (bs s)] ∧ rng d ∧ s.length ≤ maxLen ∧ l = .string (keyBytes [.int .i64 d, .string s]) := by
  unfold keyOf at h
  rw [Tryd.underlying84] at h
  simp only [keyPlace, Bool.true_and] at h
  split at h
  · rename_i hf
    cases v with
    | agg xs =>
      have hx : xs.size = 2 := by simpa [Value.formed, Tryd.underlying84, cellsPlace] using hf
      obtain ⟨l0⟩ := xs
      match l0, hx with
      | [x0, x1], _ =>
        obtain ⟨n, hn⟩ : ∃ n, Tryd.prog.types.size = n + 2 := ⟨Tryd.prog.types.size - 2, by have := many; omega⟩
        rw [hn] at h
        simp [Program.keyLits, Tryd.underlying84, Tryd.underlying3, Tryd.underlying9, cellsPlace, cellsInt, cellsString, Value.cells] at h
        cases x0 with
        | int q d =>
          by_cases hq : q = .i64 ∧ (Lit.int .i64 d).wf = true
          · obtain ⟨rfl, hw⟩ := hq
            cases x1 with
            | string s =>
              by_cases hs : s.size ≤ maxLen
              · simp [hw, hs] at h
                exact ⟨d, s.data.toList, by rw [N.bs_of], rng_of hw, by rw [N.size_len]; exact hs, h.symm⟩
              · simp [hw, hs] at h
            | _ => simp [hw] at h
          · cases x1 <;> simp [hq] at h
        | _ => simp at h
    | _ => simp [Value.formed, Tryd.underlying84] at hf
  · cases h

theorem ptr_inv {v : Value} {y : DataW Unit × List MemPlace} (h : ptrR v = some y) : ∃ g, v = ptrOf g := by
  unfold ptrR at h
  split at h
  · exact ⟨none, rfl⟩
  · rename_i a
    split at h
    · rename_i hc
      exact ⟨some a.block, by rw [hc]; rfl⟩
    · cases h
  · cases h

/-- which names have come already -/
structure Come (P : Int × Txt → Option Nat) (d : Int) (left : Lit → Bool) (qs : List Txt) : Prop where
  nodup : qs.Nodup
  short : ∀ s ∈ qs, s.length ≤ maxLen
  mem : ∀ s, s.length ≤ maxLen → (s ∈ qs ↔ (P (d, s)).isSome = true ∧ left (kP.kl (d, s)) = false)

theorem kl_ne {d d' : Int} {s s' : Txt} (hd : rng d) (hs : s.length ≤ maxLen) (hd' : rng d') (hs' : s'.length ≤ maxLen) (h : (d, s) ≠ (d', s')) : kP.kl (d, s) ≠ kP.kl (d', s') := goodP.ne (k := (d', s')) (k' := (d, s)) ⟨hd', hs'⟩ ⟨hd, hs⟩ h
theorem kl_key (k : Int × Txt) : WideAt.IsKeyLit (kP.kl k) := trivial

theorem Come.other {P : Int × Txt → Option Nat} {d : Int} {left : Lit → Bool} {qs : List Txt} (h : Come P d left qs) (hd : rng d) {d' : Int} {s' : Txt} (hd' : rng d') (hs' : s'.length ≤ maxLen) (hne : d' ≠ d) : Come P d (fun z => left z && !z.sameKey (kP.kl (d', s'))) qs where
  nodup := h.nodup
  short := h.short
  mem := fun s hs => by
    have e : (kP.kl (d, s)).sameKey (kP.kl (d', s')) = false := Maps.sameKey_ne (kl_ne hd hs hd' hs' (fun e => hne (by cases e; rfl)))
    simp only [e, Bool.not_false, Bool.and_true]
    exact h.mem s hs
theorem Come.more {P : Int × Txt → Option Nat} {d : Int} {left : Lit → Bool} {qs : List Txt} (h : Come P d left qs) (hd : rng d) {s' : Txt} (hs' : s'.length ≤ maxLen) (hl : left (kP.kl (d, s')) = true) (hP : (P (d, s')).isSome = true) : Come P d (fun z => left z && !z.sameKey (kP.kl (d, s'))) (qs ++ [s']) where
  nodup := by
    rw [List.nodup_append]
    refine ⟨h.nodup, by simp, fun a ha b hb => ?_⟩
    rw [List.mem_singleton.1 hb]
    rintro rfl
    have := ((h.mem a hs').1 ha).2
    rw [hl] at this
    cases this
  short := fun s hs => by
    rcases List.mem_append.1 hs with hs | hs
    · exact h.short s hs
    · rw [List.mem_singleton.1 hs]
      exact hs'
  mem := fun s hs => by
    by_cases e : s = s'
    · subst e
      simp [hP, WideAt.sameKey_self (kl_key (d, s))]
    · have e' : (kP.kl (d, s)).sameKey (kP.kl (d, s')) = false := Maps.sameKey_ne (kl_ne hd hs hd hs' (fun h => e (by cases h; rfl)))
      simp only [e', Bool.not_false, Bool.and_true, List.mem_append, List.mem_singleton, e, or_false]
      exact h.mem s hs

/-- texts in memory that may be written -/
def Got (w V : World) (a : Option Addr) (qs : List Txt) : Prop :=
  qs ≠ [] → ∃ blk, a = some ⟨blk, 0, none⟩ ∧ w.heap.size ≤ blk ∧ blk < V.heap.size ∧ ∀ j (h : j < qs.length), V.cell? ⟨blk, j, none⟩ = some (.string (bs qs[j])) ∧ V.frozen? ⟨blk, j, none⟩ = false

theorem heap_putRow {α : Type} [Inhabited α] (enc : α → Value) (w : World) (blk off k : Nat) (d : Array α) (h : k ≠ blk) : (Sort.putRow enc w blk off d).heap[k]? = w.heap[k]? := by
  simp [Sort.putRow, Sort.mapBlock, Array.getElem?_modify, Ne.symm h]

/-- the texts, sorted -/
def sortT (qs : List Txt) : List Txt := qs.mergeSort fun x y => decide (x ≤ y)

theorem sortT_len (qs : List Txt) : (sortT qs).length = qs.length := by simp [sortT]
theorem sortT_perm (qs : List Txt) : (sortT qs).Perm qs := List.mergeSort_perm qs _
theorem sortT_sorted (qs : List Txt) : (sortT qs).Pairwise (fun x y => x ≤ y) := by
  have := List.pairwise_mergeSort (le := fun x y : Txt => decide (x ≤ y)) (fun a b c h1 h2 => by
    simp only [decide_eq_true_eq] at h1 h2 ⊢
    exact List.le_trans h1 h2) (fun a b => by
    simp only [Bool.or_eq_true, decide_eq_true_eq]
    exact List.le_total a b) qs
  exact this.imp (fun h => by simpa using h)

theorem sort_any {base : Nat} {w : World} {v : Value} {qs : List Txt} (h : w.ownsRow base 9 1 v qs.length (vals qs)) (hl : qs.length < 100000) :
    Calls Tryd.prog 37 #[v] w fun e w' => e = .returned (.tuple #[]) ∧ (∃ a cap, v = .slice a qs.length cap ∧ (qs ≠ [] → ∃ blk, a = some ⟨blk, 0, none⟩ ∧ base ≤ blk ∧ blk < w'.heap.size ∧ ∀ j (h : j < (sortT qs).length), w'.cell? ⟨blk, j, none⟩ = some (.string (bs (sortT qs)[j])) ∧ w'.frozen? ⟨blk, j, none⟩ = false)) ∧ ∀ B, B ≤ base → B ≤ w.heap.size → Below B w w' := by
  by_cases h0 : qs = []
  · subst h0
    rcases h.2 with ⟨rfl, _⟩ | ⟨g, cap, cur, rfl, _⟩
    · refine (Tryd.slices_Sort_string_none none 0 w).mono fun e w' ⟨h1, h2⟩ => ?_
      subst h2
      exact ⟨h1, ⟨none, 0, rfl, fun h => absurd rfl h⟩, fun _ _ _ => Below.refl _ _⟩
    · refine (Tryd.slices_Sort_string_none (some ⟨g, 0, none⟩) cap w).mono fun e w' ⟨h1, h2⟩ => ?_
      subst h2
      exact ⟨h1, ⟨_, cap, rfl, fun h => absurd rfl h⟩, fun _ _ _ => Below.refl _ _⟩
  · have h' := h
    rcases h.2 with ⟨_, e⟩ | ⟨g, cap, cur, rfl, hb, hg, r⟩
    · exact absurd (List.length_eq_zero_iff.1 e) h0
    · have hlt : g < w.heap.size := (Array.getElem?_eq_some_iff.1 hg).1
      have hH : Sort.Holds encStr w g 0 qs.toArray := by
        intro j hj
        have hj' : j < qs.length := by simpa using hj
        refine ⟨?_, ?_⟩
        · rw [Nat.zero_add, World.ownsRow.cellAt h' j (by omega), vals, List.getElem?_map, List.getElem?_eq_getElem hj']
          simp [hj', bs]
        · simp [World.frozen?, hg]
      refine (Tryd.slices_Sort_string g 0 cap qs w hH hlt (by omega)).mono fun e w' ⟨h1, n, os, h2⟩ => ?_
      have hlen : (sortT qs).length = qs.length := by simp [sortT]
      have hH2 : Sort.Holds encStr w' g 0 (sortT qs).toArray := by
        rw [h2]
        refine Sort.holds_grow _ _ _ _ _ _ (by simp; exact hlt) ?_
        exact Sort.holds_putRow _ _ _ _ qs.toArray (sortT qs).toArray hH (by simp [sortT])
      refine ⟨h1, ⟨_, cap, rfl, fun _ => ⟨g, rfl, hb, ?_, fun j hj => ?_⟩⟩, fun B hB hB' => ?_⟩
      · rw [h2]
        simp
        omega
      · have := hH2 j (by simpa using hj)
        rw [Nat.zero_add] at this
        simpa [hj, bs] using this
      · rw [h2]
        refine ⟨rfl, rfl, rfl, by simp, fun i hi => ?_⟩
        rw [Sort.heap_grow_old _ _ (by simp; omega), heap_putRow _ _ _ _ _ _ (by omega)]
        rfl

theorem one_text2 (w : World) (o : Obj) (y : Txt) : ∀ (j : Nat) (u : Value), [Value.string (bs y)][j]? = some u → ((w.alloc o).alloc (.cells #[.string (bs y)] 9)).cell? ((⟨w.heap.size + 1, 0, none⟩ : Addr).add j) = some u := by
  have := one_text (w.alloc o) y
  rw [show (w.alloc o).heap.size = w.heap.size + 1 by simp] at this
  exact this

/-- what the range's loop keeps -/
def LoopL (w V : World) (p c : Nat) (D : DataW Unit) (P : Int × Txt → Option Nat) (d : Int) (v : Value) : Prop :=
  ∃ left cnt qs, V.ranges Tryd.prog 84 ptrR p w.heap.size c D left cnt ∧ V.ownsRow (w.heap.size + 1) 9 1 v qs.length (vals qs) ∧ Below w.heap.size w V ∧ Come P d left qs ∧ qs.length + cnt ≤ c

theorem row_kept {base : Nat} {V V' : World} {v : Value} {n : Nat} {xs : List Value} {r : Nat} (h : V.ownsRow base 9 1 v n xs) (hg : V.grownBy V' (some r)) (hr : r < base) : V'.ownsRow base 9 1 v n xs :=
  h.kept hg (by
    by_cases e : v.ownBlock = none
    · exact Or.inl e
    · refine Or.inr (fun e' => ?_)
      have := (World.ownsRow.lt h r e').1
      omega)

theorem ranges_grown {w V V' U : World} {p c : Nat} {D : DataW Unit} {left : Lit → Bool} {cnt n : Nat} {v : Value} {xs : List Value} (h : V.ranges Tryd.prog 84 ptrR p w.heap.size c D left cnt) (hg : V.grownBy V' v.ownBlock) (ho : U.ownsRow (w.heap.size + 1) 9 1 v n xs) (hp : p < w.heap.size) :
    V'.ranges Tryd.prog 84 ptrR p w.heap.size c D left cnt :=
  h.kept hg (fun e => by have := (World.ownsRow.lt ho p e.symm).1; omega) (fun e => by have := (World.ownsRow.lt ho _ e.symm).1; omega)

section
variable {w : World} {b : Nat} {F : Nat → Prop} {c : Nat} {st : St}

theorem names_none (h : TreeAt w b F c st) {d : Int} (hd : rng d) (hz : (st.Z d).getD 0 = 0) :
    Calls Tryd.prog 19 #[TP b, .int .i64 d] w fun e w' => e = .returned (.slice none 0 0) ∧ w = w' := by
  have hl := len_at h hd hz
  go_enter Tryd.func19, Tryd.ntmps19
  go_wp2_with (go_at_call 20; ((with_reducible refine hl.mono ?_); rintro e w1 ⟨rfl, rfl⟩))
  go_ret
  exact ⟨rfl, rfl⟩

set_option maxHeartbeats 4000000 in
theorem names_at (h : TreeAt w b F c st) {d : Int} (hd : rng d) (hz : ¬ (st.Z d).getD 0 = 0) (hc : c < 100000) :
    Calls Tryd.prog 19 #[TP b, .int .i64 d] w fun e w' => ∃ a cp qs, e = .returned (.slice a qs.length cp) ∧ Got w w' a qs ∧ Below w.heap.size w w' ∧ qs.Nodup ∧ qs.Pairwise (fun x y => x ≤ y) ∧ (∀ s ∈ qs, s.length ≤ maxLen) ∧ ∀ s, s.length ≤ maxLen → (s ∈ qs ↔ (st.P (d, s)).isSome = true) := by
  have hl := len_at h hd rfl
  have ez : ((st.Z d).getD 0 == 0) = false := by simpa using hz
  obtain ⟨mp, mg, mz, av, nv, h⟩ := h
  obtain ⟨p, rfl⟩ : ∃ p, mp = some p := by
    rcases h.tabs with ⟨_, _, h3⟩ | ⟨p, g, z, h1, _⟩
    · rw [h.mapZ.1 h3 d] at hz
      exact absurd rfl hz
    · exact ⟨p, h1⟩
  obtain ⟨D, hD, hk⟩ := h.mapP.2 p rfl
  have hpl := hD.lt
  have hsD := hD.size_le
  have c1 := h.c1
  have HK := Lib.hid hk
  have HD := Lib.hid hD
  have HL := Lib.hid hl
  obtain ⟨i0, hi, hz0, hz1, hz2⟩ := info_parts info_text
  have start : Come st.P d (Maps.has D) [] := ⟨by simp, by simp, fun s hs => by
    simp only [List.not_mem_nil, false_iff, not_and, Bool.not_eq_false]
    intro hS
    obtain ⟨g, hg⟩ := Option.isSome_iff_exists.1 hS
    exact ((hk (d, s) ⟨hd, hs⟩).2 g hg).1⟩
  have HS := Lib.hid start
  clear h hk hD hl hz start
  generalize (st.Z d).getD 0 = zn at *
  go_enter Tryd.func19, Tryd.ntmps19
  go_wp2_with (first
    | (go_at_call 20; ((with_reducible refine HL.out.mono ?_); rintro e w1 ⟨rfl, rfl⟩))
    | (at_range; refine wpList_range_own _ rfl _ 63 rfl 84 69 lawPlace Tryd.underlying63 ptrR p c D rfl HD.out ?_; intro w0 hrg0 hg0 hs0)
    | go_in)
  go_frame
  have H0 : Hid (LoopL w w0 p c D st.P d (.slice none 0 0)) := Lib.hid ⟨_, _, [], hrg0, World.ownsRow_nil _ _ _ _, ⟨hg0.os, hg0.tape, hg0.output, hg0.size, fun i hi => hg0.block i hi (by simp)⟩, HS.out, by simpa using hsD⟩
  clear hrg0 hg0 hs0 HS HD
  go_loopw [5] (fun v V => Hid (LoopL w V p c D st.P d v)) (fun _ V => V.rangeLeft p w.heap.size)
  case atStart => exact H0
  case round =>
    clear H0
    obtain ⟨left, cnt, qs, hrg, hown, hbel, hcome, hcnt⟩ := hrel.out
    have hsl := (show ∃ a cap, u5 = Value.slice a qs.length cap from by
      rcases hown.2 with ⟨rfl, e⟩ | ⟨g, cap, cur, rfl, _⟩
      · exact ⟨none, 0, by rw [e]⟩
      · exact ⟨_, cap, rfl⟩)
    obtain ⟨va, vc, rfl⟩ := hsl
    have HO := Lib.hid hown
    have HB := Lib.hid hbel
    have HC := Lib.hid hcome
    have HG := Lib.hid hrg
    clear hrel hown hbel hcome
    go_wp2_with (first
      | (at_next; refine wpList_next_ranges _ rfl _ rfl 84 lawPlace ptrR (fun x : Int × Txt => Value.agg #[.int .i64 x.1, .string (bs x.2)]) ptrOf (fun key kl hkey => by obtain ⟨d', s', e, _⟩ := key_inv hkey; exact ⟨(d', s'), e⟩) (fun v y hv => ptr_inv hv) p w.heap.size c D left cnt rfl hrg ?_ ?_)
      | go_in)
    · intro _ hl0
      have HL0 := Lib.hid hl0
      clear hl0 hrg
      go_wp2_with (first
        | (go_at_call 37; ((refine (sort_any HO.out (by omega)).mono ?_); rintro e w3 ⟨rfl, hres, b3⟩; have R3 := Lib.hid hres; have B3 := Lib.hid b3; clear hres b3))
        | go_in)
      go_ret
      obtain ⟨a, cap, e, hgot⟩ := R3.out
      simp only [Value.slice.injEq, true_and] at e
      obtain ⟨rfl, rfl⟩ := e
      have hp := sortT_perm qs
      refine ⟨va, vc, sortT qs, by rw [sortT_len]; rfl, ?_, HB.out.trans (B3.out _ (by omega) HB.out.size), hp.nodup_iff.2 HC.out.nodup, sortT_sorted qs, fun s hs => HC.out.short s (hp.mem_iff.1 hs), fun s hs => ?_⟩
      · intro hne
        obtain ⟨blk, h1, h2, h3, h4⟩ := hgot (fun e => hne (by rw [e]; simp [sortT]))
        exact ⟨blk, h1, by omega, h3, h4⟩
      · rw [hp.mem_iff, HC.out.mem s hs, HL0.out]
        simp
    · intro d' s' gv kl y1 y2 w1 cnt1 hkey hlx hv hat hrg1 hlt hg1 hs1 hen
      obtain ⟨d1, s1, ek, hd1, hs1', rfl⟩ := key_inv hkey
      simp only [Value.agg.injEq, Array.mk.injEq, List.cons.injEq, Value.int.injEq, Value.string.injEq, true_and, and_true] at ek
      obtain ⟨rfl, e2⟩ := ek
      have e3 := bs_inj e2
      subst e3
      clear e2
      have hP : Hid ((st.P (d', s')).isSome = true) := Lib.hid (by
        cases hn : st.P (d', s') with
        | some _ => rfl
        | none =>
          have h1 := (HK.out (d', s') ⟨hd1, hs1'⟩).1 hn
          have h2 := Maps.has_true_of_atKey hat
          exact absurd (h2.symm.trans h1) (by simp))
      have O1 := Lib.hid (row_kept HO.out hg1 (by omega))
      have B1 := Lib.hid (HB.out.grown hg1 HB.out.size (fun k e => by cases e; exact Nat.le_refl _))
      have G1 := Lib.hid hrg1
      have LX : Hid (left (kP.kl (d', s')) = true) := Lib.hid hlx
      clear hkey hlx hv hat hrg1 hrg hg1 hs1
      by_cases hdd : d' = d
      · subst hdd
        go_wp2_with (first
          | (at_builtin; refine wpList_append_own_at _ rfl (.tmp 24) (.tmp 27) 45 rfl (w.heap.size + 1) 9 i0 _ 1 16 Tryd.underlying45 hi hz0 hz1 hz2 rfl (by decide) _ qs.length (vals qs) rfl ((O1.out.alloc _).alloc _) ⟨w1.heap.size + 1, 0, none⟩ 1 1 [.string (bs s')] rfl rfl (one_text2 w1 _ s') (by simp [Value.oneCell']) (by unfold maxLen; omega) (by omega) (by have := B1.out.size; simp; omega) ?_; intro v' w2 h1 h2 _ h4; have O2 := Lib.hid h1; have G2 := Lib.hid h2; clear h1 h2 h4)
          | go_in)
        go_roundw
        case rel => exact Lib.hid ⟨_, cnt1, qs ++ [s'], ranges_grown ((G1.out.alloc _).alloc _) G2.out O1.out hpl, by rw [show (qs ++ [s']).length = qs.length + 1 by simp, show vals (qs ++ [s']) = vals qs ++ [.string (bs s')] by simp [vals]]; exact O2.out, ((B1.out.alloc B1.out.size _).alloc (by have := B1.out.size; simp; omega) _).grown G2.out (by have := B1.out.size; simp; omega) (fun k e => by have := (World.ownsRow.lt O1.out k e).1; omega), HC.out.more hd hs1' LX.out hP.out, by simp; omega⟩
        case measure => rw [(ranges_grown ((G1.out.alloc _).alloc _) G2.out O1.out hpl).left_eq, HG.out.left_eq]; exact hlt
      · have ed : (d' == d) = false := by simpa using hdd
        have HDD := Lib.hid hdd
        clear hdd
        go_wp2
        go_roundw
        case rel => exact Lib.hid ⟨_, cnt1, qs, G1.out.alloc _, O1.out.alloc _, B1.out.alloc B1.out.size _, HC.out.other hd hd1 hs1' HDD.out, by omega⟩
        case measure => rw [(G1.out.alloc _).left_eq, HG.out.left_eq]; exact hlt

end

end Go.Proofs.YtfghoceigofoiaaDoor.T
