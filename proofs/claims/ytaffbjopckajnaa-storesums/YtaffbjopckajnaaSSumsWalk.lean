/-
  The law StoreSums answers true: the words of all segments together are never more than the quota; what is dropped is free at once.
-/
import Derived.Test.YtaffbjopckajnaaSSteps
import Derived.Test.YtaffbjopckajnaaQue
import Derived.Deep.DeepCutAuto
import Derived.Deep.QuietTactic
import Derived.BigQuiet
namespace Go.Proofs.Ytaffbjopckajnaa.W
open Go.ChangeShapes Go.WideShapes Go.ChangeAt Go.RowKit

theorem info_int : (Try.prog.info? 3).map (fun i => (i.zero, i.size, i.bytes)) = some (some (.int .i64 0), 1, 8) := by kernel_rfl

/-- the law's own memory behind k rounds: a store, and a row of the segments that are on, with their sizes -/
structure SumL (w0 : World) (b : Nat) (W : World) (on : Value) (q u : Int) (k : Nat) (ps : List (Int × Int)) (F : Nat → Prop) (S : Int → Option (List Int)) (l : Int) (c : Nat) : Prop where
  st : StoreAt W b F q u l c S
  young : Young w0 W F
  que : Que w0.heap.size 3 .i64 W on (ps.map Prod.fst)
  out : ∀ g, on.ownBlock = some g → ¬ F g
  uq : u ≤ q
  l0 : 0 ≤ l
  lk : l ≤ k
  ck : c ≤ k
  len : ps.length ≤ k
  sum : u = (ps.map Prod.snd).sum
  at_ : ∀ p ∈ ps, 0 ≤ p.2 ∧ ∃ ws, S p.1 = some ws ∧ (ws.length : Int) = p.2
  nodup : (ps.map Prod.fst).Nodup
def SumAt (w0 : World) (b : Nat) (W : World) (on : Value) (q u : Int) (k : Nat) : Prop := ∃ ps F S l c, SumL w0 b W on q u k ps F S l c

theorem sum_nonneg : ∀ ps : List (Int × Int), (∀ p ∈ ps, 0 ≤ p.2) → 0 ≤ (ps.map Prod.snd).sum
  | [], _ => by simp
  | p :: r, h => by
    have h1 := h p (by simp)
    have h2 := sum_nonneg r (fun x hx => h x (by simp [hx]))
    simp
    omega

theorem StoreAt.num {w : World} {b : Nat} {F : Nat → Prop} {q u l : Int} {c : Nat} {S : Int → Option (List Int)} (h : StoreAt w b F q u l c S) {k : Int} {ws : List Int} (hS : S k = some ws) : 1 ≤ k ∧ k ≤ l ∧ ws.length ≤ 1024 := by
  obtain ⟨m, loc, h⟩ := h
  obtain ⟨_, _, r3, r4, r5⟩ := h.rows k ws hS
  exact ⟨r4, r5, r3⟩
theorem SumL.u0 {w0 : World} {b : Nat} {W : World} {on : Value} {q u : Int} {k : Nat} {ps : List (Int × Int)} {F : Nat → Prop} {S : Int → Option (List Int)} {l : Int} {c : Nat} (H : SumL w0 b W on q u k ps F S l c) : 0 ≤ u := by
  rw [H.sum]
  exact sum_nonneg ps (fun p hp => (H.at_ p hp).1)
theorem Que.went {base : Nat} {e : TypeId} {k : IntKind} {w w' : World} {v : Value} {xs : List Int} {F F' : Nat → Prop} (h : Que base e k w v xs) (hw : Went F w F' w') (ho : ∀ g, v.ownBlock = some g → ¬ F g) : Que base e k w' v xs :=
  h.keep (fun g hg => hw.block g (h.lt g hg).2 (ho g hg))

section
variable {w0 : World} {b : Nat} {W : World} {on : Value} {q u : Int} {k : Nat} {ps : List (Int × Int)} {F : Nat → Prop} {S : Int → Option (List Int)} {l : Int} {c : Nat}

theorem SumL.stay (H : SumL w0 b W on q u k ps F S l c) {w2 : World} (h2 : StoreAt w2 b F q u l c S) (hw : Went F W F w2) : SumL w0 b w2 on q u (k + 1) ps F S l c :=
  { st := h2, young := H.young.went hw, que := H.que.went hw H.out, out := H.out, uq := H.uq, l0 := H.l0, lk := by have := H.lk; omega, ck := by have := H.ck; omega, len := by have := H.len; omega, sum := H.sum, at_ := H.at_, nodup := H.nodup }

theorem SumL.cut {x sz : Int} (H : SumL w0 b W on q u k ((x, sz) :: ps) F S l c) {w2 w3 : World} {S2 : Int → Option (List Int)} (h2 : StoreAt w2 b F q (u - sz) l c S2) (g : Chg S x none S2) (hw : Went F W F w2) (h3 : Same w2 w3)
    {v : Value} (hv : Que w0.heap.size 3 .i64 W v (ps.map Prod.fst)) (ho : v.ownBlock = on.ownBlock) : SumL w0 b w3 v q (u - sz) (k + 1) ps F S2 l c := by
  have hw3 := hw.trans (h3.went F)
  have hsz := (H.at_ (x, sz) (by simp)).1
  have hout : ∀ g, v.ownBlock = some g → ¬ F g := fun g hg => H.out g (ho ▸ hg)
  have hnd := H.nodup
  simp only [List.map_cons, List.nodup_cons] at hnd
  obtain ⟨m, loc, h2'⟩ := h2
  exact {
    st := ⟨m, loc, h3.store h2'⟩
    young := H.young.went hw3
    que := hv.went hw3 hout
    out := hout
    uq := by have := H.uq; simp at hsz; omega
    l0 := H.l0
    lk := by have := H.lk; omega
    ck := by have := H.ck; omega
    len := by have := H.len; simp at this; omega
    sum := by have := H.sum; simp at this; omega
    at_ := fun p hp => by
      obtain ⟨p0, ws, e1, e2⟩ := H.at_ p (by simp [hp])
      refine ⟨p0, ws, ?_, e2⟩
      rw [g.off p.1 (fun e => hnd.1 (e ▸ List.mem_map_of_mem hp))]
      exact e1
    nodup := hnd.2 }

theorem SumL.push {n : Int} (H : SumL w0 b W on q u k ps F S l c) (n0 : 0 ≤ n) (n1 : n ≤ 1024) {w1 w2 : World} {F1 : Nat → Prop} {S1 : Int → Option (List Int)} (h1 : StoreAt w1 b F1 q (u + n) (l + 1) (c + 1) S1) (g : Chg S (l + 1) (some (List.replicate n.toNat 0)) S1) (hw : Went F W F1 w1) (hq : u + n ≤ q)
    {O : Obj} {v : Value} (hgr : (w1.alloc O).grownBy w2 on.ownBlock) (hv : Que w0.heap.size 3 .i64 w2 v (ps.map Prod.fst ++ [l + 1])) (ho : v.ownBlock = on.ownBlock ∨ v.ownBlock = some (w1.alloc O).heap.size) : SumL w0 b w2 v q (u + n) (k + 1) (ps ++ [(l + 1, n)]) F1 S1 (l + 1) (c + 1) := by
  have y1 := H.young.went hw
  have hout1 : ∀ g, on.ownBlock = some g → ¬ F1 g := fun g hg => hw.out (H.que.lt g hg).2 (H.out g hg)
  have hkeep : ∀ i, F1 i → w2.heap[i]? = w1.heap[i]? := fun i hi => by
    have hlt := h1.ltF i hi
    rw [hgr.block i (by simp; omega) (fun e => hout1 i e.symm hi)]
    exact heap_alloc_old w1 O hlt
  have hsz : w1.heap.size ≤ w2.heap.size := Nat.le_trans (by simp) hgr.size
  have fresh : ∀ p ∈ ps, p.1 ≠ l + 1 := fun p hp e => by
    obtain ⟨_, ws, e1, _⟩ := H.at_ p hp
    have := (H.st.num e1).2.1
    omega
  exact {
    st := h1.keep hsz hkeep
    young := ⟨y1.below.trans ⟨hgr.os, hgr.tape, hgr.output, hsz, fun i hi => by
      have hb := y1.below.size
      rw [hgr.block i (by simp; omega) (fun e => by have := (H.que.lt i e.symm).1; omega)]
      exact heap_alloc_old w1 O (by omega)⟩, y1.ge⟩
    que := by simpa using hv
    out := fun g hg => by
      rcases ho with ho | ho
      · exact hout1 g (ho ▸ hg)
      · rw [ho] at hg
        intro hf
        have := h1.ltF g hf
        simp at hg
        omega
    uq := hq
    l0 := by have := H.l0; omega
    lk := by have := H.lk; omega
    ck := by have := H.ck; omega
    len := by have := H.len; simp; omega
    sum := by have := H.sum; simp; omega
    at_ := fun p hp => by
      rcases List.mem_append.1 hp with hp | hp
      · obtain ⟨p0, ws, e1, e2⟩ := H.at_ p hp
        exact ⟨p0, ws, by rw [g.off p.1 (fresh p hp)]; exact e1, e2⟩
      · simp at hp
        subst hp
        exact ⟨n0, _, g.at_, by simp; omega⟩
    nodup := by
      simp only [List.map_append, List.map_cons, List.map_nil]
      rw [List.nodup_append]
      refine ⟨H.nodup, by simp, fun a ha b hb => ?_⟩
      simp at hb
      subst hb
      obtain ⟨p, hp, rfl⟩ := List.mem_map.1 ha
      exact fresh p hp }

end

/-- a number of a slice that came in, seen from a world behind -/
theorem nums_at {k : IntKind} {w W : World} {b o : Nat} {zs : List Int} (hc : ∀ i, i < zs.length → w.cell? ⟨b, o + i, none⟩ = some (.int k (zs.getD i 0))) (hb : Below w.heap.size w W) {i : Nat} (hi : i < zs.length) : W.cell? ⟨b, o + i, none⟩ = some (.int k (zs.getD i 0)) :=
  (hb.cell (p := ⟨b, o + i, none⟩) (World.block_lt_of_cell? w _ (hc i hi))).trans (hc i hi)

set_option maxRecDepth 8000 in
set_option maxHeartbeats 4000000 in
theorem sums_walk (q : Int) (q0 : 0 ≤ q) (q1 : q ≤ 255) (p : Option Addr) (cap : Nat) (zs : List Int) (w : World) (hN : NumsIn .u8 w p zs) (hm : zs.length ≤ 9223372036854775807) (hz : ∀ n ∈ zs, 0 ≤ n ∧ n ≤ 255) :
    Calls Try.prog 4 #[.int .u8 q, .slice p zs.length cap] w fun e w' => e = .returned (.bool true) ∧ Below w.heap.size w w' := by
  have HN := Lib.hid hN
  have HZ := Lib.hid hz
  clear hN hz
  by_cases h100 : 100 < zs.length
  · go_enter Try.func4, Try.ntmps4
    go_wp2_with (first
      | (go_at_call 7; ((with_reducible refine (awake_any w).mono ?_); rintro e wa ⟨rfl, ba⟩))
      | (go_at_call 8; ((with_reducible refine (new_at (q := q) (by omega) wa).mono ?_); rintro e wb ⟨rfl, hs0, bb, sb⟩)))
    go_ret
    exact ⟨rfl, ba.trans (bb.mono ba.size)⟩
  go_enter Try.func4, Try.ntmps4
  go_wp2_with (first
    | (go_at_call 7; ((with_reducible refine (awake_any w).mono ?_); rintro e wa ⟨rfl, ba⟩))
    | (go_at_call 8; ((with_reducible refine (new_at (q := q) (by omega) wa).mono ?_); rintro e wb ⟨rfl, hs0, bb, sb⟩)))
  have hstart : SumAt w wa.heap.size wb (.slice none 0 0) q 0 0 := ⟨[], _, _, 0, 0, {
    st := hs0, young := ⟨ba.trans (bb.mono ba.size), fun i hi => hi ▸ ba.size⟩, que := que_nil, out := fun g hg => by simp [Value.ownBlock] at hg
    uq := q0, l0 := by omega, lk := by simp, ck := by omega, len := by simp, sum := by simp, at_ := by simp, nodup := by simp }⟩
  clear hs0 bb sb
  go_loopw [6, 7, 8] (fun on sm i W => ∃ (k : Nat) (u : Int), k ≤ zs.length ∧ i = .int .i64 k ∧ sm = .int .i64 u ∧ SumAt w wa.heap.size W on q u k) (fun _ _ i _ => zs.length - (intOf i).toNat)
  case atStart => exact ⟨0, 0, by omega, rfl, rfl, hstart⟩
  case round =>
    clear hstart
    obtain ⟨k, u, hk, rfl, rfl, ps, F, S, l, c, H⟩ := hrel
    by_cases hlt : k < zs.length
    · obtain ⟨b, o, rfl, hc⟩ := HN.out (by omega)
      have hcell := nums_at hc H.young.below hlt
      obtain ⟨z0, z1⟩ := HZ.out (zs.getD k 0) (by simp [List.getD, hlt])
      generalize zs.getD k 0 = z at *
      clear hc
      have x0 : 0 ≤ z / 2 % 40 := by omega
      have x1 : z / 2 % 40 < 40 := by omega
      have u0 := H.u0
      have uq := H.uq
      have l0 := H.l0
      have lk := H.lk
      have ck := H.ck
      have hlen := H.len
      by_cases hodd : bits .and .u8 z 1 = 1
      · cases ps with
        | cons p1 ps =>
          obtain ⟨uid, sz⟩ := p1
          obtain ⟨g, off, cp, rfl, hcp, hx0, hcut1, hcut2⟩ := H.que.cut
          obtain ⟨sz0, ws, hS, hwl⟩ := H.at_ (uid, sz) (by simp)
          obtain ⟨d1, d2, d3⟩ := H.st.num hS
          simp only at hS hwl d1 d2 sz0
          have hsz := size_at H.st (k := uid) (by omega) (by omega) hS
          have hdr := drop_is H.st (k := uid) (u' := u - sz) (by omega) (by omega) hS u0 (by omega) (by omega)
          rw [hwl] at hsz
          go_wp2_with (first
            | (go_at_call 15; ((with_reducible refine hsz.mono ?_); rintro e w1 ⟨rfl, rfl⟩))
            | (go_at_call 13; ((with_reducible refine hdr.mono ?_); rintro e w1 ⟨rfl, S1, h1, g1, hw1⟩)))
          have i1 : (1 : Int) ≤ ((ps.map Prod.fst).length : Int) + 1 := by omega
          go_quiet (fail)
          go_wp2
          go_roundw
          case rel =>
            refine ⟨k + 1, u - sz, by omega, by go_num, rfl, ps, F, S1, l, c, ?_⟩
            rw [List.length_map] at hcut1 hcut2
            by_cases h1c : cp = 1
            · rw [if_pos h1c]
              exact H.cut h1 g1 hw1 (Same.drewN _ _) (hcut1 h1c) rfl
            · rw [if_neg h1c]
              exact H.cut h1 g1 hw1 (Same.drewN _ _) (hcut2 h1c) rfl
          case measure => simp [intOf]; omega
        | nil =>
          obtain ⟨pv, cp, hon, _⟩ := H.que.val
          rw [List.length_map, List.length_nil] at hon
          obtain ⟨i0, hi, hz0, hz1, hz2⟩ := info_parts info_int
          by_cases hfit : z / 2 % 40 ≤ q - u
          · have d1 : decide (u + z / 2 % 40 ≤ q) = true := decide_eq_true (by omega)
            have hmk := make_is H.st (n := z / 2 % 40) (by omega) (by omega) hfit (by omega) l0 (by omega) u0 uq (by omega) rfl rfl rfl
            subst hon
            go_wp2_with (first
              | (go_at_call 9; ((with_reducible refine hmk.mono ?_); rintro e w1 ⟨rfl, F1, S1, h1, g1, hw1⟩; have hq1 := (H.que.went hw1 H.out).below ((Below.refl _ _).alloc (Nat.le_refl _) (.cells #[.int .i64 (l + 1)] 3))))
              | (at_builtin; refine wpList_que rfl _ _ rfl Try.underlying37 hi hz0 hz1 hz2 (by omega) rfl hq1 (by simp) (by simp; have := (H.young.went hw1).below.size; omega) ⟨w1.heap.size, 0, none⟩ 1 rfl (l + 1) (by simp [Addr.add_lit, World.cell?_alloc_new]) ?_; intro v2 w2 hv2 hgr2 ho2; have HP := H.push (n := z / 2 % 40) (by omega) (by omega) h1 g1 hw1 (by omega) hgr2 hv2 ho2)
              | (go_at_call 14; ((with_reducible refine (used_at HP.st).mono ?_); rintro e w3 ⟨rfl, rfl⟩)))
            go_roundw
            case rel => exact ⟨k + 1, _, by omega, by go_num, rfl, _, _, _, _, _, HP⟩
            case measure => simp [intOf]; omega
          · have d1 : decide (u + z / 2 % 40 ≤ q) = false := decide_eq_false (by omega)
            have hmk := make_quota H.st (n := z / 2 % 40) (by omega) (by omega) (by omega) u0 uq (by omega)
            subst hon
            go_wp2_with (first
              | (go_at_call 9; ((with_reducible refine hmk.mono ?_); rintro e w1 ⟨rfl, h1, hw1⟩))
              | (go_at_call 14; ((with_reducible refine (used_at h1).mono ?_); rintro e w3 ⟨rfl, rfl⟩)))
            go_roundw
            case rel => exact ⟨k + 1, _, by omega, by go_num, rfl, _, _, _, _, _, H.stay h1 hw1⟩
            case measure => simp [intOf]; omega
      · have hodd' : (bits .and .u8 z 1 == 1) = false := by simpa using hodd
        obtain ⟨pv, cp, hon, _⟩ := H.que.val
        rw [List.length_map] at hon
        obtain ⟨i0, hi, hz0, hz1, hz2⟩ := info_parts info_int
        by_cases hfit : z / 2 % 40 ≤ q - u
        · have d1 : decide (u + z / 2 % 40 ≤ q) = true := decide_eq_true (by omega)
          have hmk := make_is H.st (n := z / 2 % 40) (by omega) (by omega) hfit (by omega) l0 (by omega) u0 uq (by omega) rfl rfl rfl
          subst hon
          go_wp2_with (first
            | (go_at_call 9; ((with_reducible refine hmk.mono ?_); rintro e w1 ⟨rfl, F1, S1, h1, g1, hw1⟩; have hq1 := (H.que.went hw1 H.out).below ((Below.refl _ _).alloc (Nat.le_refl _) (.cells #[.int .i64 (l + 1)] 3))))
            | (at_builtin; refine wpList_que rfl _ _ rfl Try.underlying37 hi hz0 hz1 hz2 (by omega) rfl hq1 (by simp; omega) (by simp; have := (H.young.went hw1).below.size; omega) ⟨w1.heap.size, 0, none⟩ 1 rfl (l + 1) (by simp [Addr.add_lit, World.cell?_alloc_new]) ?_; intro v2 w2 hv2 hgr2 ho2; have HP := H.push (n := z / 2 % 40) (by omega) (by omega) h1 g1 hw1 (by omega) hgr2 hv2 ho2)
            | (go_at_call 14; ((with_reducible refine (used_at HP.st).mono ?_); rintro e w3 ⟨rfl, rfl⟩)))
          go_roundw
          case rel => exact ⟨k + 1, _, by omega, by go_num, rfl, _, _, _, _, _, HP⟩
          case measure => simp [intOf]; omega
        · have d1 : decide (u + z / 2 % 40 ≤ q) = false := decide_eq_false (by omega)
          have hmk := make_quota H.st (n := z / 2 % 40) (by omega) (by omega) (by omega) u0 uq (by omega)
          subst hon
          go_wp2_with (first
            | (go_at_call 9; ((with_reducible refine hmk.mono ?_); rintro e w1 ⟨rfl, h1, hw1⟩))
            | (go_at_call 14; ((with_reducible refine (used_at h1).mono ?_); rintro e w3 ⟨rfl, rfl⟩)))
          go_roundw
          case rel => exact ⟨k + 1, _, by omega, by go_num, rfl, _, _, _, _, _, H.stay h1 hw1⟩
          case measure => simp [intOf]; omega
    · have d : decide ((k : Int) < (zs.length : Int)) = false := decide_eq_false (by omega)
      go_wp2
      go_ret
      exact ⟨rfl, H.young.below⟩

end Go.Proofs.Ytaffbjopckajnaa.W
