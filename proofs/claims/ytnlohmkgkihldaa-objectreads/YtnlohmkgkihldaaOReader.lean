/-
  The program's reader in memory: what fail, number and text do to it.
-/
import Derived.Test.YtnlohmkgkihldaaOWords
import Derived.Test.YtnlohmkgkihldaaOStrict
namespace Go.Proofs.Ytnlohmkgkihldaa.W
open Go.ChangeShapes Go.WideShapes Go.ChangeAt Go.RowKit
open Go.Proofs.Ytnlohmkgkihldaa.N (bs bs_data bs_of bs_size may may_pos retB)

/-- a slice of words with its room -/
structure Win (w : World) (a : Option Addr) (c : Nat) (L : List Int) : Prop where
  nums : NumsIn .u64 w a L
  u64 : ∀ z ∈ L, U64 z
  cap : L.length ≤ c
  len : L.length ≤ 2000
  nil : (a = none ∧ c = 0) ∨ ∃ g o, a = some ⟨g, o, none⟩
@[reducible] def RdO (a : Option Addr) (n c : Nat) (s : Bool) : Obj := .cells #[.slice a n c, .bool s] 55
@[reducible] def RdP (b : Nat) : Value := .pointer (some ⟨b, 0, none⟩)
/-- the reader at b, what is left in a block below B -/
def RdAt (B : Nat) (w : World) (b : Nat) (S : RS) : Prop := ∃ a c L, w.heap[b]? = some (RdO a L.length c S.2) ∧ Win w a c L ∧ cutL L = S.1 ∧ ∀ g o, a = some ⟨g, o, none⟩ → g < B

theorem grown_refl (w : World) (r : Option Nat) : w.grownBy w r := ⟨rfl, rfl, rfl, Nat.le_refl _, fun _ _ _ => rfl⟩
theorem grown_trans {w v u : World} {r : Option Nat} (h : w.grownBy v r) (h' : v.grownBy u r) : w.grownBy u r :=
  ⟨h'.os.trans h.os, h'.tape.trans h.tape, h'.output.trans h.output, Nat.le_trans h.size h'.size, fun k hk hr => (h'.block k (Nat.lt_of_lt_of_le hk h.size) hr).trans (h.block k hk hr)⟩
theorem grown_set (w : World) (b j : Nat) (v : Value) : w.grownBy (w.setCell ⟨b, j, none⟩ v) (some b) := ⟨rfl, rfl, rfl, by simp, fun k _ hr => Below.heap_setCell _ _ _ _ (fun e => hr (by rw [e]))⟩
theorem grown_of {w v : World} (h : Below w.heap.size w v) (r : Option Nat) : w.grownBy v r := ⟨h.os, h.tape, h.output, h.size, fun k hk _ => h.block k hk⟩
/-- what a call changed of memory from B on, seen from an elder world -/
theorem grown_below {B b : Nat} {w0 w v : World} (h0 : Below B w0 w) (hB : B ≤ w.heap.size) (h : w.grownBy v (some b)) (hb : B ≤ b) : Below B w0 v := h0.trans (below_grown h hB (fun g hg => by cases hg; exact hb))
theorem set_row {w : World} {b : Nat} {cs : Array Value} {t : TypeId} (h : w.heap[b]? = some (.cells cs t (0, 0))) (j : Nat) (v : Value) : (w.setCell ⟨b, j, none⟩ v).heap[b]? = some (.cells (cs.setIfInBounds j v) t (0, 0)) := by
  rw [setCell_eq_setRow w b j cs t (0, 0) v h]
  exact setRow_heap w b cs _ t _ h
theorem NumsIn.set {k : IntKind} {w : World} {a : Option Addr} {L : List Int} {b j : Nat} {v : Value} (h : NumsIn k w a L) (hb : ∀ o, a ≠ some ⟨b, o, none⟩) : NumsIn k (w.setCell ⟨b, j, none⟩ v) a L := fun h0 => by
  obtain ⟨g, o, e, hc⟩ := h h0
  refine ⟨g, o, e, fun i hi => ?_⟩
  rw [World.cell?_setCell_other (h := fun e2 => hb o (by have e3 : b = g := congrArg Addr.block e2; rw [e, e3]))]
  exact hc i hi
theorem grown_nums {k : IntKind} {w w' : World} {a : Option Addr} {L : List Int} {b : Nat} (h : NumsIn k w a L) (hg : w.grownBy w' (some b)) (hb : ∀ o, a ≠ some ⟨b, o, none⟩) : NumsIn k w' a L := fun h0 => by
  obtain ⟨g, o, e, hc⟩ := h h0
  refine ⟨g, o, e, fun i hi => ?_⟩
  exact hg.cell (hc i hi) (fun e2 => hb o (by have e3 : g = b := Option.some.inj e2; rw [e, e3]))
theorem Win.below {w w' : World} {a : Option Addr} {c : Nat} {L : List Int} (h : Win w a c L) (hb : Below w.heap.size w w') : Win w' a c L := ⟨h.nums.below hb, h.u64, h.cap, h.len, h.nil⟩
theorem RdAt.below {B : Nat} {w w' : World} {b : Nat} {S : RS} (h : RdAt B w b S) (hb : Below w.heap.size w w') : RdAt B w' b S := by
  obtain ⟨a, c, L, hh, hw, hc, hB⟩ := h
  exact ⟨a, c, L, (hb.block b (Array.getElem?_eq_some_iff.1 hh).1).trans hh, hw.below hb, hc, hB⟩
theorem RdAt.lt {B : Nat} {w : World} {b : Nat} {S : RS} (h : RdAt B w b S) : b < w.heap.size := by
  obtain ⟨a, c, L, hh, -⟩ := h
  exact (Array.getElem?_eq_some_iff.1 hh).1
/-- what is left lies in another block than the reader -/
theorem win_apart {w : World} {a : Option Addr} {n c : Nat} {L : List Int} {s : Bool} {b : Nat} (hh : w.heap[b]? = some (RdO a n c s)) (hw : Win w a c L) (h0 : 0 < L.length) : ∀ o, a ≠ some ⟨b, o, none⟩ := by
  intro o e
  obtain ⟨g, o', e', hc⟩ := hw.nums h0
  rw [e'] at e
  cases e
  have := hc 0 h0
  rw [cell_of_row _ _ _ _ _ _ hh] at this
  match o, this with
  | 0, h => cases h
  | 1, h => cases h
  | k + 2, h => simp at h
theorem win_nil {w : World} : Win w none 0 [] := ⟨fun h => by simp at h, by simp, Nat.le_refl _, by simp, Or.inl ⟨rfl, rfl⟩⟩
/-- .. and what a cut of its first words leaves -/
theorem Win.cut {w : World} {b o c : Nat} {L : List Int} (h : Win w (some ⟨b, o, none⟩) c L) {n : Nat} (hn : n ≤ L.length) : Win w (if c = n then some ⟨b, o, none⟩ else some ⟨b, o + n, none⟩) (c - n) (L.drop n) := by
  refine ⟨fun h0 => ?_, fun z hz => h.u64 z (List.mem_of_mem_drop hz), by have := h.cap; simp; omega, by have := h.len; simp; omega, Or.inr (by split <;> exact ⟨_, _, rfl⟩)⟩
  simp at h0
  have := h.cap
  obtain ⟨g, o', e, hc⟩ := h.nums (by omega)
  cases e
  rw [if_neg (by omega)]
  refine ⟨_, _, rfl, fun i hi => ?_⟩
  simp at hi
  rw [Nat.add_assoc, hc (n + i) (by omega)]
  simp [List.getD]

theorem fail_any {B : Nat} {w : World} {b : Nat} {S : RS} (h : RdAt B w b S) : Calls Try.prog 27 #[RdP b] w fun e w' => e = .returned (.tuple #[]) ∧ RdAt B w' b ([], true) ∧ w.grownBy w' (some b) := by
  obtain ⟨a, c, L, hh, hw, hc, hB⟩ := h
  have c0 : w.cell? ⟨b, 0, none⟩ = some (.slice a L.length c) := by rw [cell_of_row _ _ _ _ _ _ hh]; rfl
  have c1 : w.cell? ⟨b, 1, none⟩ = some (.bool S.2) := by rw [cell_of_row _ _ _ _ _ _ hh]; rfl
  have f0 : w.frozen? ⟨b, 0, none⟩ = false := by simp [World.frozen?, hh]
  have f1 : w.frozen? ⟨b, 1, none⟩ = false := by simp [World.frozen?, hh]
  have HH := Lib.hid hh
  clear hh hw hc
  go_enter Try.func27, Try.ntmps27
  go_wp2
  refine bodyPost_end (v := .tuple #[]) (by simp [results, Try.results27]) rfl ?_
  exact ⟨rfl, ⟨none, 0, [], set_row (set_row HH.out 0 _) 1 _, win_nil, rfl, fun _ _ e => by cases e⟩, grown_trans (grown_set _ _ _ _) (grown_set _ _ _ _)⟩

theorem Win.set {w : World} {a : Option Addr} {c : Nat} {L : List Int} {b j : Nat} {v : Value} (h : Win w a c L) (hb : 0 < L.length → ∀ o, a ≠ some ⟨b, o, none⟩) : Win (w.setCell ⟨b, j, none⟩ v) a c L :=
  ⟨fun h0 => (h.nums.set (hb h0)) h0, h.u64, h.cap, h.len, h.nil⟩
/-- the first n words cut off -/
theorem rd_cut {B : Nat} {w : World} {b g o c : Nat} {L : List Int} {s : Bool} (hh : w.heap[b]? = some (RdO (some ⟨g, o, none⟩) L.length c s)) (hw : Win w (some ⟨g, o, none⟩) c L) (hgB : g < B) {n : Nat} (hn : n ≤ L.length) {m : Nat} (hm : L.length - n = m) {k : Nat} (hk : c - n = k) :
    (c ≠ n → RdAt B (w.setCell ⟨b, 0, none⟩ (.slice (some ⟨g, o + n, none⟩) m k)) b ((cutL L).drop n, s)) ∧ (c = n → RdAt B (w.setCell ⟨b, 0, none⟩ (.slice (some ⟨g, o, none⟩) m k)) b ((cutL L).drop n, s)) := by
  subst hm hk
  have ha := win_apart hh hw
  have hd := hw.cut hn
  have hl : (L.drop n).length = L.length - n := by simp
  refine ⟨fun hc => ?_, fun hc => ?_⟩
  · rw [if_neg hc] at hd
    refine ⟨_, _, L.drop n, by rw [hl]; exact set_row hh 0 _, hd.set (fun h1 o' e => ?_), cutL_drop _ _, fun g' o' e => by cases e; exact hgB⟩
    cases e
    exact ha (by simp at h1; omega) _ rfl
  · rw [if_pos hc] at hd
    refine ⟨_, _, L.drop n, by rw [hl]; exact set_row hh 0 _, hd.set (fun h1 o' e => ?_), cutL_drop _ _, fun g' o' e => by cases e; exact hgB⟩
    cases e
    exact ha (by simp at h1; omega) _ rfl

theorem cutL_nil {L : List Int} (h : cutL L = []) : L = [] := List.length_eq_zero_iff.1 (by rw [← cutL_len, h]; rfl)
theorem cutL_cons {L : List Int} {z : Int} {r : List Int} (h : cutL L = z :: r) : ∃ y L', L = y :: L' ∧ ((y.toNat % 68719476736 : Nat) : Int) = z ∧ cutL L' = r := by
  cases L with
  | nil => simp [cutL] at h
  | cons y L' =>
    simp only [cutL, List.map_cons, List.cons.injEq] at h
    exact ⟨y, L', rfl, h.1, h.2⟩
theorem mask_is {y : Int} (h : U64 y) : bits .and .u64 y 68719476735 = ((y.toNat % 68719476736 : Nat) : Int) := by
  obtain ⟨h0, h1⟩ := h
  rw [mask_int _ h0 h1]
  omega

set_option maxHeartbeats 1000000 in
theorem number_rd {B : Nat} {w : World} {b : Nat} {S : RS} (h : RdAt B w b S) : Calls Try.prog 18 #[RdP b] w fun e w' => e = .returned (.int .i64 (pN S).1) ∧ RdAt B w' b (pN S).2 ∧ w.grownBy w' (some b) := by
  have hfl := fail_any h
  obtain ⟨a, c, L, hh, hw, hc, hB⟩ := h
  have c0 : w.cell? ⟨b, 0, none⟩ = some (.slice a L.length c) := by rw [cell_of_row _ _ _ _ _ _ hh]; rfl
  have f0 : w.frozen? ⟨b, 0, none⟩ = false := by simp [World.frozen?, hh]
  have HH := Lib.hid hh
  obtain ⟨C, s⟩ := S
  simp only at hc
  cases C with
  | nil =>
    obtain rfl := cutL_nil hc
    clear hh hw hc
    go_enter Try.func18, Try.ntmps18
    go_wp2_with (go_at_call 27; (refine hfl.mono ?_); rintro e w1 ⟨rfl, h1, g1⟩)
    go_ret
    exact ⟨rfl, h1, g1⟩
  | cons z r =>
    obtain ⟨y, L', rfl, hy, hr⟩ := cutL_cons hc
    have hU : U64 y := hw.u64 y (by simp)
    have hm := mask_is hU
    rw [hy] at hm
    obtain ⟨g, o, rfl, hcell⟩ := hw.nums (by simp)
    have y0 : w.cell? ⟨g, o, none⟩ = some (.int .u64 y) := hcell 0 (by simp)
    have i1 : (0 : Int) < ((y :: L').length : Int) := by rw [List.length_cons]; omega
    have t0 : (((y :: L').length : Int) == 0) = false := beq_eq_false_iff_ne.2 (by omega)
    have HA := Lib.hid (win_apart hh hw (by simp))
    have HW := Lib.hid hw
    rw [pN_cons]
    by_cases hz : z > 262143
    · rw [if_pos hz]
      have hd : decide (bits .and .u64 y 68719476735 > 262143) = true := by rw [hm]; exact decide_eq_true hz
      clear hh hw hc hm hy hcell hr hU
      generalize (y :: L').length = n at *
      go_enter Try.func18, Try.ntmps18
      go_wp2_with (go_at_call 27; (refine hfl.mono ?_); rintro e w1 ⟨rfl, h1, g1⟩)
      go_ret
      exact ⟨rfl, h1, g1⟩
    · rw [if_neg hz]
      have hd : decide (bits .and .u64 y 68719476735 > 262143) = false := by rw [hm]; exact decide_eq_false hz
      have z0 : 0 ≤ z := by omega
      have HM := Lib.hid (show wrap64 (bits .and .u64 y 68719476735) = z by rw [hm]; unfold wrap64; omega)
      have hn : (y :: L').length = L'.length + 1 := rfl
      have hk := fun k => rd_cut (k := k) hh hw (hB _ _ rfl) (n := 1) (by simp) (m := L'.length) (by simp)
      have hd1 : (cutL (y :: L')).drop 1 = r := by rw [hc]; rfl
      rw [hd1] at hk
      have HK := Lib.hid hk
      have hcp := hw.cap
      rw [hn] at c0 hcp
      clear hh hw hc hm hy hcell hr hU hfl i1 t0 hn HA HW HH hk hd1
      have i1 : (0 : Int) < ((L'.length + 1 : Nat) : Int) := by omega
      have t0 : (((L'.length + 1 : Nat) : Int) == 0) = false := beq_eq_false_iff_ne.2 (by omega)
      go_enter Try.func18, Try.ntmps18
      by_cases hc1 : c = 1
      · have K2 := Lib.hid ((HK.out 0 (by rw [hc1])).2 hc1)
        subst hc1
        have hL0 : L'.length = 0 := by omega
        rw [hL0] at K2
        go_wp2
        go_ret
        exact ⟨by rw [HM.out]; rfl, K2.out, grown_set _ _ _ _⟩
      · have K2 := Lib.hid ((HK.out _ rfl).1 hc1)
        go_wp2
        go_ret
        exact ⟨by rw [HM.out]; rfl, K2.out, grown_set _ _ _ _⟩

end Go.Proofs.Ytnlohmkgkihldaa.W
