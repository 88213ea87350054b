/-
  Find by rules in a tree under a law's hands; the document's example.
  What a search answers, in some box of its own: where a region draws whether the box or the search comes first.
-/
import Derived.Test.YtpcdcmoapenbdaaDoorRus
import Derived.Test.YtpcdcmoapenbdaaDoorWSees
import Derived.Test.YtpcdcmoapenbdaaDoorRuRefs
import Derived.Test.YtpcdcmoapenbdaaDoorWPlays
import Derived.Test.YtpcdcmoapenbdaaDoorMDos
import Derived.Test.YtpcdcmoapenbdaaDoorMOpens
namespace Go.Proofs.YtpcdcmoapenbdaaDoor.T
open Go.ChangeShapes Go.WideShapes Go.ChangeAt Go.RowKit
open Go.Proofs.YtpcdcmoapenbdaaDoor.N (bs bs_data bs_size bs_inj bs_of Glob)
open Go.Proofs.YtpcdcmoapenbdaaDoor.A (Tm TRow)

theorem okL (l : List Ru) (h : l.all (fun r => decide (-1000 ≤ r.kind) && decide (r.kind ≤ 1000) && decide (r.path.length ≤ 1000)) = true) : ∀ r ∈ l, r.Ok := by
  intro r hr
  have := List.all_eq_true.1 h r hr
  simp at this
  unfold Ru.Ok rng maxLen
  omega

/-- a row of rules made at once -/
theorem row_lit (w : World) (l : List Ru) : G.Row kR (w.alloc (.cells (G.flat kR l).toArray 40)) (some ⟨w.heap.size, 0, none⟩) l.length l := by
  refine ⟨Nat.le_refl _, fun e => (by cases e), fun _ => ⟨w.heap.size, 0, rfl, by simp, fun j hj r u hu => ?_⟩⟩
  have hr : r < 2 := by have := (List.getElem?_eq_some_iff.1 hu).1; simpa [kR] using this
  have : (w.alloc (.cells (G.flat kR l).toArray 40)).heap[w.heap.size]? = some (.cells (G.flat kR l).toArray 40) := heap_alloc_new w _
  simp only [World.cell?, this]
  have hg := goodR.flat_get l j r hj hr
  rw [hu] at hg
  rw [Nat.zero_add, List.getElem?_toArray]
  exact hg

theorem own_terms {B : Nat} {V : World} {v : Value} {l : List Tm} (h : A.Own B V v l) : ∃ a' c', v = .slice a' l.length c' ∧ TRow V a' c' l := A.Own.row h

section
variable {w0 V : World} {b c : Nat} {L : Int → Txt → Option Br} {D : Int → Bool} {la : Int} {U : Int → Bool}

theorem has_rules (h : Has w0 V b c (Sees L D la U)) (hg : Glob w0) {a : Option Addr} {cc n : Nat} {l : List Ru} (hr : G.Row kR V a cc l) (hl : ∀ r ∈ l, r.Ok) (hn : l.length = n) (work : ByteArray) (fr : Int) (s : ByteArray) {E : Int} {y : Br} (hw : work.size ≤ 1000) (hf : rng fr) (hs : s.size ≤ 1000) (hR : findR L l work.data.toList fr s.data.toList = (E, y)) :
    Calls Tryd.prog 14 #[TP b, .slice a n cc, .string work, .int .i64 fr, .string s] V fun e w' => ∃ a' c', e = .returned (.tuple #[BrV y (.slice a' y.acl.length c'), .int .i64 E]) ∧ TRow w' a' c' y.acl ∧ Below V.heap.size V w' := by
  have hgV := h.glob hg
  obtain ⟨F, st, h1, h2, h3, h4⟩ := h
  have hml : ∀ t : ByteArray, t.size ≤ 1000 → t.data.toList.length ≤ maxLen := fun t ht => by rw [N.size_len]; unfold maxLen; omega
  have := find_rules h1 h2.links hgV hr hl hn (hml _ hw) hf (hml _ hs) rfl
  rw [bs_of, bs_of, h2.lk, hR] at this
  refine this.mono fun e w' ⟨a', c', he, ho, hb⟩ => ?_
  obtain ⟨a2, c2, e2, hr⟩ := own_terms ho
  cases e2
  exact ⟨a', c', he, hr, hb⟩

end

def awRu : List Ru := [⟨3, [62, 100]⟩, ⟨2, []⟩]
def awL14 : Int → Txt → Option Br := updL (updL (updL noL 0 [100] (dirN 1)) 1 [97] (litB 1 1 ⟨#[]⟩)) 0 [97] (litB 1 2 ⟨#[]⟩)
theorem aw_rules : findR awL14 awRu (⟨#[62]⟩ : ByteArray).data.toList (-1) (⟨#[97]⟩ : ByteArray).data.toList = (0, litB 1 1 ⟨#[]⟩) := by kernel_rfl
theorem aw_row (w : World) : G.Row kR (w.alloc (.cells #[.int .i64 3, .string ⟨#[62, 100]⟩, .int .i64 2, .string ⟨#[]⟩] 40)) (some ⟨w.heap.size, 0, none⟩) 2 awRu := row_lit w awRu
theorem rngm1 : rng (-1) := ⟨by omega, by omega⟩
theorem rng_1 : rng 1 := ⟨by omega, by omega⟩

set_option maxHeartbeats 1000000 in
theorem awake14_any {w : World} (hg : Glob w) : Calls Tryd.prog 7 #[] w fun e w' => e = .returned (.bool true) ∧ Below w.heap.size w w' := by
  have HG := Lib.hid hg
  clear hg
  go_enter Tryd.func7, Tryd.ntmps7
  go_wp2_with (first
    | (go_at_call 9; ((refine (has_new w).mono ?_); rintro e w1 ⟨rfl, h1, s1⟩))
    | (go_at_call 18; ((with_reducible refine (has_dir h1 0 ⟨#[100]⟩ rng0 rfl (by decide) rfl (lb := 1) rfl (by omega)).mono ?_); rintro e w2 ⟨rfl, h2, s2⟩))
    | (go_at_call 18; ((with_reducible refine (has_seg h2 1 ⟨#[97]⟩ 1 rng_1 rfl (by decide) rfl (by omega) (by omega) rfl (by omega)).mono ?_); rintro e w3 ⟨rfl, h3, s3⟩))
    | (go_at_call 18; ((with_reducible refine (has_seg h3 0 ⟨#[97]⟩ 2 rng0 rfl (by decide) rfl (by omega) (by omega) rfl (by omega)).mono ?_); rintro e w4 ⟨rfl, h4', s4⟩; have h4 : Has w w4 w.heap.size 13 (Sees awL14 (fun d' => decide (d' = 1) || rootD d') 1 fun u' => decide (u' = 2) || (decide (u' = 1) || false)) := h4'; clear h4'))
    | (go_at_call 14; ((with_reducible refine (has_rules (h4.alloc _) HG.out (aw_row w4) (okL _ rfl) (n := 2) rfl ⟨#[62]⟩ (-1) ⟨#[97]⟩ (by decide) rngm1 (by decide) aw_rules).mono ?_); rintro e w5 ⟨a5, c5, rfl, r5, b5⟩; have h5 := Lib.hid (((h4.alloc _).below b5).alloc (BrO (litB 1 1 ⟨#[]⟩) (.slice a5 (litB 1 1 ⟨#[]⟩).acl.length c5)))))
    | (go_at_call 12; ((refine (rulesMay_any (HG.out.below h5.out.bel) (G.Row.nil _) (okL [] rfl) (n := 0) rfl (B := true) rfl).mono ?_); rintro e w6 ⟨rfl, b6⟩; have h6 := Lib.hid (h5.out.below b6))))
  go_ret
  exact ⟨rfl, h6.out.bel⟩

end Go.Proofs.YtpcdcmoapenbdaaDoor.T

namespace Go.Proofs.YtpcdcmoapenbdaaDoor.T
open Go.ChangeShapes Go.WideShapes Go.ChangeAt Go.RowKit
open Go.Proofs.YtpcdcmoapenbdaaDoor.N (bs bs_data bs_size bs_inj bs_of Glob)
open Go.Proofs.YtpcdcmoapenbdaaDoor.A (Tm TRow)

theorem trow_setB {V : World} {k : Nat} {y0 y : Br} {av : Value} {a : Option Addr} {c : Nat} {l : List Tm} (hX : BrAt V k y0 (.slice none 0 0)) (hr : TRow V a c l) : TRow (setBr V k y av) a c l := by
  refine ⟨hr.1, hr.2.1, fun h0 => ?_⟩
  obtain ⟨bk, o, e, hl, hc⟩ := hr.2.2 h0
  have hne : bk ≠ k := by
    rintro rfl
    obtain ⟨t0, t1, t2, t3⟩ := hc 0 h0
    unfold BrAt at hX
    simp only [World.cell?, hX, Nat.zero_mul, Nat.add_zero] at t0 t2
    have h10 : o < 10 := (Array.getElem?_eq_some_iff.1 t0).1
    obtain rfl | rfl | rfl | rfl | rfl | rfl | rfl | rfl | rfl | rfl : o = 0 ∨ o = 1 ∨ o = 2 ∨ o = 3 ∨ o = 4 ∨ o = 5 ∨ o = 6 ∨ o = 7 ∨ o = 8 ∨ o = 9 := by omega
    all_goals first
      | (simp at t0; done)
      | (simp at t2; done)
  refine ⟨bk, o, e, by rw [size_setBr]; exact hl, fun j hj => ?_⟩
  obtain ⟨t0, t1, t2, t3⟩ := hc j hj
  have hh := heap_setBr (w := V) hne y av
  exact ⟨(cell_of_heap hh).trans t0, (cell_of_heap hh).trans t1, (cell_of_heap hh).trans t2, (cell_of_heap hh).trans t3⟩

/-- boxes of noughts, as a region spells them -/
@[reducible] def ZbO : Obj := .cells #[.int .i64 0, .int .i64 0, .int .i64 0, .string ⟨#[]⟩, .bool false, .slice none 0 0, .int .i64 0, .int .i64 0, .int .i64 0, .int .i64 0] 42 (0, 0)
@[reducible] def ZdO : Obj := .cells #[.int .i64 0, .int .i64 0, .int .i64 0, .string ⟨#[]⟩, .bool false, .slice none 0 0, .int .i64 0, .int .i64 0, .int .i64 0, .int .i64 0] 36 (0, 0)
theorem zb_at (w : World) : BrAt (w.alloc ZbO) w.heap.size noBr (.slice none 0 0) := heap_alloc_new w _
theorem zd_at (w : World) : BmAt (w.alloc ZdO) w.heap.size noBr (.slice none 0 0) := heap_alloc_new w _

/-- two texts that lie there -/
@[reducible] def TC (V : World) (bk i j : Nat) (s t : Txt) : Prop := V.cell? ⟨bk, i, none⟩ = some (.string (bs s)) ∧ V.cell? ⟨bk, j, none⟩ = some (.string (bs t))
theorem tc_below {V V' : World} {bk i j : Nat} {s t : Txt} (h : TC V bk i j s t) (hl : bk < V.heap.size) (hb : Below V.heap.size V V') : TC V' bk i j s t :=
  ⟨(hb.cell (p := ⟨bk, i, none⟩) hl).trans h.1, (hb.cell (p := ⟨bk, j, none⟩) hl).trans h.2⟩
theorem tc_alloc {V : World} {bk i j : Nat} {s t : Txt} (h : TC V bk i j s t) (hl : bk < V.heap.size) (o : Obj) : TC (V.alloc o) bk i j s t := tc_below h hl (one_new V o)
theorem tc_set {V : World} {bk i j k : Nat} {s t : Txt} (h : TC V bk i j s t) (hk : bk ≠ k) (y : Br) (av : Value) : TC (setBr V k y av) bk i j s t :=
  ⟨(cell_of_heap (heap_setBr hk y av)).trans h.1, (cell_of_heap (heap_setBr hk y av)).trans h.2⟩

/-- answered in some box: the program's, the document's -/
def FC (W0 : World) (y : Br) (E : Int) (s t : Value) (W : World) : Prop :=
  ∃ k a c, s = .pointer (some ⟨k, 0, none⟩) ∧ t = .int .i64 E ∧ BrAt W k y (.slice a y.acl.length c) ∧ TRow W a c y.acl ∧ Below W0.heap.size W0 W
def FCm (W0 : World) (y : Br) (E : Int) (s t : Value) (W : World) : Prop :=
  ∃ k a c, s = .pointer (some ⟨k, 0, none⟩) ∧ t = .int .i64 E ∧ BmAt W k y (.slice a y.acl.length c) ∧ TRow W a c y.acl ∧ Below W0.heap.size W0 W

section
variable {W0 V : World} {y : Br} {E : Int} {a : Option Addr} {c : Nat}
theorem fc_new (hb : Below W0.heap.size W0 V) (hr : TRow V a c y.acl) : FC W0 y E (.pointer (some ⟨V.heap.size, 0, none⟩)) (.int .i64 E) (V.alloc (BrO y (.slice a y.acl.length c))) :=
  ⟨_, _, _, rfl, rfl, BrAt.new _ _ _, hr.below (one_new _ _), bel2 hb (one_new _ _)⟩
theorem fc_set {k : Nat} (hX : BrAt V k noBr (.slice none 0 0)) (hk : W0.heap.size ≤ k) (hb : Below W0.heap.size W0 V) (hr : TRow V a c y.acl) : FC W0 y E (.pointer (some ⟨k, 0, none⟩)) (.int .i64 E) (setBr V k y (.slice a y.acl.length c)) :=
  ⟨_, _, _, rfl, rfl, hX.stored _ _, trow_setB hX hr, Below.setBr hb hk _ _⟩
theorem fcm_new (hb : Below W0.heap.size W0 V) (hr : TRow V a c y.acl) : FCm W0 y E (.pointer (some ⟨V.heap.size, 0, none⟩)) (.int .i64 E) (V.alloc (BmO y (.slice a y.acl.length c))) :=
  ⟨_, _, _, rfl, rfl, BmAt.new _ _ _, hr.below (one_new _ _), bel2 hb (one_new _ _)⟩
theorem fcm_set {k : Nat} (hX : BmAt V k noBr (.slice none 0 0)) (hk : W0.heap.size ≤ k) (hb : Below W0.heap.size W0 V) (hr : TRow V a c y.acl) : FCm W0 y E (.pointer (some ⟨k, 0, none⟩)) (.int .i64 E) (setBr V k y (.slice a y.acl.length c)) :=
  ⟨_, _, _, rfl, rfl, hX.stored _ _, trow_set hX hr, Below.setBr hb hk _ _⟩
end

/-! ### both searches, trees side by side -/

section
variable {w0 V : World} {b bm : Nat} {K : List (Nat × Obj)} {c : Nat} {st : St} {m : Ms}
theorem two_rules (h : Two w0 V b bm K c st m) (hL : LinksOk st) (hg : Glob w0) {a : Option Addr} {cc n : Nat} {l : List Ru} (hr : G.Row kR V a cc l) (hl : ∀ r ∈ l, r.Ok) (hn : l.length = n) {work : Txt} (hw : work.length ≤ maxLen) {fr : Int} (hf : rng fr) {s : Txt} (hs : s.length ≤ maxLen) {E : Int} {y : Br} (hR : findR (lk st) l work fr s = (E, y)) :
    Calls Tryd.prog 14 #[TP b, .slice a n cc, .string (bs work), .int .i64 fr, .string (bs s)] V fun e w' => ∃ a' c', e = .returned (.tuple #[BrV y (.slice a' y.acl.length c'), .int .i64 E]) ∧ TRow w' a' c' y.acl ∧ Below V.heap.size V w' := by
  have hgV := hg.below h.bel
  obtain ⟨F, Fm, h⟩ := h
  exact (find_rules h.t hL hgV hr hl hn hw hf hs rfl).mono fun e w' hh => fol_row hR hh
theorem two_search (h : Two w0 V b bm K c st m) (hL : LinksM m) {a : Option Addr} {cc n : Nat} {l : List Ru} (hr : G.Row kR V a cc l) (hl : ∀ r ∈ l, r.Ok) (hn : l.length = n) {work : Txt} (hw : work.length ≤ maxLen) {fr : Int} {s : Txt} (hs : s.length ≤ maxLen) {E : Int} {y : Br} (hR : findR (lkM m) l work fr s = (E, y)) :
    Calls Tryd.prog 15 #[TP bm, .slice a n cc, .string (bs work), .int .i64 fr, .string (bs s)] V fun e w' => ∃ a' c', e = .returned (.tuple #[BrV y (.slice a' y.acl.length c'), .int .i64 E]) ∧ TRow w' a' c' y.acl ∧ Below V.heap.size V w' := by
  obtain ⟨F, Fm, h⟩ := h
  have := search_rules (s := s) (fr := fr) h.r hL hr hl hn hw hs rfl
  rw [hR] at this
  exact this

theorem hit_acl {L : Int → Txt → Option Br} (hL : ∀ d s y, L d s = some y → y.acl.length ≤ 1000000) {work : Txt} {fr : Int} {s : Txt} {r : Ru} {y : Br} (h : hit L work fr s r = some y) : y.acl.length ≤ 1000000 := by
  unfold hit at h
  by_cases h1 : (dirOf L r work fr).2 = 0
  · rw [if_pos h1] at h
    by_cases h2 : (wIn L (dirOf L r work fr).1 s).1 = 0 ∧ (wIn L (dirOf L r work fr).1 s).2.kind = 1
    · rw [if_pos h2] at h
      cases h
      exact fol_acl hL 8 _ _ (by simp [dirN])
    · rw [if_neg h2] at h
      cases h
  · rw [if_neg h1] at h
    cases h
theorem srch_acl {L : Int → Txt → Option Br} (hL : ∀ d s y, L d s = some y → y.acl.length ≤ 1000000) {work : Txt} {fr : Int} {s : Txt} : ∀ l : List Ru, (srch L work fr s l).2.acl.length ≤ 1000000
  | [] => by simp [srch, noBr]
  | r :: rs => by
    unfold srch
    cases h : hit L work fr s r with
    | some y => exact hit_acl hL h
    | none => exact srch_acl hL rs
theorem findR_acl {L : Int → Txt → Option Br} (hL : ∀ d s y, L d s = some y → y.acl.length ≤ 1000000) {l : List Ru} {work : Txt} {fr : Int} {s : Txt} {E : Int} {y : Br} (h : findR L l work fr s = (E, y)) : y.acl.length ≤ 1000000 := by
  unfold findR at h
  by_cases h1 : mayR l = true
  · rw [if_pos h1] at h
    by_cases h2 : N.may 32 s = true
    · rw [if_pos h2] at h
      have := srch_acl hL (work := work) (fr := fr) (s := s) l
      rw [h] at this
      exact this
    · rw [if_neg h2] at h
      cases h
      simp [noBr]
  · rw [if_neg h1] at h
    cases h
    simp [noBr]
end

end Go.Proofs.YtpcdcmoapenbdaaDoor.T
