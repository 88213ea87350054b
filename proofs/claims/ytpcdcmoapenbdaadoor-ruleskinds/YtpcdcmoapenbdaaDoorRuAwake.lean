/-
  Find by rules in a tree under a law's hands; the document's example.
-/
import Derived.Test.YtpcdcmoapenbdaaDoorRuFind
import Derived.Test.YtpcdcmoapenbdaaDoorWSees
namespace Go.Proofs.YtpcdcmoapenbdaaDoor.T
open Go.ChangeShapes Go.WideShapes Go.ChangeAt Go.RowKit
open Go.Proofs.YtpcdcmoapenbdaaDoor.N (bs bs_data bs_size bs_inj bs_of Glob)
open Go.Proofs.YtpcdcmoapenbdaaDoor.A (Tm TRow)

theorem okL (l : List Ru) (h : l.all (fun r => decide (-1000 ≤ r.kind) && decide (r.kind ≤ 1000) && decide (r.path.length ≤ 1000)) = true) : ∀ r ∈ l, r.Ok := by
  intro r hr
  have := List.all_eq_true.1 h r hr
  simp at this
  unfold Ru.Ok rng maxLen
  omega

/-- a row of rules made at once -/
theorem row_lit (w : World) (l : List Ru) : G.Row kR (w.alloc (.cells (G.flat kR l).toArray 40)) (some ⟨w.heap.size, 0, none⟩) l.length l := by
  refine ⟨Nat.le_refl _, fun e => (by cases e), fun _ => ⟨w.heap.size, 0, rfl, by simp, fun j hj r u hu => ?_⟩⟩
  have hr : r < 2 := by have := (List.getElem?_eq_some_iff.1 hu).1; simpa [kR] using this
  have : (w.alloc (.cells (G.flat kR l).toArray 40)).heap[w.heap.size]? = some (.cells (G.flat kR l).toArray 40) := heap_alloc_new w _
  simp only [World.cell?, this]
  have hg := goodR.flat_get l j r hj hr
  rw [hu] at hg
  rw [Nat.zero_add, List.getElem?_toArray]
  exact hg

theorem own_terms {B : Nat} {V : World} {v : Value} {l : List Tm} (h : A.Own B V v l) : ∃ a' c', v = .slice a' l.length c' ∧ TRow V a' c' l := A.Own.row h

section
variable {w0 V : World} {b c : Nat} {L : Int → Txt → Option Br} {D : Int → Bool} {la : Int} {U : Int → Bool}

theorem has_rules (h : Has w0 V b c (Sees L D la U)) (hg : Glob w0) {a : Option Addr} {cc n : Nat} {l : List Ru} (hr : G.Row kR V a cc l) (hl : ∀ r ∈ l, r.Ok) (hn : l.length = n) (work : ByteArray) (fr : Int) (s : ByteArray) {E : Int} {y : Br} (hw : work.size ≤ 1000) (hf : rng fr) (hs : s.size ≤ 1000) (hR : findR L l work.data.toList fr s.data.toList = (E, y)) :
    Calls Tryd.prog 14 #[TP b, .slice a n cc, .string work, .int .i64 fr, .string s] V fun e w' => ∃ a' c', e = .returned (.tuple #[BrV y (.slice a' y.acl.length c'), .int .i64 E]) ∧ TRow w' a' c' y.acl ∧ Below V.heap.size V w' := by
  have hgV := h.glob hg
  obtain ⟨F, st, h1, h2, h3, h4⟩ := h
  have hml : ∀ t : ByteArray, t.size ≤ 1000 → t.data.toList.length ≤ maxLen := fun t ht => by rw [N.size_len]; unfold maxLen; omega
  have := find_rules h1 h2.links hgV hr hl hn (hml _ hw) hf (hml _ hs) rfl
  rw [bs_of, bs_of, h2.lk, hR] at this
  refine this.mono fun e w' ⟨a', c', he, ho, hb⟩ => ?_
  obtain ⟨a2, c2, e2, hr⟩ := own_terms ho
  cases e2
  exact ⟨a', c', he, hr, hb⟩

end

def awRu : List Ru := [⟨3, [62, 100]⟩, ⟨2, []⟩]
def awL14 : Int → Txt → Option Br := updL (updL (updL noL 0 [100] (dirN 1)) 1 [97] (litB 1 1 ⟨#[]⟩)) 0 [97] (litB 1 2 ⟨#[]⟩)
theorem aw_rules : findR awL14 awRu (⟨#[62]⟩ : ByteArray).data.toList (-1) (⟨#[97]⟩ : ByteArray).data.toList = (0, litB 1 1 ⟨#[]⟩) := by kernel_rfl
theorem aw_row (w : World) : G.Row kR (w.alloc (.cells #[.int .i64 3, .string ⟨#[62, 100]⟩, .int .i64 2, .string ⟨#[]⟩] 40)) (some ⟨w.heap.size, 0, none⟩) 2 awRu := row_lit w awRu
theorem rngm1 : rng (-1) := ⟨by omega, by omega⟩
theorem rng_1 : rng 1 := ⟨by omega, by omega⟩

set_option maxHeartbeats 1000000 in
theorem awake14_any {w : World} (hg : Glob w) : Calls Tryd.prog 7 #[] w fun e w' => e = .returned (.bool true) ∧ Below w.heap.size w w' := by
  have HG := Lib.hid hg
  clear hg
  go_enter Tryd.func7, Tryd.ntmps7
  go_wp2_with (first
    | (go_at_call 9; ((refine (has_new w).mono ?_); rintro e w1 ⟨rfl, h1, s1⟩))
    | (go_at_call 18; ((with_reducible refine (has_dir h1 0 ⟨#[100]⟩ rng0 rfl (by decide) rfl (lb := 1) rfl (by omega)).mono ?_); rintro e w2 ⟨rfl, h2, s2⟩))
    | (go_at_call 18; ((with_reducible refine (has_seg h2 1 ⟨#[97]⟩ 1 rng_1 rfl (by decide) rfl (by omega) (by omega) rfl (by omega)).mono ?_); rintro e w3 ⟨rfl, h3, s3⟩))
    | (go_at_call 18; ((with_reducible refine (has_seg h3 0 ⟨#[97]⟩ 2 rng0 rfl (by decide) rfl (by omega) (by omega) rfl (by omega)).mono ?_); rintro e w4 ⟨rfl, h4', s4⟩; have h4 : Has w w4 w.heap.size 13 (Sees awL14 (fun d' => decide (d' = 1) || rootD d') 1 fun u' => decide (u' = 2) || (decide (u' = 1) || false)) := h4'; clear h4'))
    | (go_at_call 14; ((with_reducible refine (has_rules (h4.alloc _) HG.out (aw_row w4) (okL _ rfl) (n := 2) rfl ⟨#[62]⟩ (-1) ⟨#[97]⟩ (by decide) rngm1 (by decide) aw_rules).mono ?_); rintro e w5 ⟨a5, c5, rfl, r5, b5⟩; have h5 := Lib.hid (((h4.alloc _).below b5).alloc (BrO (litB 1 1 ⟨#[]⟩) (.slice a5 (litB 1 1 ⟨#[]⟩).acl.length c5)))))
    | (go_at_call 12; ((refine (rulesMay_any (HG.out.below h5.out.bel) (G.Row.nil _) (okL [] rfl) (n := 0) rfl (B := true) rfl).mono ?_); rintro e w6 ⟨rfl, b6⟩; have h6 := Lib.hid (h5.out.below b6))))
  go_ret
  exact ⟨rfl, h6.out.bel⟩

end Go.Proofs.YtpcdcmoapenbdaaDoor.T
