/-
  What object.Read answers, by the objects whose words stand there; and the document's example: awake answers true.
-/
import Derived.Test.YtnlohmkgkihldaaORead
namespace Go.Proofs.Ytnlohmkgkihldaa.W
open Go.ChangeShapes Go.WideShapes Go.ChangeAt Go.RowKit
open Go.Proofs.Ytnlohmkgkihldaa.N (bs bs_data bs_of bs_size may may_pos retB)

/-- Read's answer, for words whose lowest 36 bits are C -/
def RdIs (w : World) (C : List Int) (e : Ending) (w' : World) : Prop :=
  Below w.heap.size w w' ∧ ((∃ o q, May o ∧ wOb o = C ∧ e = .returned (.tuple #[OV q o, .int .i64 0]) ∧ ObIn w' q o) ∨ ((∀ o, May o → wOb o ≠ C) ∧ e = rNo))

theorem obRead_any {w : World} {a : Option Addr} {c : Nat} {zs : List Int} (hN : NumsIn .u64 w a zs) (hz : ∀ z ∈ zs, U64 z) (hcap : zs.length ≤ c) : Calls Try.prog 9 #[.slice a zs.length c] w (RdIs w (cutL zs)) := by
  have hw36 := cutL_36 zs
  have hno : sHead (cutL zs) = false → ∀ o, May o → wOb o ≠ cutL zs := fun h o ho e => by
    have := (s_read ho).1
    rw [e, h] at this
    cases this
  by_cases h5 : zs.length < 5
  · refine (obRead_few zs.length h5).mono fun e w' ⟨h1, h2⟩ => ⟨h2, Or.inr ⟨hno ?_, h1⟩⟩
    simp [sHead, cutL_len]
    omega
  by_cases h1 : 1024 < zs.length
  · refine (obRead_long zs.length h1).mono fun e w' ⟨h1, h2⟩ => ⟨h2, Or.inr ⟨hno ?_, h1⟩⟩
    simp [sHead, cutL_len]
    omega
  obtain ⟨b, o, rfl, hcell⟩ := hN (by omega)
  have hm := last_mask hz (by omega)
  cases hH : sHead (cutL zs) with
  | false =>
    refine (obRead_last zs.length (by omega) (by omega) _ (hcell (zs.length - 1) (by omega)) ?_).mono fun e w' ⟨h1, h2⟩ => ⟨h2, Or.inr ⟨hno hH, h1⟩⟩
    rw [hm]
    intro e
    simp only [sHead, cutL_len, e] at hH
    simp at hH
    omega
  | true =>
    have hW : Win w (some ⟨b, o, none⟩) c zs := ⟨hN, hz, hcap, by omega, Or.inr ⟨_, _, rfl⟩⟩
    refine (obRead_head rfl hW hH).mono fun e w' ⟨hB, hp⟩ => ⟨hB, ?_⟩
    rcases hp with ⟨h1, h2⟩ | ⟨h1, q, h2, h3⟩
    · refine Or.inr ⟨fun o ho e => ?_, h2⟩
      obtain ⟨-, hb, -⟩ := (sOk_iff hw36 o).2 ⟨ho, e⟩
      simp only [sBody, Bool.and_eq_true, Bool.not_eq_true', decide_eq_true_eq] at hb
      obtain ⟨b1, b2, b3, b4⟩ := hb
      rw [mayOb_parts] at b4
      simp only [Bool.and_eq_true] at b4
      rw [b1, b2, b4.1, b3] at h1
      simp at h1
    · simp only [Bool.or_eq_false_iff, decide_eq_false_iff_not, Bool.not_eq_false'] at h1
      obtain ⟨b1, b2, b3, b4⟩ := h1
      have hl : (s4 (cutL zs)).2.1 = [] := List.length_eq_zero_iff.1 (by omega)
      have hsz := sSize hw36 hH b1 b2 hl
      have hmay : mayOb (sOb (cutL zs)) = true := by rw [mayOb_parts, b4]; simpa using hsz
      exact Or.inl ⟨sOb (cutL zs), q, (may_iff _).1 hmay, sOb_is hw36 hH b1 b2 hl, h2, h3⟩

/-- .. of words that are an object's -/
theorem obRead_yes {w : World} {a : Option Addr} {c : Nat} {o : Ob} (ho : May o) (hN : NumsIn .u64 w a (wOb o)) (hcap : (wOb o).length ≤ c) {n : Nat} (hn : (wOb o).length = n) : Calls Try.prog 9 #[.slice a n c] w fun e w' => ∃ q, e = .returned (.tuple #[OV q o, .int .i64 0]) ∧ ObIn w' q o ∧ Below w.heap.size w w' := by
  subst hn
  have hb := wOb_bd ho
  refine (obRead_any hN (fun z hz => ⟨(hb z hz).1, by have := (hb z hz).2; omega⟩) hcap).mono fun e w' ⟨hB, h⟩ => ?_
  rw [cutL_id hb] at h
  rcases h with ⟨o', q, h1, h2, h3, h4⟩ | ⟨h1, -⟩
  · obtain rfl := wOb_inj h1 ho h2
    exact ⟨q, h3, h4, hB⟩
  · exact absurd rfl (h1 o ho)

theorem may_nil : May nilOb := by
  rw [← may_iff]
  decide
theorem fit_nil : Fit nilOb := ⟨by simp, by simp, by simp, by simp, by simp, by simp, by simp, by simp⟩
theorem nil_in (w : World) : ObIn w nilPl nilOb := ⟨fun h => by simp at h, fun h => by simp at h, fun h => by simp at h, fun h => by simp at h⟩
/-- what is handed over of a row of its own -/
theorem own_slice {base : Nat} {w : World} {v : Value} {xs : List Int} (h : OwnW base w v xs) : ∃ p c, v = .slice p xs.length c ∧ NumsIn .u64 w p xs ∧ xs.length ≤ c := by
  obtain ⟨hl, h⟩ := h
  rcases h with ⟨rfl, hn⟩ | ⟨g, cap, cur, e, hg, hh, hn, r⟩
  · have : xs = [] := List.length_eq_zero_iff.1 hn
    subst this
    exact ⟨none, 0, rfl, fun h => by simp at h, Nat.le_refl _⟩
  · have h' : OwnW base w v xs := ⟨hl, Or.inr ⟨g, cap, cur, e, hg, hh, hn, r⟩⟩
    subst e
    exact ⟨_, cap, rfl, own_nums h', hn⟩

set_option maxHeartbeats 1000000 in
theorem awake_any (w : World) : Calls Try.prog 8 #[] w fun e w' => e = .returned (.bool true) ∧ Below w.heap.size w w' := by
  have hw := fun V => obWords_yes nilPl nilOb V (nil_in V) fit_nil ((may_iff _).2 may_nil)
  have hm := fun V => obMay_any nilPl nilOb V (nil_in V) fit_nil
  rw [(may_iff _).2 may_nil] at hm
  change ∀ V, Calls Try.prog 14 #[OvNil] V (WYes nilOb V) at hw
  change ∀ V, Calls Try.prog 16 #[OvNil] V _ at hm
  have hw2 : ∀ V, Calls Try.prog 14 #[OvNil] V fun e w' => ∃ g o c, e = .returned (.tuple #[.slice (some ⟨g, o, none⟩) 5 c, .int .i64 0]) ∧ w'.cell? ⟨g, o + 4, none⟩ = some (.int .u64 45812815077) ∧ NumsIn .u64 w' (some ⟨g, o, none⟩) (wOb nilOb) ∧ 5 ≤ c ∧ Below V.heap.size V w' := fun V => (hw V).mono fun e w' ⟨v, h1, h2, h3⟩ => by
    obtain ⟨p, c, rfl, hn, hcp⟩ := own_slice h2
    obtain ⟨g, o, rfl, hcell⟩ := hn (by decide)
    exact ⟨g, o, c, h1, hcell 4 (by decide), hn, hcp, h3⟩
  have hrd : ∀ (V : World) (g o c : Nat), NumsIn .u64 V (some ⟨g, o, none⟩) (wOb nilOb) → 5 ≤ c → Calls Try.prog 9 #[.slice (some ⟨g, o, none⟩) 5 c] V fun e w' => ∃ q, e = .returned (.tuple #[OV q nilOb, .int .i64 0]) ∧ ObIn w' q nilOb ∧ Below V.heap.size V w' := fun V g o c hN hc => obRead_yes may_nil hN hc rfl
  have HRD := Lib.hid hrd
  clear hw hrd
  go_enter Try.func8, Try.ntmps8
  go_wp2_with (first
    | (go_at_call 14; ((with_reducible refine (hw2 _).mono ?_); rintro e w1 ⟨g, o, c, rfl, c4, hn, hcp, b1⟩; have HN := Lib.hid hn; have HCP := Lib.hid hcp; clear hn hcp))
    | (go_at_call 9; have q := HRD.out w1 g o c HN.out HCP.out; ((with_reducible refine q.mono ?_); clear q; rintro e w2 ⟨q, rfl, -, b2⟩; have k4 := (b2.cell (p := ⟨g, o + 4, none⟩) (World.block_lt_of_cell? w1 _ c4)).trans c4; have l4 := World.block_lt_of_cell? w2 _ k4; have k5 := (World.cell?_alloc_lt (w := w2) (o := OO q nilOb) (a := ⟨g, o + 4, none⟩) l4).trans k4))
    | (go_at_call 16; ((with_reducible refine (hm _).mono ?_); rintro e w3 ⟨rfl, b3⟩)))
  go_ret
  exact ⟨rfl, bel2 (bel2 (bel2 b1 b2) (one_new _ _)) b3⟩

end Go.Proofs.Ytnlohmkgkihldaa.W
