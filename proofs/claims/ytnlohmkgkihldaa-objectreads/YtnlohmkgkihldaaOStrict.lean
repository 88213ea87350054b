/-
  The program's reader of objects as a plain function over words of 36 bits: numbers, texts, words, definitions, links, each taken off the beginning of what is left; and that it answers an object just where the words are those of one that may be. No program is named here.
-/
import Derived.Test.YtnlohmkgkihldaaOLim
namespace Go.Proofs.Ytnlohmkgkihldaa.W
open Go.Proofs.Ytnlohmkgkihldaa.N (may may_pos)
open Classical

/-- the lowest 36 bits of each word -/
def cutL (l : List Int) : List Int := l.map fun z => ((z.toNat % 68719476736 : Nat) : Int)
/-- words of 36 bits -/
def W36 (l : List Int) : Prop := ∀ z ∈ l, 0 ≤ z ∧ z ≤ 68719476735
theorem cutL_36 (l : List Int) : W36 (cutL l) := by
  intro z hz
  obtain ⟨y, _, rfl⟩ := List.mem_map.1 hz
  have := Nat.mod_lt y.toNat (show 68719476736 > 0 by omega)
  omega
theorem cutL_len (l : List Int) : (cutL l).length = l.length := by simp [cutL]
theorem cutL_drop (l : List Int) (n : Nat) : cutL (l.drop n) = (cutL l).drop n := by simp [cutL, List.map_drop]
theorem cutL_take (l : List Int) (n : Nat) : cutL (l.take n) = (cutL l).take n := by simp [cutL, List.map_take]
theorem cutL_app (a b : List Int) : cutL (a ++ b) = cutL a ++ cutL b := by simp [cutL]
theorem cutL_at (l : List Int) (i : Nat) : (cutL l).getD i 0 = (((l.getD i 0).toNat % 68719476736 : Nat) : Int) := by
  simp only [cutL, List.getD, List.getElem?_map]
  cases l[i]? <;> simp
theorem cutL_id {l : List Int} (h : W36 l) : cutL l = l := by
  unfold cutL
  rw [List.map_congr_left (g := id), List.map_id]
  intro z hz
  have := h z hz
  simp only [id]
  omega
theorem cutL_vl (l : List Int) (i : Nat) : vl (cutL l) i = vl l i := by
  unfold vl
  rw [cutL_at, Int.toNat_natCast]
  generalize (l.getD (1 + i / 4) 0).toNat = x
  unfold bel
  have h4 := Nat.mod_lt i (show 4 > 0 by omega)
  obtain h | h | h | h : i % 4 = 0 ∨ i % 4 = 1 ∨ i % 4 = 2 ∨ i % 4 = 3 := by omega
  all_goals rw [h]; simp; try omega
theorem cutL_rl (l : List Int) : rl (cutL l) = rl l := by
  unfold rl
  rw [cutL_at, Int.toNat_natCast, Nat.mod_mod]
theorem cutL_good (l : List Int) : Good (cutL l) ↔ Good l := by
  unfold Good Clear
  simp only [cutL_rl, cutL_len, cutL_vl]
theorem cutL_txt (l : List Int) : txt (cutL l) = txt l := by
  unfold txt
  simp only [cutL_rl, cutL_vl]

/-- what is left, and whether it is short -/
abbrev RS := List Int × Bool
def pN : RS → Int × RS
  | ([], _) => (0, ([], true))
  | (z :: r, s) => if z > 262143 then (0, ([], true)) else (z, (r, s))
theorem pN_cons (z : Int) (r : List Int) (s : Bool) : pN (z :: r, s) = if z > 262143 then (0, ([], true)) else (z, (r, s)) := rfl
noncomputable def pT (s : RS) : Txt × RS := if Good s.1 then (txt s.1, (s.1.drop (nw (rl s.1)), s.2)) else ([], ([], true))
def pW (n : Nat) (s : RS) : List Int × RS := if n ≤ s.1.length then (s.1.take n, (s.1.drop n, s.2)) else ([], ([], true))
noncomputable def pD (s : RS) : (Txt × Int) × RS := (((pT s).1, (pN (pT s).2).1), (pN (pT s).2).2)
noncomputable def pK (s : RS) : (Txt × Txt × Int) × RS := (((pT s).1, (pT (pT s).2).1, (pN (pT (pT s).2).2).1), (pN (pT (pT s).2).2).2)
noncomputable def pDs : Nat → RS → List (Txt × Int) × RS
  | 0, s => ([], s)
  | n + 1, s => if s.2 = true then ([], s) else ((pD s).1 :: (pDs n (pD s).2).1, (pDs n (pD s).2).2)
noncomputable def pKs : Nat → RS → List (Txt × Txt × Int) × RS
  | 0, s => ([], s)
  | n + 1, s => if s.2 = true then ([], s) else ((pK s).1 :: (pKs n (pK s).2).1, (pKs n (pK s).2).2)

/-- words of 36 bits are left, and none once it is short -/
def RSok (s : RS) : Prop := W36 s.1 ∧ (s.2 = true → s.1 = [])
theorem W36.drop {l : List Int} (h : W36 l) (n : Nat) : W36 (l.drop n) := fun z hz => h z (List.mem_of_mem_drop hz)
theorem W36.take {l : List Int} (h : W36 l) (n : Nat) : W36 (l.take n) := fun z hz => h z (List.mem_of_mem_take hz)
theorem ok_bad : RSok ([], true) := ⟨by simp [W36], fun _ => rfl⟩
theorem pN_ok {s : RS} (h : RSok s) : RSok (pN s).2 ∧ 0 ≤ (pN s).1 ∧ (pN s).1 ≤ 262143 := by
  obtain ⟨l, b⟩ := s
  cases l with
  | nil => exact ⟨ok_bad, by simp [pN], by simp [pN]⟩
  | cons z r =>
    rw [pN_cons]
    split
    · exact ⟨ok_bad, by simp, by simp⟩
    · have := h.1 z (by simp)
      exact ⟨⟨fun y hy => h.1 y (by simp [hy]), fun e => absurd (h.2 e) (by simp)⟩, this.1, by simp; omega⟩
theorem good_not_nil : ¬ Good [] := fun h => by simpa using h.1
theorem pT_ok {s : RS} (h : RSok s) : RSok (pT s).2 ∧ (pT s).1.length ≤ 255 := by
  unfold pT
  split
  · rename_i hg
    refine ⟨⟨h.1.drop _, fun e => ?_⟩, by rw [txt_len]; exact hg.2.1⟩
    exact absurd hg (by rw [h.2 e]; exact good_not_nil)
  · exact ⟨ok_bad, by simp⟩
theorem pW_ok {s : RS} (n : Nat) (h : RSok s) : RSok (pW n s).2 ∧ W36 (pW n s).1 := by
  unfold pW
  split
  · exact ⟨⟨h.1.drop _, fun e => by simp [h.2 e]⟩, h.1.take _⟩
  · exact ⟨ok_bad, by simp [W36]⟩
theorem pD_ok {s : RS} (h : RSok s) : RSok (pD s).2 ∧ (pD s).1.1.length ≤ 255 ∧ 0 ≤ (pD s).1.2 ∧ (pD s).1.2 ≤ 262143 := by
  obtain ⟨h1, h2⟩ := pT_ok h
  obtain ⟨h3, h4, h5⟩ := pN_ok h1
  exact ⟨h3, h2, h4, h5⟩
theorem pK_ok {s : RS} (h : RSok s) : RSok (pK s).2 ∧ (pK s).1.1.length ≤ 255 ∧ (pK s).1.2.1.length ≤ 255 ∧ 0 ≤ (pK s).1.2.2 ∧ (pK s).1.2.2 ≤ 262143 := by
  obtain ⟨h1, h2⟩ := pT_ok h
  obtain ⟨h3, h4⟩ := pT_ok h1
  obtain ⟨h5, h6, h7⟩ := pN_ok h3
  exact ⟨h5, h2, h4, h6, h7⟩
theorem pDs_ok : ∀ (n : Nat) {s : RS}, RSok s → RSok (pDs n s).2 ∧ (pDs n s).1.length ≤ n ∧ ∀ d ∈ (pDs n s).1, d.1.length ≤ 255 ∧ 0 ≤ d.2 ∧ d.2 ≤ 262143
  | 0, s, h => ⟨h, Nat.le_refl _, by simp [pDs]⟩
  | n + 1, s, h => by
    unfold pDs
    split
    · exact ⟨h, by simp, by simp⟩
    · obtain ⟨h1, h2⟩ := pD_ok h
      obtain ⟨h3, h4, h5⟩ := pDs_ok n h1
      refine ⟨h3, by simp; exact h4, fun d hd => ?_⟩
      rcases List.mem_cons.1 hd with rfl | hd
      · exact h2
      · exact h5 d hd
theorem pKs_ok : ∀ (n : Nat) {s : RS}, RSok s → RSok (pKs n s).2 ∧ (pKs n s).1.length ≤ n ∧ ∀ d ∈ (pKs n s).1, d.1.length ≤ 255 ∧ d.2.1.length ≤ 255 ∧ 0 ≤ d.2.2 ∧ d.2.2 ≤ 262143
  | 0, s, h => ⟨h, Nat.le_refl _, by simp [pKs]⟩
  | n + 1, s, h => by
    unfold pKs
    split
    · exact ⟨h, by simp, by simp⟩
    · obtain ⟨h1, h2⟩ := pK_ok h
      obtain ⟨h3, h4, h5⟩ := pKs_ok n h1
      refine ⟨h3, by simp; exact h4, fun d hd => ?_⟩
      rcases List.mem_cons.1 hd with rfl | hd
      · exact h2
      · exact h5 d hd

/-! where it is not short, what was taken stood there -/
theorem pN_is {s : RS} (h : (pN s).2.2 = false) : s.2 = false ∧ s.1 = (pN s).1 :: (pN s).2.1 := by
  obtain ⟨l, b⟩ := s
  cases l with
  | nil => simp [pN] at h
  | cons z r =>
    rw [pN_cons] at h ⊢
    split at h
    · simp at h
    · rename_i hz
      rw [if_neg hz]
      exact ⟨h, rfl⟩
theorem wds_take {l : List Int} (hw : W36 l) (hg : Good l) : l.take (nw (rl l)) = wds (txt l) := by
  apply List.ext_getElem?
  intro i
  by_cases hi : i < nw (rl l)
  · have hil : i < l.length := by have := hg.2.2.1; omega
    have h1 := read_words hg hi
    have h2 : (wds (txt l)).getD i 0 = ((wdN (txt l) i : Nat) : Int) := wds_at (by rw [txt_len]; exact hi)
    have h3 := hw _ (List.getElem_mem hil)
    have h4 : l.getD i 0 = l[i] := by simp [List.getD, hil]
    rw [List.getElem?_take_of_lt hi, List.getElem?_eq_getElem hil]
    have hl2 : i < (wds (txt l)).length := by rw [wds_len, txt_len]; exact hi
    rw [List.getElem?_eq_getElem hl2]
    have h5 : (wds (txt l)).getD i 0 = (wds (txt l))[i] := by simp [List.getD, hl2]
    rw [← h5, h2, h1, h4]
    congr 1
    omega
  · rw [List.getElem?_eq_none (by simp; omega), List.getElem?_eq_none (by rw [wds_len, txt_len]; omega)]
theorem pT_is {s : RS} (hs : RSok s) (h : (pT s).2.2 = false) : s.2 = false ∧ s.1 = wds (pT s).1 ++ (pT s).2.1 := by
  unfold pT at h ⊢
  split at h
  · rename_i hg
    rw [if_pos hg]
    exact ⟨h, by rw [← wds_take hs.1 hg, List.take_append_drop]⟩
  · simp at h
theorem pW_is {s : RS} {n : Nat} (h : (pW n s).2.2 = false) : s.2 = false ∧ s.1 = (pW n s).1 ++ (pW n s).2.1 ∧ (pW n s).1.length = n := by
  unfold pW at h ⊢
  split at h
  · rename_i hn
    rw [if_pos hn]
    exact ⟨h, (List.take_append_drop _ _).symm, by simp [hn]⟩
  · simp at h
theorem pD_is {s : RS} (hs : RSok s) (h : (pD s).2.2 = false) : s.2 = false ∧ s.1 = wDef (pD s).1 ++ (pD s).2.1 := by
  obtain ⟨h1, h2⟩ := pN_is h
  obtain ⟨h3, h4⟩ := pT_is hs h1
  exact ⟨h3, by rw [h4, h2]; simp [wDef, pD]⟩
theorem pK_is {s : RS} (hs : RSok s) (h : (pK s).2.2 = false) : s.2 = false ∧ s.1 = wLink (pK s).1 ++ (pK s).2.1 := by
  obtain ⟨h1, h2⟩ := pN_is h
  obtain ⟨h3, h4⟩ := pT_is (pT_ok hs).1 h1
  obtain ⟨h5, h6⟩ := pT_is hs h3
  exact ⟨h5, by rw [h6, h4, h2]; simp [wLink, pK]⟩
theorem pDs_is : ∀ (n : Nat) {s : RS}, RSok s → (pDs n s).2.2 = false → s.2 = false ∧ s.1 = wDefs (pDs n s).1 ++ (pDs n s).2.1 ∧ (pDs n s).1.length = n
  | 0, s, _, h => ⟨h, by simp [pDs, wDefs], rfl⟩
  | n + 1, s, hs, h => by
    unfold pDs at h ⊢
    by_cases hb : s.2 = true
    · rw [if_pos hb, hb] at h; simp at h
    · rw [if_neg hb] at h ⊢
      obtain ⟨h1, h2, h3⟩ := pDs_is n (pD_ok hs).1 h
      obtain ⟨h4, h5⟩ := pD_is hs h1
      refine ⟨h4, ?_, by simp [h3]⟩
      rw [wDefs, List.append_assoc, ← h2]
      exact h5
theorem pKs_is : ∀ (n : Nat) {s : RS}, RSok s → (pKs n s).2.2 = false → s.2 = false ∧ s.1 = wLinks (pKs n s).1 ++ (pKs n s).2.1 ∧ (pKs n s).1.length = n
  | 0, s, _, h => ⟨h, by simp [pKs, wLinks], rfl⟩
  | n + 1, s, hs, h => by
    unfold pKs at h ⊢
    by_cases hb : s.2 = true
    · rw [if_pos hb, hb] at h; simp at h
    · rw [if_neg hb] at h ⊢
      obtain ⟨h1, h2, h3⟩ := pKs_is n (pK_ok hs).1 h
      obtain ⟨h4, h5⟩ := pK_is hs h1
      refine ⟨h4, ?_, by simp [h3]⟩
      rw [wLinks, List.append_assoc, ← h2]
      exact h5

/-! what stands there is taken -/
theorem pN_at {z : Int} {r : List Int} (h : z ≤ 262143) : pN (z :: r, false) = (z, (r, false)) := by
  rw [pN_cons, if_neg (by omega)]
theorem pT_at {t : Txt} {r : List Int} (h : t.length ≤ 255) : pT (wds t ++ r, false) = (t, (r, false)) := by
  unfold pT
  rw [if_pos (pre_good h)]
  simp only [pre_txt h, pre_rl h, ← wds_len, List.drop_left]
theorem pW_at {a r : List Int} : pW a.length (a ++ r, false) = (a, (r, false)) := by
  unfold pW
  rw [if_pos (by simp)]
  simp
theorem pD_at {d : Txt × Int} {r : List Int} (h : d.1.length ≤ 255) (h2 : d.2 ≤ 262143) : pD (wDef d ++ r, false) = (d, (r, false)) := by
  have e : wDef d ++ r = wds d.1 ++ (d.2 :: r) := by simp [wDef]
  unfold pD
  rw [e, pT_at h, pN_at h2]
theorem pK_at {d : Txt × Txt × Int} {r : List Int} (h : d.1.length ≤ 255) (h1 : d.2.1.length ≤ 255) (h2 : d.2.2 ≤ 262143) : pK (wLink d ++ r, false) = (d, (r, false)) := by
  have e : wLink d ++ r = wds d.1 ++ (wds d.2.1 ++ (d.2.2 :: r)) := by simp [wLink]
  unfold pK
  rw [e, pT_at h]
  simp only
  rw [pT_at h1]
  simp only
  rw [pN_at h2]
theorem pDs_at {r : List Int} : ∀ (ds : List (Txt × Int)), (∀ d ∈ ds, d.1.length ≤ 255 ∧ d.2 ≤ 262143) → pDs ds.length (wDefs ds ++ r, false) = (ds, (r, false))
  | [], _ => rfl
  | d :: ds, h => by
    have hd := h d (by simp)
    rw [List.length_cons, pDs, if_neg (by simp), wDefs, List.append_assoc, pD_at hd.1 hd.2, pDs_at ds (fun e he => h e (by simp [he]))]
theorem pKs_at {r : List Int} : ∀ (ds : List (Txt × Txt × Int)), (∀ d ∈ ds, d.1.length ≤ 255 ∧ d.2.1.length ≤ 255 ∧ d.2.2 ≤ 262143) → pKs ds.length (wLinks ds ++ r, false) = (ds, (r, false))
  | [], _ => rfl
  | d :: ds, h => by
    have hd := h d (by simp)
    rw [List.length_cons, pKs, if_neg (by simp), wLinks, List.append_assoc, pK_at hd.1 hd.2.1 hd.2.2, pKs_at ds (fun e he => h e (by simp [he]))]

/-- the map's four numbers -/
noncomputable def m1 (zs : List Int) : Int × RS := pN (zs.drop (zs.length - 5), false)
noncomputable def m2 (zs : List Int) : Int × RS := pN (m1 zs).2
noncomputable def m3 (zs : List Int) : Int × RS := pN (m2 zs).2
noncomputable def m4 (zs : List Int) : Int × RS := pN (m3 zs).2
/-- the sections -/
noncomputable def s1 (zs : List Int) : List Int × RS := pW (m1 zs).1.toNat (zs.take (zs.length - 5), false)
noncomputable def s2 (zs : List Int) : List Int × RS := pW (m2 zs).1.toNat (s1 zs).2
noncomputable def s3 (zs : List Int) : List (Txt × Int) × RS := pDs (m3 zs).1.toNat (s2 zs).2
noncomputable def s4 (zs : List Int) : List (Txt × Txt × Int) × RS := pKs (m4 zs).1.toNat (s3 zs).2
noncomputable def sOb (zs : List Int) : Ob := ⟨(s1 zs).1, (s2 zs).1, (s3 zs).1, (s4 zs).1⟩
/-- ahead of all reading -/
def sHead (zs : List Int) : Bool := decide (5 ≤ zs.length) && (decide (zs.length ≤ 1024) && (zs.getD (zs.length - 1) 0 == 45812815077))
noncomputable def sBody (zs : List Int) : Bool := !(m4 zs).2.2 && (!(s4 zs).2.2 && (decide ((s4 zs).2.1.length = 0) && mayOb (sOb zs)))

theorem sOb_is {zs : List Int} (hw : W36 zs) (h1 : sHead zs = true) (h2 : (m4 zs).2.2 = false) (h3 : (s4 zs).2.2 = false) (h4 : (s4 zs).2.1 = []) : wOb (sOb zs) = zs := by
  simp only [sHead, Bool.and_eq_true, decide_eq_true_eq, beq_iff_eq] at h1
  obtain ⟨a1, a2, a3⟩ := h1
  have hM0 : RSok (zs.drop (zs.length - 5), false) := ⟨hw.drop _, fun e => by cases e⟩
  have hM1 := pN_ok hM0
  have hM2 := pN_ok hM1.1
  have hM3 := pN_ok hM2.1
  have hM4 := pN_ok hM3.1
  obtain ⟨b3, c3⟩ := pN_is (s := (m3 zs).2) h2
  obtain ⟨b2, c2⟩ := pN_is (s := (m2 zs).2) b3
  obtain ⟨b1, c1⟩ := pN_is (s := (m1 zs).2) b2
  obtain ⟨-, c0⟩ := pN_is (s := (zs.drop (zs.length - 5), false)) b1
  have hS0 : RSok (zs.take (zs.length - 5), false) := ⟨hw.take _, fun e => by cases e⟩
  have hS1 := pW_ok (m1 zs).1.toNat hS0
  have hS2 := pW_ok (m2 zs).1.toNat hS1.1
  have hS3 := pDs_ok (m3 zs).1.toNat hS2.1
  obtain ⟨f3, g3, l3⟩ := pKs_is (m4 zs).1.toNat (s := (s3 zs).2) hS3.1 h3
  obtain ⟨f2, g2, l2⟩ := pDs_is (m3 zs).1.toNat (s := (s2 zs).2) hS2.1 f3
  obtain ⟨f1, g1, l1⟩ := pW_is (s := (s1 zs).2) f2
  obtain ⟨-, g0, l0⟩ := pW_is (s := (zs.take (zs.length - 5), false)) f1
  -- the map
  have hd : zs.drop (zs.length - 5) = (m1 zs).1 :: (m2 zs).1 :: (m3 zs).1 :: (m4 zs).1 :: (m4 zs).2.1 := by
    rw [show zs.drop (zs.length - 5) = (m1 zs).1 :: (m1 zs).2.1 from c0, show (m1 zs).2.1 = (m2 zs).1 :: (m2 zs).2.1 from c1, show (m2 zs).2.1 = (m3 zs).1 :: (m3 zs).2.1 from c2, show (m3 zs).2.1 = (m4 zs).1 :: (m4 zs).2.1 from c3]
  have hl5 := congrArg List.length hd
  simp only [List.length_drop, List.length_cons] at hl5
  obtain ⟨z, hz⟩ : ∃ z, (m4 zs).2.1 = [z] := List.length_eq_one_iff.1 (by omega)
  rw [hz] at hd
  have hlast : z = 45812815077 := by
    have e : zs.getD (zs.length - 1) 0 = (zs.drop (zs.length - 5)).getD 4 0 := by
      simp only [List.getD, List.getElem?_drop, show zs.length - 5 + 4 = zs.length - 1 by omega]
    rw [e, hd] at a3
    simpa using a3
  have e1 : (s1 zs).1.length = (m1 zs).1.toNat := l0
  have e2 : (s2 zs).1.length = (m2 zs).1.toNat := l1
  have e3 : (s3 zs).1.length = (m3 zs).1.toNat := l2
  have e4 : (s4 zs).1.length = (m4 zs).1.toNat := l3
  have n1 : (((m1 zs).1.toNat : Nat) : Int) = (m1 zs).1 := Int.toNat_of_nonneg hM1.2.1
  have n2 : (((m2 zs).1.toNat : Nat) : Int) = (m2 zs).1 := Int.toNat_of_nonneg hM2.2.1
  have n3 : (((m3 zs).1.toNat : Nat) : Int) = (m3 zs).1 := Int.toNat_of_nonneg hM3.2.1
  have n4 : (((m4 zs).1.toNat : Nat) : Int) = (m4 zs).1 := Int.toNat_of_nonneg hM4.2.1
  have ht : zs.take (zs.length - 5) = (s1 zs).1 ++ ((s2 zs).1 ++ (wDefs (s3 zs).1 ++ (wLinks (s4 zs).1 ++ []))) := by
    rw [show zs.take (zs.length - 5) = (s1 zs).1 ++ (s1 zs).2.1 from g0, show (s1 zs).2.1 = (s2 zs).1 ++ (s2 zs).2.1 from g1, show (s2 zs).2.1 = wDefs (s3 zs).1 ++ (s3 zs).2.1 from g2, show (s3 zs).2.1 = wLinks (s4 zs).1 ++ (s4 zs).2.1 from g3, h4]
  rw [wOb_split]
  have hz' := (List.take_append_drop (zs.length - 5) zs).symm
  rw [ht, hd, hlast] at hz'
  rw [List.append_nil] at hz'
  conv => rhs; rw [hz']
  simp only [sOb, wMap, e1, e2, e3, e4, n1, n2, n3, n4]

theorem s_read {o : Ob} (h : May o) : sHead (wOb o) = true ∧ sBody (wOb o) = true ∧ sOb (wOb o) = o := by
  have hs := wOb_split o
  generalize hA : o.text ++ (o.stat ++ (wDefs o.defs ++ wLinks o.links)) = A at hs
  have hlen : (wOb o).length = A.length + 5 := by rw [hs]; simp [wMap]
  have q1 := h.nt; have q2 := h.ns; have q3 := h.nd; have q4 := h.nl; have q5 := h.sz
  have hT : (wOb o).take ((wOb o).length - 5) = A := by rw [hlen, hs]; simp
  have hD : (wOb o).drop ((wOb o).length - 5) = wMap o.text.length o.stat.length o.defs.length o.links.length := by rw [hlen, hs]; simp
  have M1 : m1 (wOb o) = ((o.text.length : Int), ([(o.stat.length : Int), (o.defs.length : Int), (o.links.length : Int), 45812815077], false)) := by unfold m1; rw [hD]; exact pN_at (by omega)
  have M2 : m2 (wOb o) = ((o.stat.length : Int), ([(o.defs.length : Int), (o.links.length : Int), 45812815077], false)) := by unfold m2; rw [M1]; exact pN_at (by omega)
  have M3 : m3 (wOb o) = ((o.defs.length : Int), ([(o.links.length : Int), 45812815077], false)) := by unfold m3; rw [M2]; exact pN_at (by omega)
  have M4 : m4 (wOb o) = ((o.links.length : Int), ([45812815077], false)) := by unfold m4; rw [M3]; exact pN_at (by omega)
  have S1 : s1 (wOb o) = (o.text, (o.stat ++ (wDefs o.defs ++ wLinks o.links), false)) := by unfold s1; rw [hT, M1, ← hA]; exact pW_at
  have S2 : s2 (wOb o) = (o.stat, (wDefs o.defs ++ wLinks o.links, false)) := by unfold s2; rw [S1, M2]; exact pW_at
  have S3 : s3 (wOb o) = (o.defs, (wLinks o.links, false)) := by
    unfold s3; rw [S2, M3]
    exact pDs_at o.defs (fun d hd => ⟨h.dlen d hd, by have := (h.ds d hd).2.2; omega⟩)
  have S4 : s4 (wOb o) = (o.links, ([], false)) := by
    unfold s4; rw [S3, M4]
    have := pKs_at (r := []) o.links (fun l hl => ⟨(h.llen l hl).1, (h.llen l hl).2, (h.ls l hl).2.2.2⟩)
    rw [List.append_nil] at this
    exact this
  have hO : sOb (wOb o) = o := by unfold sOb; rw [S1, S2, S3, S4]
  refine ⟨?_, ?_, hO⟩
  · simp only [sHead, Bool.and_eq_true, decide_eq_true_eq, beq_iff_eq]
    refine ⟨by omega, q5, ?_⟩
    rw [hlen, show A.length + 5 - 1 = A.length + 4 by omega, hs, getD_right]
    simp [wMap]
  · unfold sBody
    rw [hO, M4, S4, (may_iff o).2 h]
    simp

/-- it answers an object just where the words are those of it -/
theorem sOk_iff {zs : List Int} (hw : W36 zs) (o : Ob) : (sHead zs = true ∧ sBody zs = true ∧ sOb zs = o) ↔ (May o ∧ wOb o = zs) := by
  constructor
  · rintro ⟨h1, h2, rfl⟩
    simp only [sBody, Bool.and_eq_true, Bool.not_eq_true', decide_eq_true_eq, List.length_eq_zero_iff] at h2
    exact ⟨(may_iff _).1 h2.2.2.2, sOb_is hw h1 h2.1 h2.2.1 h2.2.2.1⟩
  · rintro ⟨h1, rfl⟩
    exact s_read h1
/-- no size is asked behind the reading: it is that of the words -/
theorem sSize {zs : List Int} (hw : W36 zs) (h1 : sHead zs = true) (h2 : (m4 zs).2.2 = false) (h3 : (s4 zs).2.2 = false) (h4 : (s4 zs).2.1 = []) : (wOb (sOb zs)).length ≤ 1024 := by
  rw [sOb_is hw h1 h2 h3 h4]
  simp only [sHead, Bool.and_eq_true, decide_eq_true_eq] at h1
  exact h1.2.1

end Go.Proofs.Ytnlohmkgkihldaa.W
