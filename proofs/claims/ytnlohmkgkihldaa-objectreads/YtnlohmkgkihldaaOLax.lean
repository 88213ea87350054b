/-
  The document's own reader of objects as a plain function: words one behind another, numbers, texts, definitions, links; it answers an object just where the words are those of an object that may be. No program is named here.
-/
import Derived.Test.YtnlohmkgkihldaaOMath
namespace Go.Proofs.Ytnlohmkgkihldaa.W
open Go.Proofs.Ytnlohmkgkihldaa.N (may may_pos)

/-- where the reader is, and whether it is bad -/
abbrev St := Nat × Bool
def lw (zs : List Int) (s : St) : Int × St := if s.2 || decide (zs.length ≤ s.1) then (0, (s.1, true)) else (zs.getD s.1 0, (s.1 + 1, false))
def ln (zs : List Int) (s : St) : Int × St := ((lw zs s).1 % 262144, ((lw zs s).2.1, (lw zs s).2.2 || decide ((lw zs s).1 > 262143)))
/-- byte k of a word, whatever stands in its ninth bit -/
def byt (x : Int) (k : Nat) : UInt8 := UInt8.ofNat (x.toNat / 2 ^ (27 - 9 * k) % 256)
def fourK (n i : Nat) (x : Int) : Nat → Txt
  | 0 => []
  | k + 1 => fourK n i x k ++ (if i + k < n then [byt x k] else [])
def ltK (zs : List Int) (n : Nat) (s : St) : Nat → Txt × St
  | 0 => ([], s)
  | j + 1 => ((ltK zs n s j).1 ++ fourK n (4 * j) (lw zs (ltK zs n s j).2).1 4, (lw zs (ltK zs n s j).2).2)
def lt (zs : List Int) (s : St) : Txt × St :=
  if (ln zs s).1 > 255 then ([], ((ln zs s).2.1, true)) else ltK zs (ln zs s).1.toNat (ln zs s).2 (((ln zs s).1.toNat + 3) / 4)
def lDef (zs : List Int) (s : St) : (Txt × Int) × St := (((lt zs s).1, (ln zs (lt zs s).2).1), (ln zs (lt zs s).2).2)
def lLink (zs : List Int) (s : St) : (Txt × Txt × Int) × St :=
  (((lt zs s).1, (lt zs (lt zs s).2).1, (ln zs (lt zs (lt zs s).2).2).1), (ln zs (lt zs (lt zs s).2).2).2)
def lDefs (zs : List Int) : Nat → St → List (Txt × Int) × St
  | 0, s => ([], s)
  | n + 1, s => if s.2 then ([], s) else ((lDef zs s).1 :: (lDefs zs n (lDef zs s).2).1, (lDefs zs n (lDef zs s).2).2)
def lLinks (zs : List Int) : Nat → St → List (Txt × Txt × Int) × St
  | 0, s => ([], s)
  | n + 1, s => if s.2 then ([], s) else ((lLink zs s).1 :: (lLinks zs n (lLink zs s).2).1, (lLinks zs n (lLink zs s).2).2)

section
variable {zs r : List Int} {a : Nat}

theorem lw_at {x : Int} (h : zs.drop a = x :: r) : lw zs (a, false) = (x, (a + 1, false)) := by
  have hl : a < zs.length := by
    have := congrArg List.length h
    simp at this
    omega
  have hx : zs.getD a 0 = x := by
    have := congrArg List.head? h
    simp [List.head?_drop] at this
    simp [List.getD, this]
  unfold lw
  rw [if_neg (by simp; omega)]
  simp only [hx]
theorem ln_at {x : Int} (h : zs.drop a = x :: r) (h0 : 0 ≤ x) (h1 : x ≤ 262143) : ln zs (a, false) = (x, (a + 1, false)) := by
  unfold ln
  rw [lw_at h]
  have e : x % 262144 = x := by omega
  have d : decide (x > 262143) = false := decide_eq_false (by omega)
  simp only [e, d, Bool.or_false]
theorem drop_more {x y : List Int} (h : zs.drop a = x ++ y) : zs.drop (a + x.length) = y := by
  rw [← List.drop_drop, h, List.drop_left]

theorem byt_quad (l : Txt) (j k : Nat) (hk : k < 4) (h : 4 * j + k < l.length) : byt ((quad l j : Nat) : Int) k = l[4 * j + k] := by
  have b0 := bt_lt l (4 * j); have b1 := bt_lt l (4 * j + 1); have b2 := bt_lt l (4 * j + 2); have b3 := bt_lt l (4 * j + 3)
  have e := bt_in h
  have key : quad l j / 2 ^ (27 - 9 * k) % 256 = bt l (4 * j + k) := by
    unfold quad
    obtain rfl | rfl | rfl | rfl : k = 0 ∨ k = 1 ∨ k = 2 ∨ k = 3 := by omega
    all_goals simp; omega
  unfold byt
  rw [Int.toNat_natCast, key, e]
  simp
theorem fourK_is (l : Txt) (j : Nat) : ∀ k, k ≤ 4 → fourK l.length (4 * j) ((quad l j : Nat) : Int) k = (l.drop (4 * j)).take k := by
  intro k
  induction k with
  | zero => intro _; simp [fourK]
  | succ k ih =>
    intro hk
    rw [fourK, ih (by omega)]
    by_cases h : 4 * j + k < l.length
    · rw [if_pos h, byt_quad l j k (by omega) h, List.take_succ_eq_append_getElem (by simp; omega)]
      simp
    · rw [if_neg h, List.append_nil, List.take_of_length_le (by simp; omega), List.take_of_length_le (by simp; omega)]
theorem wds_cons (l : Txt) : wds l = (l.length : Int) :: (List.range ((l.length + 3) / 4)).map fun i => ((quad l i : Nat) : Int) := (fst_all l).symm
theorem ltK_at {l : Txt} (h : zs.drop a = wds l ++ r) : ∀ j, j ≤ (l.length + 3) / 4 → ltK zs l.length (a + 1, false) j = (l.take (4 * j), (a + 1 + j, false)) := by
  intro j
  induction j with
  | zero => intro _; simp [ltK]
  | succ j ih =>
    intro hj
    rw [ltK, ih (by omega)]
    have hd : zs.drop (a + 1 + j) = ((quad l j : Nat) : Int) :: ((List.range ((l.length + 3) / 4)).map (fun i => ((quad l i : Nat) : Int)) ++ r).drop (j + 1) := by
      have h1 : zs.drop (a + 1 + j) = ((List.range ((l.length + 3) / 4)).map (fun i => ((quad l i : Nat) : Int)) ++ r).drop j := by
        rw [← List.drop_drop, ← List.drop_drop, h, wds_cons]
        rfl
      rw [h1, List.drop_eq_getElem_cons (by simp; omega)]
      congr 1
      rw [List.getElem_append_left (by simp; omega)]
      simp
    rw [lw_at hd]
    simp only
    rw [fourK_is l j 4 (by omega), show 4 * (j + 1) = 4 * j + 4 by omega, List.take_add, show a + 1 + j + 1 = a + 1 + (j + 1) by omega]
theorem lt_at {l : Txt} (hl : l.length ≤ 255) (h : zs.drop a = wds l ++ r) : lt zs (a, false) = (l, (a + nw l.length, false)) := by
  have h1 : zs.drop a = (l.length : Int) :: ((List.range ((l.length + 3) / 4)).map (fun i => ((quad l i : Nat) : Int)) ++ r) := by rw [h, wds_cons]; rfl
  unfold lt
  rw [ln_at h1 (by omega) (by omega)]
  simp only
  rw [if_neg (by omega), Int.toNat_natCast, ltK_at h _ (Nat.le_refl _), List.take_of_length_le (by omega), show a + 1 + (l.length + 3) / 4 = a + nw l.length by unfold nw; omega]
theorem lDef_at {d : Txt × Int} (hl : d.1.length ≤ 255) (h0 : 0 ≤ d.2) (h1 : d.2 ≤ 262143) (h : zs.drop a = wDef d ++ r) : lDef zs (a, false) = (d, (a + (wDef d).length, false)) := by
  rw [wDef, List.append_assoc] at h
  have h2 := drop_more h
  rw [wds_len] at h2
  unfold lDef
  rw [lt_at hl h]
  simp only
  rw [ln_at h2 h0 h1, wDef_len]
  rfl
theorem lLink_at {d : Txt × Txt × Int} (hl : d.1.length ≤ 255) (hl2 : d.2.1.length ≤ 255) (h0 : 0 ≤ d.2.2) (h1 : d.2.2 ≤ 262143) (h : zs.drop a = wLink d ++ r) : lLink zs (a, false) = (d, (a + (wLink d).length, false)) := by
  rw [wLink, List.append_assoc, List.append_assoc] at h
  have h2 := drop_more h
  rw [wds_len] at h2
  have h3 := drop_more h2
  rw [wds_len] at h3
  unfold lLink
  rw [lt_at hl h]
  simp only
  rw [lt_at hl2 h2]
  simp only
  rw [ln_at h3 h0 h1, wLink_len, show a + nw d.1.length + nw d.2.1.length + 1 = a + (nw d.1.length + nw d.2.1.length + 1) by omega]
theorem lDefs_at {ds : List (Txt × Int)} (hd : ∀ d ∈ ds, d.1.length ≤ 255 ∧ 0 ≤ d.2 ∧ d.2 ≤ 262143) (h : zs.drop a = wDefs ds ++ r) : lDefs zs ds.length (a, false) = (ds, (a + (wDefs ds).length, false)) := by
  induction ds generalizing a with
  | nil => simp [lDefs, wDefs]
  | cons d s ih =>
    rw [wDefs, List.append_assoc] at h
    obtain ⟨q1, q2, q3⟩ := hd d (by simp)
    rw [List.length_cons, lDefs, if_neg (by simp), lDef_at q1 q2 q3 h]
    simp only
    rw [ih (fun e he => hd e (by simp [he])) (drop_more h), wDefs, List.length_append, Nat.add_assoc]
theorem lLinks_at {ds : List (Txt × Txt × Int)} (hd : ∀ d ∈ ds, d.1.length ≤ 255 ∧ d.2.1.length ≤ 255 ∧ 0 ≤ d.2.2 ∧ d.2.2 ≤ 262143) (h : zs.drop a = wLinks ds ++ r) : lLinks zs ds.length (a, false) = (ds, (a + (wLinks ds).length, false)) := by
  induction ds generalizing a with
  | nil => simp [lLinks, wLinks]
  | cons d s ih =>
    rw [wLinks, List.append_assoc] at h
    obtain ⟨q1, q2, q3, q4⟩ := hd d (by simp)
    rw [List.length_cons, lLinks, if_neg (by simp), lLink_at q1 q2 q3 q4 h]
    simp only
    rw [ih (fun e he => hd e (by simp [he])) (drop_more h), wLinks, List.length_append, Nat.add_assoc]
end

/-- number i of the map at the end -/
def mp (zs : List Int) (i : Nat) : Nat := (zs.getD (zs.length - 5 + i) 0).toNat
/-- the map may be followed -/
def mapOk (zs : List Int) : Bool :=
  decide (5 ≤ zs.length) && (zs.getD (zs.length - 1) 0 == 45812815077) && (List.range 4).all (fun i => decide (zs.getD (zs.length - 5 + i) 0 ≤ 1024)) && decide (mp zs 0 + mp zs 1 + 5 ≤ zs.length)
/-- what is read, whatever it is -/
def lObD (zs : List Int) : List (Txt × Int) × St := lDefs (zs.take (zs.length - 5)) (mp zs 2) (mp zs 0 + mp zs 1, false)
def lObL (zs : List Int) : List (Txt × Txt × Int) × St := lLinks (zs.take (zs.length - 5)) (mp zs 3) (lObD zs).2
def lOb (zs : List Int) : Ob := ⟨zs.take (mp zs 0), (zs.drop (mp zs 0)).take (mp zs 1), (lObD zs).1, (lObL zs).1⟩
/-- .. and whether it stands -/
def obOk (zs : List Int) : Bool := mapOk zs && !(lObL zs).2.2 && ((lObL zs).2.1 == zs.length - 5) && mayOb (lOb zs) && (wOb (lOb zs) == zs)

theorem obOk_is {zs : List Int} (h : obOk zs = true) : May (lOb zs) ∧ wOb (lOb zs) = zs := by
  simp only [obOk, Bool.and_eq_true, beq_iff_eq] at h
  exact ⟨(may_iff _).1 h.1.2, h.2⟩

theorem wOb_split (o : Ob) : wOb o = (o.text ++ (o.stat ++ (wDefs o.defs ++ wLinks o.links))) ++ wMap o.text.length o.stat.length o.defs.length o.links.length := by simp [wOb]
theorem getD_right (a b : List Int) (i : Nat) : (a ++ b).getD (a.length + i) 0 = b.getD i 0 := by
  simp only [List.getD]
  rw [List.getElem?_append_right (by omega), show a.length + i - a.length = i by omega]
theorem ob_read {o : Ob} (h : May o) : obOk (wOb o) = true ∧ lOb (wOb o) = o := by
  have hs := wOb_split o
  generalize hA : o.text ++ (o.stat ++ (wDefs o.defs ++ wLinks o.links)) = A at hs
  have hlen : (wOb o).length = A.length + 5 := by rw [hs]; simp [wMap]
  have hat : ∀ i, (wOb o).getD (A.length + i) 0 = (wMap o.text.length o.stat.length o.defs.length o.links.length).getD i 0 := fun i => by rw [hs]; exact getD_right _ _ _
  have m0 : mp (wOb o) 0 = o.text.length := by unfold mp; rw [hlen, show A.length + 5 - 5 + 0 = A.length + 0 by omega, hat]; simp [wMap]
  have m1 : mp (wOb o) 1 = o.stat.length := by unfold mp; rw [hlen, show A.length + 5 - 5 + 1 = A.length + 1 by omega, hat]; simp [wMap]
  have m2 : mp (wOb o) 2 = o.defs.length := by unfold mp; rw [hlen, show A.length + 5 - 5 + 2 = A.length + 2 by omega, hat]; simp [wMap]
  have m3 : mp (wOb o) 3 = o.links.length := by unfold mp; rw [hlen, show A.length + 5 - 5 + 3 = A.length + 3 by omega, hat]; simp [wMap]
  have hl := congrArg List.length hA
  simp only [List.length_append] at hl
  have hW : (wOb o).take ((wOb o).length - 5) = A := by rw [hlen, hs]; simp
  have hd : A.drop (o.text.length + o.stat.length) = wDefs o.defs ++ (wLinks o.links ++ []) := by
    rw [← hA, ← List.drop_drop, List.drop_left, List.drop_left, List.append_nil]
  have hD : lObD (wOb o) = (o.defs, (o.text.length + o.stat.length + (wDefs o.defs).length, false)) := by
    unfold lObD
    rw [hW, m0, m1, m2]
    exact lDefs_at (fun d hd => ⟨h.dlen d hd, (h.ds d hd).2.1, by have := (h.ds d hd).2.2; have := h.nt; omega⟩) hd
  have hL : lObL (wOb o) = (o.links, (o.text.length + o.stat.length + (wDefs o.defs).length + (wLinks o.links).length, false)) := by
    unfold lObL
    rw [hW, hD, m3]
    exact lLinks_at (fun l hl => ⟨(h.llen l hl).1, (h.llen l hl).2, (h.ls l hl).2.2.1, (h.ls l hl).2.2.2⟩) (drop_more hd)
  have hO : lOb (wOb o) = o := by
    unfold lOb
    rw [m0, m1, hD, hL]
    have t1 : (wOb o).take o.text.length = o.text := by rw [wOb, List.take_left]
    have t2 : ((wOb o).drop o.text.length).take o.stat.length = o.stat := by rw [wOb, List.drop_left, List.take_left]
    rw [t1, t2]
  refine ⟨?_, hO⟩
  have q1 := h.nt; have q2 := h.ns; have q3 := h.nd; have q4 := h.nl
  have hmap : mapOk (wOb o) = true := by
    simp only [mapOk, Bool.and_eq_true, decide_eq_true_eq, beq_iff_eq, List.all_eq_true, List.mem_range]
    refine ⟨⟨⟨by omega, ?_⟩, fun i hi => ?_⟩, by rw [m0, m1]; omega⟩
    · rw [hlen, show A.length + 5 - 1 = A.length + 4 by omega, hat]; simp [wMap]
    · rw [hlen, show A.length + 5 - 5 + i = A.length + i by omega, hat]
      obtain rfl | rfl | rfl | rfl : i = 0 ∨ i = 1 ∨ i = 2 ∨ i = 3 := by omega
      all_goals simp [wMap]; omega
  simp only [obOk, hmap, hL, hO, hlen, Bool.true_and, Bool.and_eq_true, beq_iff_eq, (may_iff o).2 h, Bool.not_false, and_true]
  omega

/-- the reader answers just the object whose words they are -/
theorem obOk_iff (zs : List Int) (o : Ob) : (obOk zs = true ∧ lOb zs = o) ↔ (May o ∧ wOb o = zs) := by
  constructor
  · rintro ⟨h1, rfl⟩
    exact obOk_is h1
  · rintro ⟨h1, rfl⟩
    exact ob_read h1
theorem obOk_no {zs : List Int} (h : obOk zs = false) (o : Ob) (ho : May o) : wOb o ≠ zs := by
  rintro rfl
  rw [(ob_read ho).1] at h
  cases h

end Go.Proofs.Ytnlohmkgkihldaa.W
