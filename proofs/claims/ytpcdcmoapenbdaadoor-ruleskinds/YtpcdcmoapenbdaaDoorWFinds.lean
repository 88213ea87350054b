/-
  Dir, To, Find and In, by plain functions of what the tree answers.
-/
import Derived.Test.YtpcdcmoapenbdaaDoorWFollow
namespace Go.Proofs.YtpcdcmoapenbdaaDoor.T
open Go.ChangeShapes Go.WideShapes Go.ChangeAt Go.RowKit
open Go.Proofs.YtpcdcmoapenbdaaDoor.N (bs bs_data bs_size bs_inj Glob PRow Own)
open Go.Proofs.YtpcdcmoapenbdaaDoor.A (Tm TRow)

/-- a walk's end that must be a directory: its number and the error -/
def dirR (R : Int × Br) : Int × Int := if R.1 = 0 then (if R.2.kind = 2 then (R.2.dir, 0) else (0, 15)) else (0, R.1)
def wDir (L : Int → Txt → Option Br) (l : Txt) : Int × Int := if N.er l = 0 then dirR (fol L 8 (dirN 0) (N.ps l)) else (0, 3)
def wFind (L : Int → Txt → Option Br) (l : Txt) : Int × Br := if N.er l = 0 then fol L 8 (dirN 0) (N.ps l) else (3, noBr)
def wIn (L : Int → Txt → Option Br) (d : Int) (s : Txt) : Int × Br := fol L 8 (dirN d) [s]
def toR (D : Int × Int) (z : Txt) : Int × Txt × Int := if D.2 = 0 then (D.1, z, 0) else (0, [], D.2)
def wTo (L : Int → Txt → Option Br) (l : Txt) : Int × Txt × Int :=
  if N.er l = 0 then (if N.ps l = [] then (0, [], 3) else toR (dirR (fol L 8 (dirN 0) (N.ps l).dropLast)) ((N.ps l).getLastD [])) else (0, [], 3)

theorem er_of (l : Txt) : N.er l = 0 ∨ N.er l = 3 ∧ N.ps l = [] := by
  unfold N.er N.ps
  cases N.partsOf l <;> simp
theorem ps_txt (l : Txt) : ∀ q ∈ N.ps l, q.length ≤ maxLen := by
  intro q hq
  have := (N.may_pos (N.ps_may l q hq)).2.1
  unfold maxLen
  omega

section
variable {w : World} {b : Nat} {F : Nat → Prop} {c : Nat} {st : St}

theorem wsplit_any (hg : Glob w) {l : Txt} (hl : l.length ≤ maxLen) : Calls Tryd.prog 75 #[TP b, .string (bs l)] w (N.SplitOwn l w) := by
  have hsz : (bs l).size ≤ maxLen := by rw [bs_size]; exact hl
  have HG := Lib.hid hg
  clear hg
  go_enter Tryd.func75, Tryd.ntmps75
  go_wp2_with (go_at_call 57; ((refine (N.split_own (bs l) _ hsz HG.out).mono ?_); rw [bs_data]; rintro e w1 ⟨v1, rfl, o1, b1⟩))
  exact bodyPost_ret (v := .tuple #[v1, .int .i64 (N.er l)]) (by simp [results, Tryd.results75, go_sem]) rfl ⟨v1, rfl, o1, b1⟩

/-- .. where the answer is known -/
theorem wsplit_is (hg : Glob w) {l : Txt} (hl : l.length ≤ maxLen) {E : Int} {X : List Txt} {n : Nat} (he : N.er l = E) (hp : N.ps l = X) (hn : X.length = n) :
    Calls Tryd.prog 75 #[TP b, .string (bs l)] w fun e w' => ∃ a c, e = .returned (.tuple #[.slice a n c, .int .i64 E]) ∧ PRow w' a c X ∧ Below w.heap.size w w' := by
  refine (wsplit_any (b := b) hg hl).mono fun e w' ⟨v, h1, h2, h3⟩ => ?_
  rw [hp] at h2
  obtain ⟨a, c, rfl, hr⟩ := PRow.of h2
  exact ⟨a, c, by rw [h1, he, hn], hr, h3⟩

theorem follow_is (h : TreeAt w b F c st) (hL : LinksOk st) (hg : Glob w) {d : Int} (hd : rng d) {a : Option Addr} {cc n : Nat} {qs : List Txt} (hn : qs.length = n) (hr : PRow w a cc qs) (hq : n ≤ 16) (htx : ∀ q ∈ qs, q.length ≤ maxLen) {E : Int} {y : Br} (hR : fol (lk st) 8 (dirN d) qs = (E, y)) :
    Calls Tryd.prog 60 #[TP b, .int .i64 d, .slice a n cc] w fun e w' => ∃ a' c', e = .returned (.tuple #[BrV y (.slice a' y.acl.length c'), .int .i64 E]) ∧ A.Own w.heap.size w' (.slice a' y.acl.length c') y.acl ∧ Below w.heap.size w w' := by
  subst hn
  have := follow_any h hL hg hd hr hq htx
  rw [hR] at this
  exact this

set_option maxHeartbeats 1000000 in
theorem directory_any (h : TreeAt w b F c st) (hL : LinksOk st) (hg : Glob w) {a : Option Addr} {cc n : Nat} {qs : List Txt} (hn : qs.length = n) (hr : PRow w a cc qs) (hq : n ≤ 16) (htx : ∀ q ∈ qs, q.length ≤ maxLen) {D E : Int} (hD : dirR (fol (lk st) 8 (dirN 0) qs) = (D, E)) :
    Calls Tryd.prog 76 #[TP b, .slice a n cc] w fun e w' => e = .returned (.tuple #[.int .i64 D, .int .i64 E]) ∧ Below w.heap.size w w' := by
  obtain ⟨⟨E1, y⟩, hR⟩ : ∃ R, fol (lk st) 8 (dirN 0) qs = R := ⟨_, rfl⟩
  have hf := follow_is h hL hg rng0 hn hr hq htx hR
  rw [hR] at hD
  clear hR h hL hg hr htx
  by_cases h1 : E1 = 0
  case neg =>
    obtain ⟨rfl, rfl⟩ : D = 0 ∧ E = E1 := by simp [dirR, h1] at hD; exact ⟨hD.1.symm, hD.2.symm⟩
    have e1 : (E == 0) = false := by simpa using h1
    have e1' : (E != 0) = true := by simpa using h1
    clear hD h1
    go_enter Tryd.func76, Tryd.ntmps76
    go_wp2_with (go_at_call 60; ((with_reducible refine hf.mono ?_); rintro e w1 ⟨a1, c1, rfl, o1, b1⟩))
    exact bodyPost_ret (v := .tuple #[.int .i64 0, .int .i64 E]) (by simp [results, Tryd.results76, go_sem]) rfl ⟨rfl, bel2 b1 (one_new _ _)⟩
  subst h1
  by_cases h2 : y.kind = 2
  case neg =>
    obtain ⟨rfl, rfl⟩ : D = 0 ∧ E = 15 := by simp [dirR, h2] at hD; exact ⟨hD.1.symm, hD.2.symm⟩
    have e2 : (y.kind == 2) = false := by simpa using h2
    have e2' : (y.kind != 2) = true := by simpa using h2
    clear hD h2
    go_enter Tryd.func76, Tryd.ntmps76
    go_wp2_with (go_at_call 60; ((with_reducible refine hf.mono ?_); rintro e w1 ⟨a1, c1, rfl, o1, b1⟩))
    exact bodyPost_ret (v := .tuple #[.int .i64 0, .int .i64 15]) (by simp [results, Tryd.results76, go_sem]) rfl ⟨rfl, bel2 b1 (one_new _ _)⟩
  obtain ⟨rfl, rfl⟩ : D = y.dir ∧ E = 0 := by simp [dirR, h2] at hD; exact ⟨hD.1.symm, hD.2.symm⟩
  have e2 : (y.kind == 2) = true := by simpa using h2
  have e2' : (y.kind != 2) = false := by simpa using h2
  clear hD h2
  go_enter Tryd.func76, Tryd.ntmps76
  go_wp2_with (go_at_call 60; ((with_reducible refine hf.mono ?_); rintro e w1 ⟨a1, c1, rfl, o1, b1⟩))
  exact bodyPost_ret (v := .tuple #[.int .i64 y.dir, .int .i64 0]) (by simp [results, Tryd.results76, go_sem]) rfl ⟨rfl, bel2 b1 (one_new _ _)⟩

theorem wDir_any (h : TreeAt w b F c st) (hL : LinksOk st) (hg : Glob w) {l : Txt} (hl : l.length ≤ maxLen) :
    Calls Tryd.prog 59 #[TP b, .string (bs l)] w fun e w' => e = .returned (.tuple #[.int .i64 (wDir (lk st) l).1, .int .i64 (wDir (lk st) l).2]) ∧ Below w.heap.size w w' := by
  have H := Lib.hid h
  have HL := Lib.hid hL
  have HG := Lib.hid hg
  rcases er_of l with he | ⟨he, hp⟩
  · obtain ⟨⟨D, E⟩, hD⟩ : ∃ R, dirR (fol (lk st) 8 (dirN 0) (N.ps l)) = R := ⟨_, rfl⟩
    have hw : wDir (lk st) l = (D, E) := by rw [wDir, if_pos he, hD]
    rw [hw]
    have hs := wsplit_is (b := b) hg hl he rfl rfl
    have HD := Lib.hid hD
    have h16 := N.ps_len l
    clear h hL hg hw hD he
    go_enter Tryd.func59, Tryd.ntmps59
    go_wp2_with (first
      | (go_at_call 75; ((with_reducible refine hs.mono ?_); rintro e w1 ⟨a1, c1, rfl, r1, b1⟩))
      | (go_at_call 76; ((refine (directory_any (H.out.below b1) HL.out (HG.out.below b1) rfl r1 h16 (ps_txt l) HD.out).mono ?_); rintro e w2 ⟨rfl, b2⟩)))
    exact bodyPost_ret (v := .tuple #[.int .i64 D, .int .i64 E]) (by simp [results, Tryd.results59, go_sem]) rfl ⟨rfl, bel2 b1 b2⟩
  · have hw : wDir (lk st) l = (0, 3) := by rw [wDir, if_neg (by omega)]
    rw [hw]
    have hs := wsplit_is (b := b) hg hl he hp rfl
    clear h hL hg hw hp he
    go_enter Tryd.func59, Tryd.ntmps59
    go_wp2_with (go_at_call 75; ((with_reducible refine hs.mono ?_); rintro e w1 ⟨a1, c1, rfl, r1, b1⟩))
    exact bodyPost_ret (v := .tuple #[.int .i64 0, .int .i64 3]) (by simp [results, Tryd.results59, go_sem]) rfl ⟨rfl, b1⟩

/-- a branch answered in a box of its own -/
theorem one_own {w0 w1 : World} {y : Br} {a' : Option Addr} {c' : Nat} (hX : BrAt w1 w0.heap.size noBr (.slice none 0 0)) (hb : Below w0.heap.size w0 w1) (ho : A.Own (w0.heap.size + 1) w1 (.slice a' y.acl.length c') y.acl) :
    BrAt (setBr w1 w0.heap.size y (.slice a' y.acl.length c')) w0.heap.size y (.slice a' y.acl.length c') ∧ A.Own w0.heap.size (setBr w1 w0.heap.size y (.slice a' y.acl.length c')) (.slice a' y.acl.length c') y.acl ∧ Below w0.heap.size w0 (setBr w1 w0.heap.size y (.slice a' y.acl.length c')) :=
  ⟨hX.stored _ _, own_base (own_setBr ho (by omega) _ _) (by omega), Below.setBr hb (Nat.le_refl _) _ _⟩

theorem prow_one (w : World) (s : Txt) : PRow (w.alloc (.cells #[.string (bs s)] 9)) (some ⟨w.heap.size, 0, none⟩) 1 [s] := by
  refine ⟨⟨by simp, fun _ => ⟨w.heap.size, 0, rfl, by simp, fun j p hp => ?_⟩⟩, fun h => by cases h⟩
  match j, hp with
  | 0, hp =>
    simp at hp
    subst hp
    rw [cell_of_row _ _ _ _ _ _ (heap_alloc_new w _)]
    rfl

set_option maxHeartbeats 1000000 in
theorem wIn_any (h : TreeAt w b F c st) (hL : LinksOk st) (hg : Glob w) {d : Int} (hd : rng d) {s : Txt} (hs : s.length ≤ maxLen) :
    Calls Tryd.prog 35 #[TP b, .int .i64 d, .string (bs s)] w (FolPost w (wIn (lk st) d s)) := by
  have H := Lib.hid h
  have HL := Lib.hid hL
  have HG := Lib.hid hg
  have X0 := Lib.hid (BrAt.new w noBr (.slice none 0 0))
  obtain ⟨⟨E, y⟩, hR⟩ : ∃ R, wIn (lk st) d s = R := ⟨_, rfl⟩
  have HR := Lib.hid hR
  rw [hR]
  unfold wIn at HR
  have P0 : Hid (PRow ((w.alloc (BrO noBr (.slice none 0 0))).alloc (.cells #[.string (bs s)] 9)) (some ⟨w.heap.size + 1, 0, none⟩) 1 [s]) := Lib.hid (by simpa using prow_one (w.alloc (BrO noBr (.slice none 0 0))) s)
  clear h hL hg hR
  go_enter Tryd.func35, Tryd.ntmps35
  go_wp2_with (go_at_call 60; ((refine (follow_is ((H.out.alloc _).alloc _) HL.out ((HG.out.below (one_new _ _)).below (one_new _ _)) hd (n := 1) rfl P0.out (by omega) (by simpa using hs) HR.out).mono ?_); rintro e w2 ⟨a2, c2, rfl, o2, b2⟩; have X2 := Lib.hid ((X0.out.alloc _).below b2); obtain ⟨s0, s1, s2, s3, s4, s5, s6, s7, s8, s9⟩ := X2.out.cell; have f2 := X2.out.fz; have hlt := X2.out.lt))
  obtain ⟨E1, E2, E3⟩ := one_own X2.out (bel2 (bel2 (one_new _ _) (one_new _ _)) b2) (own_base (base' := w.heap.size + 1) o2 (by simp))
  refine (show bodyPost _ _ _ _ _ (setBr w2 w.heap.size y (.slice a2 y.acl.length c2)) from ?_)
  generalize setBr w2 w.heap.size y (.slice a2 y.acl.length c2) = V at E1 E2 E3 ⊢
  obtain ⟨g0, g1, g2, g3, g4, g5, g6, g7, g8, g9⟩ := E1.cell
  exact bodyPost_ret (v := .tuple #[BrV y (.slice a2 y.acl.length c2), .int .i64 E]) (by simp [results, Tryd.results35, go_sem, g0, g1, g2, g3, g4, g5, g6, g7, g8, g9]) rfl ⟨a2, c2, rfl, E2, E3⟩

theorem prow_init {w : World} {a : Option Addr} {c : Nat} {q : List Txt} {z : Txt} (h : PRow w a c (q ++ [z])) : PRow w a c q ∧ q.length + 1 ≤ c ∧ ∃ bk o, a = some ⟨bk, o, none⟩ ∧ bk < w.heap.size ∧ w.cell? ⟨bk, o + q.length, none⟩ = some (.string (bs z)) := by
  have h0 := h.1.1
  simp only [List.length_append, List.length_cons, List.length_nil] at h0
  obtain ⟨bk, o, e, hl, hc⟩ := h.1.2 (by simp)
  refine ⟨⟨⟨by omega, fun _ => ⟨bk, o, e, hl, fun j p hp => hc j p ?_⟩⟩, h.2⟩, by omega, bk, o, e, hl, hc _ _ (by simp)⟩
  rw [List.getElem?_append_left (List.getElem?_eq_some_iff.1 hp).1]
  exact hp

end

end Go.Proofs.YtpcdcmoapenbdaaDoor.T
