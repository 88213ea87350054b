/-
  The document's own walker: to.
  The document's own walker: find; the four walks of the document's tree.
  The document's own In; Find, of a path.
  The document's own walks of what is no path; Find.
  The document's own Dir and To.
-/
import Derived.Test.YtdlgliajfmfngaaDoorMWalkIn
import Derived.BigQuiet
namespace Go.Proofs.YtdlgliajfmfngaaDoor.T
open Go.ChangeShapes Go.WideShapes Go.ChangeAt Go.RowKit
open Go.Proofs.YtdlgliajfmfngaaDoor.N (bs bs_data bs_size bs_inj bs_of Glob Row)
open Go.Proofs.YtdlgliajfmfngaaDoor.A (Tm TRow)

/-- where a path's directory is -/
def LeadTo (L : Int → Txt → Option Br) (n : Nat) (qs : List Txt) (E d' : Int) (n' : Nat) : Prop :=
  (E = 0 ∧ n' ≤ n ∧ ∃ x : Br, x.kind = 2 ∧ x.dir = d' ∧ ∀ rest, fol L n (dirN 0) (qs ++ rest) = fol L n' x rest) ∨
  (E ≠ 0 ∧ d' = 0 ∧ ((∀ rest, fol L n (dirN 0) (qs ++ rest) = (E, noBr)) ∨ (E = 15 ∧ ∃ x : Br, ¬ x.kind = 2 ∧ ∀ rest, fol L n (dirN 0) (qs ++ rest) = fol L n' x rest)))

/-- parts that lie there -/
structure Pt (V : World) (bk o : Nat) (ps : List Txt) : Prop where
  lt : bk < V.heap.size
  at_ : ∀ j p, ps[j]? = some p → V.cell? ⟨bk, o + j, none⟩ = some (.string (bs p))
theorem Pt.went {V V' : World} {bk o q : Nat} {ps : List Txt} (h : Pt V bk o ps) (hq : bk ≠ q) (ht : Went (· = q) V (· = q) V') : Pt V' bk o ps :=
  ⟨Nat.lt_of_lt_of_le h.lt ht.size, fun j p e => (cell_of_heap (ht.block bk h.lt hq)).trans (h.at_ j p e)⟩
theorem Pt.ne {V : World} {bk o q b k : Nat} {p : Txt} {ps : List Txt} (h : Pt V bk o (p :: ps)) (hw : Wk V q b k) : bk ≠ q := by
  rintro rfl
  have h1 := h.at_ 0 p rfl
  unfold Wk at hw
  simp only [World.cell?, hw] at h1
  rcases o with _ | _ | o
  · simp at h1
  · simp at h1
  · simp at h1

/-- so far -/
structure Tt (L : Int → Txt → Option Br) (w W : World) (q b n bk o : Nat) (qs : List Txt) (z : Txt) (j : Nat) (dd : Int) (n' : Nat) : Prop where
  went : Went (· = q) w (· = q) W
  wk : Wk W q b (8 - n')
  part : Pt W bk o (qs ++ [z])
  le : n' ≤ n
  lead : ∃ x : Br, x.kind = 2 ∧ x.dir = dd ∧ ∀ rest, fol L n (dirN 0) (qs.take j ++ rest) = fol L n' x rest

section
variable {L : Int → Txt → Option Br} {w W : World} {q b n bk o : Nat} {qs : List Txt} {z : Txt} {j : Nat} {dd : Int} {n' : Nat}

theorem Tt.ne (h : Tt L w W q b n bk o qs z j dd n') : bk ≠ q := by
  have h1 := h.part
  cases hq : qs ++ [z] with
  | nil => simp at hq
  | cons p ps =>
    rw [hq] at h1
    exact h1.ne h.wk
theorem take_rest (hj : j < qs.length) (rest : List Txt) : qs.take (j + 1) ++ rest = qs.take j ++ (qs[j] :: rest) := by
  rw [List.take_succ_eq_append_getElem hj, List.append_assoc]
  rfl
/-- one part more -/
theorem Tt.more (h : Tt L w W q b n bk o qs z j dd n') (hj : j < qs.length) {y : Br} {n'' : Nat} {E : Int} (hl : Leads L n' (dirN dd) [qs[j]] E y n'') (hE : E = 0) : n'' ≤ n ∧ ∀ rest, fol L n (dirN 0) (qs.take (j + 1) ++ rest) = fol L n'' y rest := by
  obtain ⟨x, hx, hd, h1⟩ := h.lead
  rcases hl with ⟨_, h3, h4⟩ | ⟨h2, _⟩
  · exact ⟨Nat.le_trans h3 h.le, fun rest => by rw [take_rest hj, h1, fol_dir L n' hx, hd]; exact h4 rest⟩
  · exact absurd hE h2
theorem Tt.bad (h : Tt L w W q b n bk o qs z j dd n') (hj : j < qs.length) {y : Br} {n'' : Nat} {E : Int} (hl : Leads L n' (dirN dd) [qs[j]] E y n'') (hE : ¬ E = 0) : LeadTo L n qs E 0 n'' := by
  obtain ⟨x, hx, hd, h1⟩ := h.lead
  rcases hl with ⟨h2, _⟩ | ⟨_, _, h4⟩
  · exact absurd h2 hE
  · refine Or.inr ⟨hE, rfl, Or.inl fun rest => ?_⟩
    have e : qs ++ rest = qs.take (j + 1) ++ (qs.drop (j + 1) ++ rest) := by rw [← List.append_assoc, List.take_append_drop]
    rw [e, take_rest hj, h1, fol_dir L n' hx, hd]
    exact h4 _
theorem Tt.kind (h : Tt L w W q b n bk o qs z j dd n') (hj : j < qs.length) {y : Br} {n'' : Nat} {E : Int} (hl : Leads L n' (dirN dd) [qs[j]] E y n'') (hE : E = 0) (hk : ¬ y.kind = 2) : LeadTo L n qs 15 0 n'' := by
  have h1 := (h.more hj hl hE).2
  refine Or.inr ⟨by decide, rfl, ?_⟩
  have e : ∀ rest, qs ++ rest = qs.take (j + 1) ++ (qs.drop (j + 1) ++ rest) := fun rest => by rw [← List.append_assoc, List.take_append_drop]
  cases hd : qs.drop (j + 1) with
  | nil => exact Or.inr ⟨rfl, y, hk, fun rest => by rw [e, hd, h1]; rfl⟩
  | cons p ps => exact Or.inl fun rest => by rw [e, hd, h1]; exact fol_kind L n'' hk _ _
end

/-- the document's Split, of a path that has parts -/
theorem refSplit_to {l z : Txt} {qs : List Txt} (hl : l.length ≤ maxLen) (he : N.er l = 0) (hp : N.ps l = qs ++ [z]) (w : World) :
    Calls Tryd.prog 62 #[.string (bs l)] w fun e w' => ∃ bk o c, e = .returned (.tuple #[.slice (some ⟨bk, o, none⟩) (qs.length + 1) c, .int .i64 0]) ∧ qs.length + 1 ≤ c ∧ Pt w' bk o (qs ++ [z]) ∧ Below w.heap.size w w' := by
  have h := N.refSplit_any (bs l) w (by rw [bs_size]; exact hl)
  rw [bs_data] at h
  refine h.mono ?_
  rintro e w' ⟨a, c, rfl, ⟨h1, h2⟩, hb⟩
  rw [hp] at h1 h2 ⊢
  rw [he]
  obtain ⟨bk, o, rfl, h3, h4⟩ := h2 (by simp)
  exact ⟨bk, o, c, by simp, by simpa using h1, ⟨h3, h4⟩, hb⟩

section
variable {w : World} {b : Nat} {F : Nat → Prop} {m : Ms}

/-- what the walker's to answers -/
def LedTo (L : Int → Txt → Option Br) (w : World) (q b n : Nat) (qs : List Txt) (z : Txt) (e : Ending) (w' : World) : Prop :=
  ∃ E d' n', e = .returned (.tuple #[.int .i64 d', .string (bs (if E = 0 then z else [])), .int .i64 E]) ∧ LeadTo L n qs E d' n' ∧ (E = 0 → Wk w' q b (8 - n')) ∧ Went (· = q) w (· = q) w'

theorem keepq {q : Nat} {W : World} (h : MAt w b F m) (hq : ¬ F q) (ht : Went (· = q) w (· = q) W) : MAt W b F m :=
  h.keep ht.size (fun i hi => ht.block i (h.ltF i hi) (fun e => hq (by rw [← e]; exact hi)))

set_option maxHeartbeats 4000000 in
set_option maxRecDepth 8000 in
theorem rto_any {q n : Nat} (h : MAt w b F m) (hq : ¬ F q) (hw : Wk w q b (8 - n)) {l z : Txt} {qs : List Txt} (hl : l.length ≤ maxLen) (he : N.er l = 0) (hp : N.ps l = qs ++ [z])
    (hI : ∀ (V : World) (n' : Nat) (d : Int) (s : Txt), n' ≤ n → MAt V b F m → Wk V q b (8 - n') → Calls Tryd.prog 41 #[TP q, .int .i64 d, .string (bs s)] V (Led F (lkM m) V q b n' (dirN d) [s])) :
    Calls Tryd.prog 39 #[TP q, .string (bs l)] w (LedTo (lkM m) w q b n qs z) := by
  have hs := refSplit_to hl he hp w
  have H := Lib.hid h
  have HQ := Lib.hid hq
  have HW := Lib.hid hw
  have hql : qs.length ≤ 16 := by have := N.ps_len l; rw [hp, List.length_append] at this; simp at this; omega
  have e0 : (((qs.length : Int) + 1) == 0) = false := by rw [beq_eq_false_iff_ne]; omega
  clear h hq hw hl he hp
  go_enter Tryd.func39, Tryd.ntmps39
  go_wp2_with (go_at_call 62; ((refine hs.mono ?_); rintro e w1 ⟨bk, o, c, rfl, hc, pt, b1⟩; have P1 := Lib.hid pt; have B1 := Lib.hid b1; clear pt b1))
  go_loopw [9, 10] (fun d i W => ∃ (j : Nat) (dd : Int) (n' : Nat), j ≤ qs.length ∧ d = .int .i64 dd ∧ i = .int .i64 j ∧ Tt (lkM m) w W q b n bk o qs z j dd n') (fun _ i _ => qs.length - (intOf i).toNat)
  case atStart => exact ⟨0, 0, n, Nat.zero_le _, rfl, rfl, went_below B1.out, HW.out.below B1.out, P1.out, Nat.le_refl _, dirN 0, rfl, rfl, fun rest => rfl⟩
  case round =>
    obtain ⟨j, dd, n', hj, rfl, rfl, tt⟩ := hrel
    have TT := Lib.hid tt
    have lb := tt.part.lt
    have v1 : IntKind.i64.wrap (qs.length : Int) = (qs.length : Int) := IntWalk.i64_in _ (by omega)
    by_cases hjl : j < qs.length
    · have cj := tt.part.at_ j qs[j] (by rw [List.getElem?_append_left hjl, List.getElem?_eq_getElem hjl])
      clear tt
      go_wp2_with (go_at_call 41; ((refine (hI _ n' dd qs[j] TT.out.le (keepq H.out HQ.out TT.out.went) TT.out.wk).mono ?_); rintro e w5 ⟨E, y, n'', a5, c5, rfl, h5, l5, k5, t5⟩; have L5 := Lib.hid l5; have K5 := Lib.hid k5; have T5 := Lib.hid t5; have X5 := Lib.hid (BmAt.new w5 y (.slice a5 y.acl.length c5)); obtain ⟨x0, x1, x2, x3, x4, x5, x6, x7, x8, x9⟩ := X5.out.cell; have xl := X5.out.lt; clear h5 l5 k5 t5))
      · have hE : ¬ E = 0 := by simpa using ‹(E != 0) = true›
        have wt := TT.out.went.trans (T5.out.trans (went_below (q := q) (one_new w5 (BmO y (.slice a5 y.acl.length c5)))))
        exact bodyPost_ret (v := .tuple #[.int .i64 0, .string ⟨#[]⟩, .int .i64 E]) (by simp [results, Tryd.results39, go_sem]) rfl ⟨E, 0, n'', by rw [if_neg hE]; rfl, TT.out.bad hjl L5.out hE, fun e => absurd e hE, wt⟩
      · have hE : E = 0 := by simpa using ‹(E != 0) = false›
        have hk : ¬ y.kind = 2 := by simpa using ‹(y.kind != 2) = true›
        have wt := TT.out.went.trans (T5.out.trans (went_below (q := q) (one_new w5 (BmO y (.slice a5 y.acl.length c5)))))
        exact bodyPost_ret (v := .tuple #[.int .i64 0, .string ⟨#[]⟩, .int .i64 15]) (by simp [results, Tryd.results39, go_sem]) rfl ⟨15, 0, n'', rfl, TT.out.kind hjl L5.out hE hk, fun e => absurd e (by decide), wt⟩
      · have hE : E = 0 := by simpa using ‹(E != 0) = false›
        have hk : y.kind = 2 := by simpa using ‹(y.kind != 2) = false›
        have wt := TT.out.went.trans (T5.out.trans (went_below (q := q) (one_new w5 (BmO y (.slice a5 y.acl.length c5)))))
        have mo := TT.out.more hjl L5.out hE
        have ne := TT.out.ne
        have pp := (TT.out.part.went ne T5.out).went ne (went_below (q := q) (one_new w5 (BmO y (.slice a5 y.acl.length c5))))
        have wk := (K5.out hE).below (one_new w5 (BmO y (.slice a5 y.acl.length c5)))
        go_roundw
        case rel => exact ⟨j + 1, y.dir, n'', by omega, rfl, by go_num, wt, wk, pp, mo.1, y, hk, rfl, mo.2⟩
        case measure => simp [intOf]; omega
    · obtain rfl : j = qs.length := by omega
      have cj := tt.part.at_ qs.length z (by rw [List.getElem?_append_right (Nat.le_refl _)]; simp)
      clear tt
      go_wp2
      go_quiet (fail)
      go_wp2
      have wt := TT.out.went.trans (went_below (q := q) (below_drewN (Below.refl wr.heap.size wr) nq))
      obtain ⟨x, hx, hd, hr⟩ := TT.out.lead
      rw [List.take_length] at hr
      exact bodyPost_ret (v := .tuple #[.int .i64 dd, .string (bs z), .int .i64 0]) (by simp [results, Tryd.results39, go_sem]) rfl ⟨0, dd, n', rfl, Or.inl ⟨rfl, TT.out.le, x, hx, hd, hr⟩, fun _ => TT.out.wk, wt⟩

end

end Go.Proofs.YtdlgliajfmfngaaDoor.T

namespace Go.Proofs.YtdlgliajfmfngaaDoor.T
open Go.ChangeShapes Go.WideShapes Go.ChangeAt Go.RowKit
open Go.Proofs.YtdlgliajfmfngaaDoor.N (bs bs_data bs_size bs_inj bs_of Glob Row)
open Go.Proofs.YtdlgliajfmfngaaDoor.A (Tm TRow)

theorem find_err {L : Int → Txt → Option Br} {n n' : Nat} {qs : List Txt} {z : Txt} {E d' : Int} (h : LeadTo L n qs E d' n') (hE : ¬ E = 0) : Leads L n (dirN 0) (qs ++ [z]) E noBr n' := by
  rcases h with ⟨h1, _⟩ | ⟨_, _, h3 | ⟨h3, x, hx, h4⟩⟩
  · exact absurd h1 hE
  · exact Or.inr ⟨hE, rfl, fun rest => by rw [List.append_assoc]; exact h3 _⟩
  · exact Or.inr ⟨hE, rfl, fun rest => by rw [List.append_assoc, h4, h3]; exact fol_kind L n' hx _ _⟩
theorem find_on {L : Int → Txt → Option Br} {n n' n'' : Nat} {qs : List Txt} {z : Txt} {E d' : Int} {y : Br} (h : LeadTo L n qs 0 d' n') (h2 : Leads L n' (dirN d') [z] E y n'') : Leads L n (dirN 0) (qs ++ [z]) E y n'' := by
  rcases h with ⟨_, h1, x, hx, hd, h3⟩ | ⟨h, _⟩
  · have e : ∀ rest, fol L n (dirN 0) ((qs ++ [z]) ++ rest) = fol L n' (dirN d') ([z] ++ rest) := fun rest => by
      rw [List.append_assoc, h3, ← hd]
      exact fol_dir L n' hx _ _
    rcases h2 with ⟨a1, a2, a3⟩ | ⟨a1, a2, a3⟩
    · exact Or.inl ⟨a1, Nat.le_trans a2 h1, fun rest => (e rest).trans (a3 rest)⟩
    · exact Or.inr ⟨a1, a2, fun rest => (e rest).trans (a3 rest)⟩
  · exact absurd rfl h
theorem LeadTo.le {L : Int → Txt → Option Br} {n n' : Nat} {qs : List Txt} {d' : Int} (h : LeadTo L n qs 0 d' n') : n' ≤ n := by
  rcases h with ⟨_, h, _⟩ | ⟨h, _⟩
  · exact h
  · exact absurd rfl h

section
variable {w : World} {b : Nat} {F : Nat → Prop} {m : Ms}

set_option maxHeartbeats 4000000 in
theorem rfind_root {q n : Nat} (hw : Wk w q b (8 - n)) {l : Txt} (hl : l = [62]) :
    Calls Tryd.prog 38 #[TP q, .string (bs l)] w (Led F (lkM m) w q b n (dirN 0) []) := by
  have HW := Lib.hid hw
  have t1 : ((bs l).toList == [62]) = true := by rw [A.bs_toList, hl]; rfl
  clear hw hl
  go_enter Tryd.func38, Tryd.ntmps38
  go_wp2
  refine (show bodyPost _ _ _ _ _ (w.alloc (BmO (dirN 0) (.slice none 0 0))) from ?_)
  have Z := BmAt.new w (dirN 0) (.slice none 0 0)
  have T := went_below (q := q) (one_new w (BmO (dirN 0) (.slice none 0 0)))
  have W5 := HW.out.below (one_new w (BmO (dirN 0) (.slice none 0 0)))
  generalize w.alloc (BmO (dirN 0) (.slice none 0 0)) = V5 at Z T W5 ⊢
  obtain ⟨g0, g1, g2, g3, g4, g5, g6, g7, g8, g9⟩ := Z.cell
  exact bodyPost_ret (v := .tuple #[BrV (dirN 0) (.slice none 0 0), .int .i64 0]) (by simp [results, Tryd.results38, go_sem, g0, g1, g2, g3, g4, g5, g6, g7, g8, g9]) rfl ⟨0, dirN 0, n, none, 0, rfl, Held.nil _ _, Or.inl ⟨rfl, Nat.le_refl _, fun rest => rfl⟩, fun _ => W5, T⟩

set_option maxHeartbeats 4000000 in
set_option maxRecDepth 8000 in
theorem rfind_on {q n : Nat} (h : MAt w b F m) (hq : ¬ F q) (hw : Wk w q b (8 - n)) {l z : Txt} {qs : List Txt} (hl : l.length ≤ maxLen) (he : N.er l = 0) (hp : N.ps l = qs ++ [z]) (hn : ¬ l = [62])
    (hI : ∀ (V : World) (n' : Nat) (d : Int) (s : Txt), n' ≤ n → MAt V b F m → Wk V q b (8 - n') → Calls Tryd.prog 41 #[TP q, .int .i64 d, .string (bs s)] V (Led F (lkM m) V q b n' (dirN d) [s])) :
    Calls Tryd.prog 38 #[TP q, .string (bs l)] w (Led F (lkM m) w q b n (dirN 0) (N.ps l)) := by
  have ht := rto_any (h.below (one_new w (BmO noBr (.slice none 0 0)))) hq (hw.below (one_new w (BmO noBr (.slice none 0 0)))) hl he hp hI
  have X0 := Lib.hid (BmAt.new w noBr (.slice none 0 0))
  have H := Lib.hid h
  have HQ := Lib.hid hq
  have wl := hw.lt
  have HF := Lib.hid h.ltF
  have n1 : w.heap.size ≠ q := by omega
  have n1' : q ≠ w.heap.size := n1.symm
  have t1 : ((bs l).toList == [62]) = false := by rw [A.bs_toList, beq_eq_false_iff_ne]; exact hn
  rw [hp]
  clear h hq hw hl he hp hn
  go_enter Tryd.func38, Tryd.ntmps38
  go_wp2_with (first
    | (go_at_call 39; ((refine ht.mono ?_); rintro e w1 ⟨E, d', n', rfl, lt1, k1, tq⟩; have L1 := Lib.hid lt1; have K1 := Lib.hid k1; have T1 := Lib.hid tq; have X1 : Hid (BmAt w1 w.heap.size noBr (.slice none 0 0)) := Lib.hid ((tq.block w.heap.size (by simp) n1).trans X0.out); clear lt1 k1 tq; obtain ⟨x0, x1, x2, x3, x4, x5, x6, x7, x8, x9⟩ := X1.out.cell; have xf := X1.out.fz; have xl := X1.out.lt; have HZ : Hid (E = 0 → (if E = 0 then z else []) = z) := Lib.hid (fun e => if_pos e); generalize (if E = 0 then z else []) = zz at HZ ⊢))
    | (go_at_call 41; ((have hE : E = 0 := by simpa using ‹(E != 0) = false›); have hz := HZ.out hE; subst hz; subst hE; (refine (hI w1 n' d' zz L1.out.le (keepq H.out HQ.out ((went_below (q := q) (one_new w (BmO noBr (.slice none 0 0)))).trans T1.out)) (K1.out rfl)).mono ?_); rintro e w5 ⟨E5, y, n5, a5, c5, rfl, h5, l5, k5, t5⟩; have H5 := Lib.hid h5; have L5 := Lib.hid (find_on L1.out l5); have K5 := Lib.hid k5; have T5 := Lib.hid t5; have X5 : Hid (BmAt w5 w.heap.size noBr (.slice none 0 0)) := Lib.hid ((t5.block w.heap.size xl n1).trans X1.out); clear h5 l5 k5 t5 x0 x1 x2 x3 x4 x5 x6 x7 x8 x9 xf; obtain ⟨x0, x1, x2, x3, x4, x5, x6, x7, x8, x9⟩ := X5.out.cell; have xf := X5.out.fz; have xl5 := X5.out.lt)))
  · have hE : ¬ E = 0 := by simpa using ‹(E != 0) = true›
    refine (show bodyPost _ _ _ _ _ (setBr w1 w.heap.size noBr (.slice none 0 0)) from ?_)
    have Z := BmAt.stored X1.out noBr (.slice none 0 0)
    have T := wentq_setBr (q := q) ((went_below (q := q) (one_new w (BmO noBr (.slice none 0 0)))).trans T1.out) (Nat.le_refl _) noBr (.slice none 0 0)
    generalize setBr w1 w.heap.size noBr (.slice none 0 0) = V5 at Z T ⊢
    obtain ⟨g0, g1, g2, g3, g4, g5, g6, g7, g8, g9⟩ := Z.cell
    exact bodyPost_ret (v := .tuple #[BrV noBr (.slice none 0 0), .int .i64 E]) (by simp [results, Tryd.results38, go_sem, g0, g1, g2, g3, g4, g5, g6, g7, g8, g9]) rfl ⟨E, noBr, n', none, 0, rfl, Held.nil _ _, find_err L1.out hE, fun e => absurd e hE, T⟩
  · refine (show bodyPost _ _ _ _ _ (setBr w5 w.heap.size y (.slice a5 y.acl.length c5)) from ?_)
    have wt := (went_below (q := q) (one_new w (BmO noBr (.slice none 0 0)))).trans T1.out
    have Z := BmAt.stored X5.out y (.slice a5 y.acl.length c5)
    have T := wentq_setBr (q := q) (wt.trans T5.out) (Nat.le_refl _) y (.slice a5 y.acl.length c5)
    have W5 : E5 = 0 → Wk (setBr w5 w.heap.size y (.slice a5 y.acl.length c5)) q b (8 - n5) := fun e => (K5.out e).far (heap_setBr n1' _ _)
    generalize setBr w5 w.heap.size y (.slice a5 y.acl.length c5) = V5 at Z T W5 ⊢
    obtain ⟨g0, g1, g2, g3, g4, g5, g6, g7, g8, g9⟩ := Z.cell
    exact bodyPost_ret (v := .tuple #[BrV y (.slice a5 y.acl.length c5), .int .i64 E5]) (by simp [results, Tryd.results38, go_sem, g0, g1, g2, g3, g4, g5, g6, g7, g8, g9]) rfl ⟨E5, y, n5, a5, c5, rfl, H5.out.of (fun i hi => (wt.block i (HF.out i hi) (fun e : i = q => HQ.out (by rw [← e]; exact hi))).symm), L5.out, W5, T⟩

theorem root_of {l : Txt} (he : N.er l = 0) (hp : N.ps l = []) : l = [62] := by
  unfold N.er at he
  cases h : N.partsOf l with
  | none => rw [h] at he; cases he
  | some q =>
    have e : q = [] := by rw [N.ps, h] at hp; exact hp
    subst e
    exact (N.partsOf_some h).1

/-- find, of a path -/
theorem rfind_any {q n : Nat} (h : MAt w b F m) (hq : ¬ F q) (hw : Wk w q b (8 - n)) {l : Txt} (hl : l.length ≤ maxLen) (he : N.er l = 0)
    (hI : ∀ (V : World) (n' : Nat) (d : Int) (s : Txt), n' ≤ n → MAt V b F m → Wk V q b (8 - n') → Calls Tryd.prog 41 #[TP q, .int .i64 d, .string (bs s)] V (Led F (lkM m) V q b n' (dirN d) [s])) :
    Calls Tryd.prog 38 #[TP q, .string (bs l)] w (Led F (lkM m) w q b n (dirN 0) (N.ps l)) := by
  rcases List.eq_nil_or_concat (N.ps l) with hp | ⟨qs, z, hp⟩
  · rw [hp]
    exact rfind_root hw (root_of he hp)
  · rw [List.concat_eq_append] at hp
    exact rfind_on h hq hw hl he hp (fun e => by rw [e] at hp; exact absurd (congrArg List.length hp) (by simp [show N.ps [62] = [] from by decide])) hI

/-- in, where n links more may be followed -/
theorem rin_any (hL : LinksM m) {q : Nat} (hq : ¬ F q) : ∀ (n : Nat), n ≤ 8 → ∀ (V : World) (d : Int) (s : Txt), MAt V b F m → Wk V q b (8 - n) → Calls Tryd.prog 41 #[TP q, .int .i64 d, .string (bs s)] V (Led F (lkM m) V q b n (dirN d) [s]) := by
  intro n
  induction n using Nat.strongRecOn with
  | ind n ih =>
    intro hn V d s h hw
    cases hx : lkM m d s with
    | none => exact rin_no h hw hx
    | some x =>
      by_cases hk : x.kind = 3
      · cases n with
        | zero => exact rin_stop h hw hx hk
        | succ n =>
          refine rin_link h hL hq (k := 8 - (n + 1)) hw (by omega) hx hk ?_
          intro V l h' hw' hl he
          exact rfind_any h' hq hw' (by unfold maxLen; omega) he (fun V n' d s hn' h'' hw'' => ih n' (by omega) (by omega) V d s h'' hw'')
      · exact rin_yes h hw hx hk

end

end Go.Proofs.YtdlgliajfmfngaaDoor.T

namespace Go.Proofs.YtdlgliajfmfngaaDoor.T
open Go.ChangeShapes Go.WideShapes Go.ChangeAt Go.RowKit
open Go.Proofs.YtdlgliajfmfngaaDoor.N (bs bs_data bs_size bs_inj bs_of Glob Row)
open Go.Proofs.YtdlgliajfmfngaaDoor.A (Tm TRow)

theorem leads_is {L : Int → Txt → Option Br} {n n' : Nat} {x y : Br} {ps : List Txt} {E : Int} (h : Leads L n x ps E y n') : fol L n x ps = (E, y) := by
  rcases h with ⟨h1, _, h3⟩ | ⟨_, h2, h3⟩
  · have := h3 []
    rw [List.append_nil, fol_nil] at this
    rw [this, h1]
  · have := h3 []
    rw [List.append_nil] at this
    rw [this, h2]

/-- what the document's In and Find answer -/
def LedM (w : World) (R : Int × Br) (e : Ending) (w' : World) : Prop :=
  ∃ a' c', e = .returned (.tuple #[BrV R.2 (.slice a' R.2.acl.length c'), .int .i64 R.1]) ∧ TRow w' a' c' R.2.acl ∧ Below w.heap.size w w'

section
variable {w : World} {b : Nat} {F : Nat → Prop} {m : Ms}

@[reducible] def twoW (w : World) (b : Nat) : World := (w.alloc (BmO noBr (.slice none 0 0))).alloc (WkO b 0)
theorem two_bel (w : World) (b : Nat) : Below w.heap.size w (twoW w b) := bel2 (one_new w _) (one_new _ _)
theorem two_wk (w : World) (b : Nat) : Wk (twoW w b) (w.heap.size + 1) b (8 - 8) := alloc2_new' w _ _
theorem two_box (w : World) (b : Nat) : BmAt (twoW w b) w.heap.size noBr (.slice none 0 0) := (BmAt.new w _ _).below (one_new _ _)
theorem two_end {V : World} {x : Br} {a : Option Addr} {c : Nat} (h : MAt w b F m) (hh : Held F (twoW w b) a c x.acl) (ht : Went (· = w.heap.size + 1) (twoW w b) (· = w.heap.size + 1) V) :
    TRow (setBr V w.heap.size x (.slice a x.acl.length c)) a c x.acl ∧ Below w.heap.size w (setBr V w.heap.size x (.slice a x.acl.length c)) := by
  constructor
  · have h1 : Held F (setBr V w.heap.size x (.slice a x.acl.length c)) a c x.acl := hh.of (fun i hi => by
      have hl := h.ltF i hi
      exact (heap_setBr (by omega) _ _).trans (ht.block i (Nat.lt_of_lt_of_le hl (two_bel w b).size) (by omega)))
    obtain ⟨a', c', e, h2⟩ := own_trow h1.1
    cases e
    exact h2
  · exact Below.setBr ((two_bel w b).trans (ht.below (B := w.heap.size) (fun i e => by omega) (two_bel w b).size)) (Nat.le_refl _) _ _

set_option maxHeartbeats 2000000 in
set_option maxRecDepth 8000 in
theorem rIn_any (h : MAt w b F m) (hL : LinksM m) (d : Int) (s : Txt) :
    Calls Tryd.prog 22 #[TP b, .int .i64 d, .string (bs s)] w (LedM w (wIn (lkM m) d s)) := by
  have hc := rin_any (b := b) (F := F) hL (q := w.heap.size + 1) (fun hf => by have := h.ltF _ hf; omega) 8 (Nat.le_refl _) (twoW w b) d s (h.below (two_bel w b)) (two_wk w b)
  have H := Lib.hid h
  clear h hL
  unfold wIn
  go_enter Tryd.func22, Tryd.ntmps22
  go_wp2_with (go_at_call 41; ((refine hc.mono ?_); rintro e w5 ⟨E, y, n5, a5, c5, rfl, h5, l5, k5, t5⟩; have H5 := Lib.hid h5; have L5 := Lib.hid (leads_is l5); have T5 := Lib.hid t5; have X5 : Hid (BmAt w5 w.heap.size noBr (.slice none 0 0)) := Lib.hid ((t5.block w.heap.size (two_box w b).lt (by omega)).trans (two_box w b)); clear h5 l5 k5 t5; obtain ⟨x0, x1, x2, x3, x4, x5, x6, x7, x8, x9⟩ := X5.out.cell; have xf := X5.out.fz; have xl := X5.out.lt))
  refine (show bodyPost _ _ _ _ _ (setBr w5 w.heap.size y (.slice a5 y.acl.length c5)) from ?_)
  obtain ⟨R5, B5⟩ := two_end H.out H5.out T5.out
  have Z := BmAt.stored X5.out y (.slice a5 y.acl.length c5)
  generalize setBr w5 w.heap.size y (.slice a5 y.acl.length c5) = V5 at Z R5 B5 ⊢
  obtain ⟨g0, g1, g2, g3, g4, g5, g6, g7, g8, g9⟩ := Z.cell
  exact bodyPost_ret (v := .tuple #[BrV y (.slice a5 y.acl.length c5), .int .i64 E]) (by simp [results, Tryd.results22, go_sem, g0, g1, g2, g3, g4, g5, g6, g7, g8, g9]) rfl (by rw [L5.out]; exact ⟨a5, c5, rfl, R5, B5⟩)

set_option maxHeartbeats 2000000 in
set_option maxRecDepth 8000 in
theorem rFind_path (h : MAt w b F m) (hL : LinksM m) {l : Txt} (hl : l.length ≤ maxLen) (he : N.er l = 0) :
    Calls Tryd.prog 18 #[TP b, .string (bs l)] w (LedM w (wFind (lkM m) l)) := by
  have hq : ¬ F (w.heap.size + 1) := fun hf => by have := h.ltF _ hf; omega
  have hc := rfind_any (n := 8) (h.below (two_bel w b)) hq (two_wk w b) hl he (fun V n' d s hn h' hw => rin_any hL hq n' hn V d s h' hw)
  have H := Lib.hid h
  unfold wFind
  rw [if_pos he]
  clear h hL hl he hq
  go_enter Tryd.func18, Tryd.ntmps18
  go_wp2_with (go_at_call 38; ((refine hc.mono ?_); rintro e w5 ⟨E, y, n5, a5, c5, rfl, h5, l5, k5, t5⟩; have H5 := Lib.hid h5; have L5 := Lib.hid (leads_is l5); have T5 := Lib.hid t5; have X5 : Hid (BmAt w5 w.heap.size noBr (.slice none 0 0)) := Lib.hid ((t5.block w.heap.size (two_box w b).lt (by omega)).trans (two_box w b)); clear h5 l5 k5 t5; obtain ⟨x0, x1, x2, x3, x4, x5, x6, x7, x8, x9⟩ := X5.out.cell; have xf := X5.out.fz; have xl := X5.out.lt))
  refine (show bodyPost _ _ _ _ _ (setBr w5 w.heap.size y (.slice a5 y.acl.length c5)) from ?_)
  obtain ⟨R5, B5⟩ := two_end H.out H5.out T5.out
  have Z := BmAt.stored X5.out y (.slice a5 y.acl.length c5)
  generalize setBr w5 w.heap.size y (.slice a5 y.acl.length c5) = V5 at Z R5 B5 ⊢
  obtain ⟨g0, g1, g2, g3, g4, g5, g6, g7, g8, g9⟩ := Z.cell
  exact bodyPost_ret (v := .tuple #[BrV y (.slice a5 y.acl.length c5), .int .i64 E]) (by simp [results, Tryd.results18, go_sem, g0, g1, g2, g3, g4, g5, g6, g7, g8, g9]) rfl (by rw [L5.out]; exact ⟨a5, c5, rfl, R5, B5⟩)

end

end Go.Proofs.YtdlgliajfmfngaaDoor.T

namespace Go.Proofs.YtdlgliajfmfngaaDoor.T
open Go.ChangeShapes Go.WideShapes Go.ChangeAt Go.RowKit
open Go.Proofs.YtdlgliajfmfngaaDoor.N (bs bs_data bs_size bs_inj bs_of Glob Row)
open Go.Proofs.YtdlgliajfmfngaaDoor.A (Tm TRow)

section
variable {w : World} {b : Nat} {F : Nat → Prop} {m : Ms}

theorem refSplit_no {l : Txt} (hl : l.length ≤ maxLen) (hp : N.ps l = []) (w : World) :
    Calls Tryd.prog 62 #[.string (bs l)] w fun e w' => ∃ a c, e = .returned (.tuple #[.slice a 0 c, .int .i64 (N.er l)]) ∧ Below w.heap.size w w' := by
  have h := N.refSplit_any (bs l) w (by rw [bs_size]; exact hl)
  rw [bs_data] at h
  refine h.mono ?_
  rintro e w' ⟨a, c, rfl, _, hb⟩
  rw [hp]
  exact ⟨a, c, rfl, hb⟩

set_option maxHeartbeats 2000000 in
theorem rto_no {q : Nat} {l : Txt} (hl : l.length ≤ maxLen) (hp : N.ps l = []) :
    Calls Tryd.prog 39 #[TP q, .string (bs l)] w fun e w' => e = .returned (.tuple #[.int .i64 0, .string ⟨#[]⟩, .int .i64 3]) ∧ Below w.heap.size w w' := by
  have hs := refSplit_no hl hp w
  have he := er_of l
  clear hl hp
  generalize N.er l = r at hs he
  rcases he with rfl | ⟨rfl, _⟩
  · go_enter Tryd.func39, Tryd.ntmps39
    go_wp2_with (go_at_call 62; ((refine hs.mono ?_); rintro e w1 ⟨a, c, rfl, b1⟩))
    exact bodyPost_ret (v := .tuple #[.int .i64 0, .string ⟨#[]⟩, .int .i64 3]) (by simp [results, Tryd.results39, go_sem]) rfl ⟨rfl, b1⟩
  · go_enter Tryd.func39, Tryd.ntmps39
    go_wp2_with (go_at_call 62; ((refine hs.mono ?_); rintro e w1 ⟨a, c, rfl, b1⟩))
    exact bodyPost_ret (v := .tuple #[.int .i64 0, .string ⟨#[]⟩, .int .i64 3]) (by simp [results, Tryd.results39, go_sem]) rfl ⟨rfl, b1⟩

set_option maxHeartbeats 2000000 in
theorem rfind_no {q : Nat} {l : Txt} (hl : l.length ≤ maxLen) (he : ¬ N.er l = 0) :
    Calls Tryd.prog 38 #[TP q, .string (bs l)] w fun e w' => e = .returned (.tuple #[BrV noBr (.slice none 0 0), .int .i64 3]) ∧ Below w.heap.size w w' := by
  have hp : N.ps l = [] := by
    rcases er_of l with h | h
    · exact absurd h he
    · exact h.2
  have ht := rto_no (w := w.alloc (BmO noBr (.slice none 0 0))) (q := q) hl hp
  have X0 := Lib.hid (BmAt.new w noBr (.slice none 0 0))
  have t1 : ((bs l).toList == [62]) = false := by
    rw [A.bs_toList, beq_eq_false_iff_ne]
    rintro rfl
    exact he rfl
  clear hl he hp
  go_enter Tryd.func38, Tryd.ntmps38
  go_wp2_with (go_at_call 39; ((refine ht.mono ?_); rintro e w1 ⟨rfl, b1⟩; have B1 := Lib.hid (bel2 (one_new w (BmO noBr (.slice none 0 0))) b1); have X1 := Lib.hid (BmAt.below X0.out b1); clear b1; obtain ⟨x0, x1, x2, x3, x4, x5, x6, x7, x8, x9⟩ := X1.out.cell; have xf := X1.out.fz; have xl := X1.out.lt))
  refine (show bodyPost _ _ _ _ _ (setBr w1 w.heap.size noBr (.slice none 0 0)) from ?_)
  have Z := BmAt.stored X1.out noBr (.slice none 0 0)
  have L := Below.setBr B1.out (Nat.le_refl _) noBr (.slice none 0 0)
  generalize setBr w1 w.heap.size noBr (.slice none 0 0) = V5 at Z L ⊢
  obtain ⟨g0, g1, g2, g3, g4, g5, g6, g7, g8, g9⟩ := Z.cell
  exact bodyPost_ret (v := .tuple #[BrV noBr (.slice none 0 0), .int .i64 3]) (by simp [results, Tryd.results38, go_sem, g0, g1, g2, g3, g4, g5, g6, g7, g8, g9]) rfl ⟨rfl, L⟩

set_option maxHeartbeats 2000000 in
theorem rFind_no {l : Txt} (hl : l.length ≤ maxLen) (he : ¬ N.er l = 0) :
    Calls Tryd.prog 18 #[TP b, .string (bs l)] w (LedM w (wFind (lkM m) l)) := by
  have hc := rfind_no (w := twoW w b) (q := w.heap.size + 1) hl he
  unfold wFind
  rw [if_neg he]
  clear hl he
  go_enter Tryd.func18, Tryd.ntmps18
  go_wp2_with (go_at_call 38; ((refine hc.mono ?_); rintro e w1 ⟨rfl, b1⟩; have B1 := Lib.hid (bel2 (two_bel w b) b1); have X1 := Lib.hid (BmAt.below (two_box w b) b1); clear b1; obtain ⟨x0, x1, x2, x3, x4, x5, x6, x7, x8, x9⟩ := X1.out.cell; have xf := X1.out.fz; have xl := X1.out.lt))
  refine (show bodyPost _ _ _ _ _ (setBr w1 w.heap.size noBr (.slice none 0 0)) from ?_)
  have Z := BmAt.stored X1.out noBr (.slice none 0 0)
  have L := Below.setBr B1.out (Nat.le_refl _) noBr (.slice none 0 0)
  generalize setBr w1 w.heap.size noBr (.slice none 0 0) = V5 at Z L ⊢
  obtain ⟨g0, g1, g2, g3, g4, g5, g6, g7, g8, g9⟩ := Z.cell
  exact bodyPost_ret (v := .tuple #[BrV noBr (.slice none 0 0), .int .i64 3]) (by simp [results, Tryd.results18, go_sem, g0, g1, g2, g3, g4, g5, g6, g7, g8, g9]) rfl ⟨none, 0, rfl, TRow.nil _, L⟩

theorem rFind_any (h : MAt w b F m) (hL : LinksM m) {l : Txt} (hl : l.length ≤ maxLen) :
    Calls Tryd.prog 18 #[TP b, .string (bs l)] w (LedM w (wFind (lkM m) l)) := by
  by_cases he : N.er l = 0
  · exact rFind_path h hL hl he
  · exact rFind_no hl he

end

end Go.Proofs.YtdlgliajfmfngaaDoor.T

namespace Go.Proofs.YtdlgliajfmfngaaDoor.T
open Go.ChangeShapes Go.WideShapes Go.ChangeAt Go.RowKit
open Go.Proofs.YtdlgliajfmfngaaDoor.N (bs bs_data bs_size bs_inj bs_of Glob Row)
open Go.Proofs.YtdlgliajfmfngaaDoor.A (Tm TRow)

theorem leadTo_is {L : Int → Txt → Option Br} {n n' : Nat} {qs : List Txt} {E d' : Int} (z : Txt) (h : LeadTo L n qs E d' n') : toR (dirR (fol L n (dirN 0) qs)) z = (d', (if E = 0 then z else []), E) := by
  rcases h with ⟨rfl, _, x, hx, hd, h⟩ | ⟨hE, rfl, h | ⟨rfl, x, hx, h⟩⟩
  · have := h []
    rw [List.append_nil, fol_nil] at this
    simp [this, toR, dirR, hx, hd]
  · have := h []
    rw [List.append_nil] at this
    simp [this, toR, dirR, hE]
  · have := h []
    rw [List.append_nil, fol_nil] at this
    simp [this, toR, dirR, hx]

section
variable {w : World} {b : Nat} {F : Nat → Prop} {m : Ms}

theorem one_wk (w : World) (b : Nat) : Wk (w.alloc (WkO b 0)) w.heap.size b (8 - 8) := heap_alloc_new w _
theorem one_end {V : World} (ht : Went (· = w.heap.size) (w.alloc (WkO b 0)) (· = w.heap.size) V) : Below w.heap.size w V :=
  (one_new w (WkO b 0)).trans (ht.below (B := w.heap.size) (fun i e => by omega) (one_new w (WkO b 0)).size)

set_option maxHeartbeats 2000000 in
theorem rTo_path (h : MAt w b F m) (hL : LinksM m) {l z : Txt} {qs : List Txt} (hl : l.length ≤ maxLen) (he : N.er l = 0) (hp : N.ps l = qs ++ [z]) :
    Calls Tryd.prog 16 #[TP b, .string (bs l)] w fun e w' => e = .returned (.tuple #[.int .i64 (wTo (lkM m) l).1, .string (bs (wTo (lkM m) l).2.1), .int .i64 (wTo (lkM m) l).2.2]) ∧ Below w.heap.size w w' := by
  have hq : ¬ F w.heap.size := fun hf => by have := h.ltF _ hf; omega
  have hc := rto_any (n := 8) (h.below (one_new w (WkO b 0))) hq (one_wk w b) hl he hp (fun V n' d s hn h' hw => rin_any hL hq n' hn V d s h' hw)
  have hR : wTo (lkM m) l = toR (dirR (fol (lkM m) 8 (dirN 0) qs)) z := by simp [wTo, he, hp]
  rw [hR]
  clear h hL hl he hp hq hR
  go_enter Tryd.func16, Tryd.ntmps16
  go_wp2_with (go_at_call 39; ((refine hc.mono ?_); rintro e w5 ⟨E, d', n5, rfl, l5, k5, t5⟩; have L5 := Lib.hid (leadTo_is z l5); have T5 := Lib.hid (one_end t5); clear l5 k5 t5; generalize (if E = 0 then z else []) = zz at L5 ⊢))
  exact bodyPost_ret (v := .tuple #[.int .i64 d', .string (bs zz), .int .i64 E]) (by simp [results, Tryd.results16, go_sem]) rfl (by rw [L5.out]; exact ⟨rfl, T5.out⟩)

set_option maxHeartbeats 2000000 in
theorem rTo_no {l : Txt} (hl : l.length ≤ maxLen) (hp : N.ps l = []) :
    Calls Tryd.prog 16 #[TP b, .string (bs l)] w fun e w' => e = .returned (.tuple #[.int .i64 (wTo (lkM m) l).1, .string (bs (wTo (lkM m) l).2.1), .int .i64 (wTo (lkM m) l).2.2]) ∧ Below w.heap.size w w' := by
  have hc := rto_no (w := w.alloc (WkO b 0)) (q := w.heap.size) hl hp
  have hR : wTo (lkM m) l = (0, [], 3) := by simp [wTo, hp]
  rw [hR]
  clear hl hp hR
  go_enter Tryd.func16, Tryd.ntmps16
  go_wp2_with (go_at_call 39; ((refine hc.mono ?_); rintro e w5 ⟨rfl, b5⟩; have B5 := Lib.hid (bel2 (one_new w (WkO b 0)) b5); clear b5))
  exact bodyPost_ret (v := .tuple #[.int .i64 0, .string ⟨#[]⟩, .int .i64 3]) (by simp [results, Tryd.results16, go_sem]) rfl ⟨rfl, B5.out⟩

theorem rTo_any (h : MAt w b F m) (hL : LinksM m) {l : Txt} (hl : l.length ≤ maxLen) :
    Calls Tryd.prog 16 #[TP b, .string (bs l)] w fun e w' => e = .returned (.tuple #[.int .i64 (wTo (lkM m) l).1, .string (bs (wTo (lkM m) l).2.1), .int .i64 (wTo (lkM m) l).2.2]) ∧ Below w.heap.size w w' := by
  rcases List.eq_nil_or_concat (N.ps l) with hp | ⟨qs, z, hp⟩
  · exact rTo_no hl hp
  · rw [List.concat_eq_append] at hp
    rcases er_of l with he | ⟨_, he⟩
    · exact rTo_path h hL hl he hp
    · exact rTo_no hl he

set_option maxHeartbeats 2000000 in
theorem rDir_path (h : MAt w b F m) (hL : LinksM m) {l : Txt} (hl : l.length ≤ maxLen) (he : N.er l = 0) :
    Calls Tryd.prog 14 #[TP b, .string (bs l)] w fun e w' => e = .returned (.tuple #[.int .i64 (wDir (lkM m) l).1, .int .i64 (wDir (lkM m) l).2]) ∧ Below w.heap.size w w' := by
  have hq : ¬ F w.heap.size := fun hf => by have := h.ltF _ hf; omega
  have hc := rfind_any (n := 8) (h.below (one_new w (WkO b 0))) hq (one_wk w b) hl he (fun V n' d s hn h' hw => rin_any hL hq n' hn V d s h' hw)
  have hR : wDir (lkM m) l = dirR (fol (lkM m) 8 (dirN 0) (N.ps l)) := by simp [wDir, he]
  rw [hR]
  clear h hL hl he hq hR
  go_enter Tryd.func14, Tryd.ntmps14
  go_wp2_with (go_at_call 38; ((refine hc.mono ?_); rintro e w5 ⟨E, y, n5, a5, c5, rfl, h5, l5, k5, t5⟩; have L5 := Lib.hid (leads_is l5); have T5 := Lib.hid (bel2 (one_end t5) (one_new w5 (BmO y (.slice a5 y.acl.length c5)))); clear h5 l5 k5 t5; have X5 := Lib.hid (BmAt.new w5 y (.slice a5 y.acl.length c5)); obtain ⟨x0, x1, x2, x3, x4, x5, x6, x7, x8, x9⟩ := X5.out.cell; have xl := X5.out.lt))
  · have hE : ¬ E = 0 := by simpa using ‹(E != 0) = true›
    exact bodyPost_ret (v := .tuple #[.int .i64 0, .int .i64 E]) (by simp [results, Tryd.results14, go_sem]) rfl (by rw [L5.out]; exact ⟨by simp [dirR, hE], T5.out⟩)
  · have hE : E = 0 := by simpa using ‹(E != 0) = false›
    have hk : ¬ y.kind = 2 := by simpa using ‹(y.kind != 2) = true›
    exact bodyPost_ret (v := .tuple #[.int .i64 0, .int .i64 15]) (by simp [results, Tryd.results14, go_sem]) rfl (by rw [L5.out]; exact ⟨by simp [dirR, hE, hk], T5.out⟩)
  · have hE : E = 0 := by simpa using ‹(E != 0) = false›
    have hk : y.kind = 2 := by simpa using ‹(y.kind != 2) = false›
    exact bodyPost_ret (v := .tuple #[.int .i64 y.dir, .int .i64 0]) (by simp [results, Tryd.results14, go_sem]) rfl (by rw [L5.out]; exact ⟨by simp [dirR, hE, hk], T5.out⟩)

set_option maxHeartbeats 2000000 in
theorem rDir_no {l : Txt} (hl : l.length ≤ maxLen) (he : ¬ N.er l = 0) :
    Calls Tryd.prog 14 #[TP b, .string (bs l)] w fun e w' => e = .returned (.tuple #[.int .i64 (wDir (lkM m) l).1, .int .i64 (wDir (lkM m) l).2]) ∧ Below w.heap.size w w' := by
  have hc := rfind_no (w := w.alloc (WkO b 0)) (q := w.heap.size) hl he
  have hR : wDir (lkM m) l = (0, 3) := by simp [wDir, he]
  rw [hR]
  clear hl he hR
  go_enter Tryd.func14, Tryd.ntmps14
  go_wp2_with (go_at_call 38; ((refine hc.mono ?_); rintro e w5 ⟨rfl, b5⟩; have B5 := Lib.hid (bel2 (bel2 (one_new w (WkO b 0)) b5) (one_new w5 (BmO noBr (.slice none 0 0)))); clear b5))
  exact bodyPost_ret (v := .tuple #[.int .i64 0, .int .i64 3]) (by simp [results, Tryd.results14, go_sem]) rfl ⟨rfl, B5.out⟩

theorem rDir_any (h : MAt w b F m) (hL : LinksM m) {l : Txt} (hl : l.length ≤ maxLen) :
    Calls Tryd.prog 14 #[TP b, .string (bs l)] w fun e w' => e = .returned (.tuple #[.int .i64 (wDir (lkM m) l).1, .int .i64 (wDir (lkM m) l).2]) ∧ Below w.heap.size w w' := by
  by_cases he : N.er l = 0
  · exact rDir_path h hL hl he
  · exact rDir_no hl he

end

end Go.Proofs.YtdlgliajfmfngaaDoor.T
