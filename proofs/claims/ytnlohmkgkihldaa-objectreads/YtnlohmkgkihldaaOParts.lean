/-
  What linksMay and partsMay answer.
-/
import Derived.Test.YtnlohmkgkihldaaOMays
namespace Go.Proofs.Ytnlohmkgkihldaa.W
open Go.ChangeShapes Go.WideShapes Go.ChangeAt Go.RowKit
open Go.Proofs.Ytnlohmkgkihldaa.N (bs bs_data bs_of bs_size may may_pos retB)

def linksOk (ls : List (Txt × Txt × Int)) : Bool := decide (ls.length ≤ 32) && ls.all okLink
def lUp (ls : List (Txt × Txt × Int)) (k : Nat) : Prop := ∀ j (h : j < ls.length), j < k → okLink ls[j] = true
theorem lUp_all {ls : List (Txt × Txt × Int)} (hl : ls.length ≤ 32) (h : lUp ls ls.length) : linksOk ls = true := by
  simp only [linksOk, Bool.and_eq_true, decide_eq_true_eq, List.all_eq_true]
  refine ⟨hl, fun d hd => ?_⟩
  obtain ⟨j, hj, rfl⟩ := List.mem_iff_getElem.1 hd
  exact h j hj hj
theorem lUp_long {ls : List (Txt × Txt × Int)} (hl : ¬ ls.length ≤ 32) : linksOk ls = false := by simp [linksOk, hl]
theorem lUp_bad {ls : List (Txt × Txt × Int)} {k : Nat} (hk : k < ls.length) (h : okLink ls[k] = false) : linksOk ls = false := by
  have : ls.all okLink = false := List.all_eq_false.2 ⟨ls[k], List.getElem_mem _, by simp [h]⟩
  simp [linksOk, this]
theorem lUp_step {ls : List (Txt × Txt × Int)} {k : Nat} (hk : k < ls.length) (h : lUp ls k) (h1 : okLink ls[k] = true) : lUp ls (k + 1) := by
  intro j hj hjk
  by_cases e : j = k
  · subst e; exact h1
  · exact h j hj (by omega)

/-- a segment's name may be empty -/
def segOk (t : Txt) : Bool := t.isEmpty || may 32 t
theorem seg_ways (t : Txt) : (((bs t).toList == []) = true ∧ segOk t = true) ∨ (((bs t).toList == []) = false ∧ segOk t = may 32 t) := by
  rw [Lib.toList_data, bs_data]
  cases t with
  | nil => exact Or.inl ⟨rfl, rfl⟩
  | cons x r => exact Or.inr ⟨rfl, by simp [segOk]⟩
theorem okLink_eq (l : Txt × Txt × Int) : okLink l = (segOk l.1 && (may 32 l.2.1 && (decide (0 ≤ l.2.2) && decide (l.2.2 ≤ 262143)))) := rfl
theorem okLink_is {l : Txt × Txt × Int} (h1 : segOk l.1 = true) (h2 : may 32 l.2.1 = true) (h3 : ¬ l.2.2 < 0) (h4 : ¬ l.2.2 > 262143) : okLink l = true := by
  rw [okLink_eq, h1, h2, decide_eq_true (by omega), decide_eq_true (by omega)]; rfl
theorem okLink_seg {l : Txt × Txt × Int} (h1 : segOk l.1 = false) : okLink l = false := by rw [okLink_eq, h1]; rfl
theorem okLink_ent {l : Txt × Txt × Int} (h1 : may 32 l.2.1 = false) : okLink l = false := by rw [okLink_eq, h1]; simp
theorem okLink_neg {l : Txt × Txt × Int} (h1 : l.2.2 < 0) : okLink l = false := by rw [okLink_eq, show decide (0 ≤ l.2.2) = false from decide_eq_false (by omega)]; simp
theorem okLink_far {l : Txt × Txt × Int} (h1 : l.2.2 > 262143) : okLink l = false := by rw [okLink_eq, show decide (l.2.2 ≤ 262143) = false from decide_eq_false (by omega)]; simp

set_option maxHeartbeats 2000000 in
theorem linksMay_any (a : Option Addr) (c : Nat) (ls : List (Txt × Txt × Int)) (w : World) (hr : KRow w a ls) (hl : ls.length ≤ maxLen) (hd : ∀ d ∈ ls, d.1.length ≤ maxLen ∧ d.2.1.length ≤ maxLen ∧ I64 d.2.2) :
    Calls Try.prog 31 #[.slice a ls.length c] w fun e w' => e = .returned (.bool (linksOk ls)) ∧ Below w.heap.size w w' := by
  unfold maxLen at hl
  by_cases hlen : 32 < ls.length
  · go_enter Try.func31, Try.ntmps31
    go_wp2
    go_ret
    exact ⟨retB (lUp_long (by omega)).symm, Below.refl _ _⟩
  have HR := Lib.hid hr
  have HD := Lib.hid hd
  clear hr hd
  go_enter Try.func31, Try.ntmps31
  go_wp2
  go_loopw [10] (fun i W => ∃ k : Nat, k ≤ ls.length ∧ i = .int .i64 k ∧ Hid (Below w.heap.size w W) ∧ Hid (lUp ls k)) (fun i _ => ls.length - (intOf i).toNat)
  case atStart => exact ⟨0, Nat.zero_le _, rfl, Lib.hid (Below.refl _ _), Lib.hid (fun j h hj => by omega)⟩
  case round =>
    obtain ⟨k, hk, rfl, hB, hU⟩ := hrel
    by_cases hlt : k < ls.length
    · obtain ⟨bk, o, ea, hbk, c0, c1, c2⟩ := (HR.out.below hB.out).at_ hlt
      subst ea
      have hall := HD.out _ (List.getElem_mem hlt)
      have hsz : (bs ls[k].1).size ≤ maxLen := by rw [bs_size]; exact hall.1
      have hsz2 : (bs ls[k].2.1).size ≤ maxLen := by rw [bs_size]; exact hall.2.1
      obtain ⟨h64a, h64b⟩ := hall.2.2
      clear hall
      have hcs := fun W => N.may_any (bs ls[k].1) W hsz
      have hce := fun W => N.may_any (bs ls[k].2.1) W hsz2
      rw [bs_data] at hcs hce
      have HF := Lib.hid (@lUp_bad ls k hlt)
      have HS := Lib.hid (@lUp_step ls k hlt)
      have K1 := Lib.hid (@okLink_seg ls[k])
      have K2 := Lib.hid (@okLink_ent ls[k])
      have K3 := Lib.hid (@okLink_neg ls[k])
      have K4 := Lib.hid (@okLink_far ls[k])
      have K5 := Lib.hid (@okLink_is ls[k])
      have hsw := seg_ways ls[k].1
      generalize ls[k].1 = sg at *
      generalize ls[k].2.1 = en at *
      generalize ls[k].2.2 = ad at *
      rcases hsw with ⟨s1, s2⟩ | ⟨s1, s2⟩
      · have S2 := Lib.hid s2
        clear s2 hcs
        cases hm : may 32 en with
        | false =>
          rw [hm] at hce
          have HM := Lib.hid hm
          clear hm
          go_wp2_with (go_at_call 42; refine (hce _).mono ?_; rintro e w' ⟨rfl, n', rfl⟩)
          go_ret
          exact ⟨retB (HF.out (K2.out HM.out)).symm, bel2 (bel2 hB.out (one_new _ _)) (below_drewN _ _)⟩
        | true =>
          rw [hm] at hce
          have HM := Lib.hid hm
          clear hm
          by_cases o1 : ad < 0
          · go_wp2_with (go_at_call 42; refine (hce _).mono ?_; rintro e w' ⟨rfl, n', rfl⟩)
            go_ret
            exact ⟨retB (HF.out (K3.out o1)).symm, bel2 (bel2 hB.out (one_new _ _)) (below_drewN _ _)⟩
          by_cases o2 : ad > 262143
          · go_wp2_with (go_at_call 42; refine (hce _).mono ?_; rintro e w' ⟨rfl, n', rfl⟩)
            go_ret
            exact ⟨retB (HF.out (K4.out o2)).symm, bel2 (bel2 hB.out (one_new _ _)) (below_drewN _ _)⟩
          go_wp2_with (go_at_call 42; refine (hce _).mono ?_; rintro e w' ⟨rfl, n', rfl⟩)
          go_roundw
          case rel => exact ⟨k + 1, by omega, by go_num, Lib.hid (bel2 (bel2 hB.out (one_new _ _)) (below_drewN _ _)), Lib.hid (HS.out hU.out (K5.out S2.out HM.out (by omega) (by omega)))⟩
          case measure => simp [intOf]; omega
      · have S2 := Lib.hid s2
        clear s2
        cases hs : may 32 sg with
        | false =>
          rw [hs] at hcs
          have HSg := Lib.hid hs
          clear hs
          go_wp2_with (go_at_call 42; refine (hcs _).mono ?_; rintro e w' ⟨rfl, n', rfl⟩)
          go_ret
          exact ⟨retB (HF.out (K1.out (by rw [S2.out, HSg.out]))).symm, bel2 (bel2 hB.out (one_new _ _)) (below_drewN _ _)⟩
        | true =>
          rw [hs] at hcs
          have HSg := Lib.hid hs
          clear hs
          cases hm : may 32 en with
          | false =>
            rw [hm] at hce
            have HM := Lib.hid hm
            clear hm
            go_wp2_with (first
              | (go_at_call 42; (with_reducible refine (hcs _).mono ?_); rintro e w' ⟨rfl, n', rfl⟩)
              | (go_at_call 42; (with_reducible refine (hce _).mono ?_); rintro e w' ⟨rfl, n2, rfl⟩))
            go_ret
            exact ⟨retB (HF.out (K2.out HM.out)).symm, bel2 (bel2 hB.out (one_new _ _)) (below_drewN _ _)⟩
          | true =>
            rw [hm] at hce
            have HM := Lib.hid hm
            clear hm
            by_cases o1 : ad < 0
            · go_wp2_with (first
                | (go_at_call 42; (with_reducible refine (hcs _).mono ?_); rintro e w' ⟨rfl, n', rfl⟩)
                | (go_at_call 42; (with_reducible refine (hce _).mono ?_); rintro e w' ⟨rfl, n2, rfl⟩))
              go_ret
              exact ⟨retB (HF.out (K3.out o1)).symm, bel2 (bel2 hB.out (one_new _ _)) (below_drewN _ _)⟩
            by_cases o2 : ad > 262143
            · go_wp2_with (first
                | (go_at_call 42; (with_reducible refine (hcs _).mono ?_); rintro e w' ⟨rfl, n', rfl⟩)
                | (go_at_call 42; (with_reducible refine (hce _).mono ?_); rintro e w' ⟨rfl, n2, rfl⟩))
              go_ret
              exact ⟨retB (HF.out (K4.out o2)).symm, bel2 (bel2 hB.out (one_new _ _)) (below_drewN _ _)⟩
            go_wp2_with (first
                | (go_at_call 42; (with_reducible refine (hcs _).mono ?_); rintro e w' ⟨rfl, n', rfl⟩)
                | (go_at_call 42; (with_reducible refine (hce _).mono ?_); rintro e w' ⟨rfl, n2, rfl⟩))
            go_roundw
            case rel => exact ⟨k + 1, by omega, by go_num, Lib.hid (bel2 (bel2 hB.out (one_new _ _)) (below_drewN _ _)), Lib.hid (HS.out hU.out (K5.out (by rw [S2.out, HSg.out]) HM.out (by omega) (by omega)))⟩
            case measure => simp [intOf]; omega
    · obtain rfl : k = ls.length := by omega
      go_wp2
      go_ret
      exact ⟨retB (lUp_all (by omega) hU.out).symm, hB.out⟩

/-- all that an object must be but its size -/
def partsOb (o : Ob) : Bool := (decide (o.text.length ≤ 512) && o.text.all okW) && ((decide (o.stat.length ≤ 64) && o.stat.all okW) && (defsOk o.text.length o.defs && linksOk o.links))
theorem mayOb_parts (o : Ob) : mayOb o = (partsOb o && decide ((wOb o).length ≤ 1024)) := by
  apply Bool.eq_iff_iff.2
  simp only [mayOb, partsOb, defsOk, linksOk, Bool.and_eq_true]
  constructor
  · rintro ⟨⟨⟨⟨⟨⟨⟨⟨⟨a, b⟩, c⟩, d⟩, e⟩, f⟩, g⟩, h⟩, i⟩, j⟩
    exact ⟨⟨⟨a, e⟩, ⟨b, f⟩, ⟨c, g, h⟩, d, i⟩, j⟩
  · rintro ⟨⟨⟨a, e⟩, ⟨b, f⟩, ⟨c, g, h⟩, d, i⟩, j⟩
    exact ⟨⟨⟨⟨⟨⟨⟨⟨⟨a, b⟩, c⟩, d⟩, e⟩, f⟩, g⟩, h⟩, i⟩, j⟩

/-- an object in a box -/
@[reducible] def OO (q : Pl) (o : Ob) : Obj := .cells #[.slice q.ta o.text.length q.tc, .slice q.sa o.stat.length q.sc, .slice q.da o.defs.length q.dc, .slice q.la o.links.length q.lc] 27

set_option maxHeartbeats 2000000 in
theorem partsMay_any (q : Pl) (o : Ob) (w : World) (hO : ObIn w q o) (hF : Fit o) :
    Calls Try.prog 22 #[OV q o] w fun e w' => e = .returned (.bool (partsOb o)) ∧ Below w.heap.size w w' := by
  have h1 : Calls Try.prog 29 #[.slice q.ta o.text.length q.tc, .int .i64 512] (w.alloc (OO q o)) fun e w' => e = .returned (.bool (decide (o.text.length ≤ 512) && o.text.all okW)) ∧ w' = w.alloc (OO q o) := wordsMay_any q.ta q.tc o.text 512 (w.alloc (OO q o)) (hO.t.below (one_new _ _)) hF.tz hF.tl
  have h2 : Calls Try.prog 29 #[.slice q.sa o.stat.length q.sc, .int .i64 64] (w.alloc (OO q o)) fun e w' => e = .returned (.bool (decide (o.stat.length ≤ 64) && o.stat.all okW)) ∧ w' = w.alloc (OO q o) := wordsMay_any q.sa q.sc o.stat 64 (w.alloc (OO q o)) (hO.s.below (one_new _ _)) hF.sz hF.sl
  have h3 := defsMay_any q.da q.dc o.defs o.text.length (w.alloc (OO q o)) (hO.d.below (one_new _ _)) hF.dl hF.dn
  have h4 := fun (V : World) (hB : Below (w.alloc (OO q o)).heap.size (w.alloc (OO q o)) V) => linksMay_any q.la q.lc o.links V ((hO.l.below (one_new _ _)).below hB) hF.ll hF.ln
  have hp : partsOb o = ((decide (o.text.length ≤ 512) && o.text.all okW) && ((decide (o.stat.length ≤ 64) && o.stat.all okW) && (defsOk o.text.length o.defs && linksOk o.links))) := rfl
  have hlen := hF.tl
  unfold maxLen at hlen
  clear hO hF
  generalize (decide (o.text.length ≤ 512) && o.text.all okW) = b1 at *
  generalize (decide (o.stat.length ≤ 64) && o.stat.all okW) = b2 at *
  generalize defsOk o.text.length o.defs = b3 at *
  generalize linksOk o.links = b4 at *
  rw [hp]
  clear hp
  cases b1 with
  | false =>
    go_enter Try.func22, Try.ntmps22
    go_wp2_with (go_at_call 29; (with_reducible refine h1.mono ?_); rintro e w' ⟨rfl, rfl⟩)
    go_ret
    exact ⟨rfl, one_new _ _⟩
  | true =>
    cases b2 with
    | false =>
      go_enter Try.func22, Try.ntmps22
      go_wp2_with (first
        | (go_at_call 29; (with_reducible refine h1.mono ?_); rintro e w' ⟨rfl, rfl⟩)
        | (go_at_call 29; (with_reducible refine h2.mono ?_); rintro e w' ⟨rfl, rfl⟩))
      go_ret
      exact ⟨rfl, one_new _ _⟩
    | true =>
      cases b3 with
      | false =>
        go_enter Try.func22, Try.ntmps22
        go_wp2_with (first
          | (go_at_call 29; (with_reducible refine h1.mono ?_); rintro e w' ⟨rfl, rfl⟩)
          | (go_at_call 29; (with_reducible refine h2.mono ?_); rintro e w' ⟨rfl, rfl⟩)
          | (go_at_call 30; (with_reducible refine h3.mono ?_); rintro e w1 ⟨rfl, hb1⟩))
        go_ret
        exact ⟨rfl, bel2 (one_new _ _) hb1⟩
      | true =>
        go_enter Try.func22, Try.ntmps22
        go_wp2_with (first
          | (go_at_call 29; (with_reducible refine h1.mono ?_); rintro e w' ⟨rfl, rfl⟩)
          | (go_at_call 29; (with_reducible refine h2.mono ?_); rintro e w' ⟨rfl, rfl⟩)
          | (go_at_call 30; (with_reducible refine h3.mono ?_); rintro e w1 ⟨rfl, hb1⟩; (have hold := hb1.cell (p := ⟨w.heap.size, 3, none⟩) (by simp)); (have hsize2 := hb1.size))
          | (go_at_call 31; (with_reducible refine (h4 _ hb1).mono ?_); rintro e w2 ⟨rfl, hb2⟩))
        go_ret
        exact ⟨rfl, bel2 (bel2 (one_new _ _) hb1) hb2⟩

end Go.Proofs.Ytnlohmkgkihldaa.W
