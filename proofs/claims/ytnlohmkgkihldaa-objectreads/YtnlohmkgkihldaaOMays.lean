/-
  What first, defsMay, linksMay and partsMay answer.
-/
import Derived.Test.YtnlohmkgkihldaaOHeap
namespace Go.Proofs.Ytnlohmkgkihldaa.W
open Go.ChangeShapes Go.WideShapes Go.ChangeAt Go.RowKit
open Go.Proofs.Ytnlohmkgkihldaa.N (bs bs_data bs_of bs_size may may_pos retB)

set_option maxHeartbeats 800000 in
theorem idxD_at (a : Option Addr) (c : Nat) (ds : List (Txt × Int)) (w : World) (t : Txt) (g : Nat) (hg : w.cell? ⟨g, 0, none⟩ = some (.string (bs t))) (hr : DRow w a ds) (hl : ds.length ≤ maxLen)
    (m : Nat) (hm : m < ds.length) (hb : ∀ j (h : j < ds.length), j < m → ¬ ds[j].1 = t) (he : ds[m].1 = t) :
    Calls Try.prog 55 #[.slice a ds.length c, .func (.func 56) #[] #[.pointer (some ⟨g, 0, none⟩)]] w fun e w' => e = .returned (.int .i64 m) ∧ Below w.heap.size w w' := by
  have HR := Lib.hid hr
  have HB := Lib.hid hb
  have HE := Lib.hid he
  have hgl := World.block_lt_of_cell? w _ hg
  have HG := Lib.hid hg
  clear hr hb hg he
  unfold maxLen at hl
  go_enter Try.func55, Try.ntmps55
  go_wp2
  go_loopw [8] (fun i W => ∃ k : Nat, k ≤ m ∧ i = .int .i64 k ∧ Hid (Below w.heap.size w W)) (fun i _ => m - (intOf i).toNat)
  case atStart => exact ⟨0, Nat.zero_le _, rfl, Lib.hid (Below.refl _ _)⟩
  case round =>
    obtain ⟨k, hk, rfl, hB⟩ := hrel
    have hlt : k < ds.length := by omega
    obtain ⟨bk, o, rfl, hbk, c0, c1⟩ := (HR.out.below hB.out).at_ hlt
    have hcell := (hB.out.cell (p := ⟨g, 0, none⟩) hgl).trans HG.out
    by_cases hkm : k = m
    · subst hkm
      have hcall := first1_any t ds[k].1 ds[k].2 g wr hcell
      rw [decide_eq_true HE.out] at hcall
      go_wp2_with (go_at_call 56; refine hcall.mono ?_; rintro e w' ⟨rfl, hb1⟩)
      go_ret
      exact ⟨rfl, bel2 hB.out hb1⟩
    · have hcall := first1_any t ds[k].1 ds[k].2 g wr hcell
      rw [decide_eq_false (HB.out k hlt (by omega))] at hcall
      go_wp2_with (go_at_call 56; refine hcall.mono ?_; rintro e w' ⟨rfl, hb1⟩)
      go_roundw
      case rel => exact ⟨k + 1, by omega, by go_num, Lib.hid (bel2 hB.out hb1)⟩
      case measure => simp [intOf]; omega

theorem first_at (a : Option Addr) (c : Nat) (ds : List (Txt × Int)) (w : World) (t : Txt) (hr : DRow w a ds) (hl : ds.length ≤ maxLen)
    (m : Nat) (hm : m < ds.length) (hb : ∀ j (h : j < ds.length), j < m → ¬ ds[j].1 = t) (he : ds[m].1 = t) :
    Calls Try.prog 43 #[.slice a ds.length c, .string (bs t)] w fun e w' => e = .returned (.int .i64 m) ∧ Below w.heap.size w w' := by
  have hcall : Calls Try.prog 55 #[.slice a ds.length c, .func (.func 56) #[] #[.pointer (some ⟨w.heap.size, 0, none⟩)]] (w.alloc (.cells #[.string (bs t)] 9)) fun e w' => e = .returned (.int .i64 m) ∧ Below (w.alloc (.cells #[.string (bs t)] 9)).heap.size (w.alloc (.cells #[.string (bs t)] 9)) w' :=
    idxD_at a c ds _ t w.heap.size (by rw [cell_of_row _ _ _ _ _ _ (heap_alloc_new w _)]; rfl) (hr.below (one_new _ _)) hl m hm hb he
  clear hr hb
  go_enter Try.func43, Try.ntmps43
  go_wp2_with (go_at_call 55; refine hcall.mono ?_; rintro e w' ⟨rfl, hb1⟩)
  go_ret
  exact ⟨rfl, bel2 (one_new _ _) hb1⟩

/-- the definitions up to k are as they must be -/
def dUp (ds : List (Txt × Int)) (n k : Nat) : Prop := ∀ j (h : j < ds.length), j < k → okDef n ds[j] = true ∧ ∀ i (h' : i < ds.length), i < j → ¬ ds[i].1 = ds[j].1
def defsOk (n : Nat) (ds : List (Txt × Int)) : Bool := decide (ds.length ≤ 32) && (ds.all (okDef n) && apart ds)
theorem dUp_all {ds : List (Txt × Int)} {n : Nat} (hl : ds.length ≤ 32) (h : dUp ds n ds.length) : defsOk n ds = true := by
  simp only [defsOk, Bool.and_eq_true, decide_eq_true_eq, List.all_eq_true]
  refine ⟨hl, fun d hd => ?_, ?_⟩
  · obtain ⟨j, hj, rfl⟩ := List.mem_iff_getElem.1 hd
    exact (h j hj hj).1
  · rw [apart_iff, List.Nodup, List.pairwise_iff_getElem]
    intro i j hi hj hij
    simp at hi hj
    simpa using (h j hj hj).2 i hi hij
theorem dUp_long {ds : List (Txt × Int)} {n : Nat} (hl : ¬ ds.length ≤ 32) : defsOk n ds = false := by simp [defsOk, hl]
theorem dUp_bad {ds : List (Txt × Int)} {n k : Nat} (hk : k < ds.length) (h : okDef n ds[k] = false) : defsOk n ds = false := by
  have : ds.all (okDef n) = false := List.all_eq_false.2 ⟨ds[k], List.getElem_mem _, by simp [h]⟩
  simp [defsOk, this]
theorem dUp_twice {ds : List (Txt × Int)} {n i k : Nat} (hk : k < ds.length) (hi : i < k) (h : (ds[i]'(by omega)).1 = ds[k].1) : defsOk n ds = false := by
  have : apart ds = false := by
    apply Bool.eq_false_iff.2
    intro ha
    rw [apart_iff, List.Nodup, List.pairwise_iff_getElem] at ha
    have := ha i k (by simp; omega) (by simpa using hk) hi
    simp at this
    exact this h
  simp [defsOk, this]
theorem dUp_step {ds : List (Txt × Int)} {n k : Nat} (hk : k < ds.length) (h : dUp ds n k) (h1 : okDef n ds[k] = true) (h2 : ∀ i (h' : i < ds.length), i < k → ¬ ds[i].1 = ds[k].1) : dUp ds n (k + 1) := by
  intro j hj hjk
  by_cases e : j = k
  · subst e; exact ⟨h1, h2⟩
  · exact h j hj (by omega)
theorem okDef_is {n : Nat} {d : Txt × Int} (h1 : may 32 d.1 = true) (h2 : 0 ≤ d.2) (h3 : d.2 < (n : Int)) : okDef n d = true := by simp [okDef, h1, h2, h3]
theorem okDef_name {n : Nat} {d : Txt × Int} (h1 : may 32 d.1 = false) : okDef n d = false := by simp [okDef, h1]
theorem okDef_neg {n : Nat} {d : Txt × Int} (h1 : d.2 < 0) : okDef n d = false := by
  have : decide (0 ≤ d.2) = false := decide_eq_false (by omega)
  simp [okDef, this]
theorem okDef_far {n : Nat} {d : Txt × Int} (h1 : (n : Int) ≤ d.2) : okDef n d = false := by
  have : decide (d.2 < (n : Int)) = false := decide_eq_false (by omega)
  simp [okDef, this]
/-- the first of a name that stands at k -/
theorem first_of (ds : List (Txt × Int)) {k : Nat} (hk : k < ds.length) : ∃ m, ∃ hm : m < ds.length, m ≤ k ∧ ds[m].1 = ds[k].1 ∧ ∀ j (h : j < ds.length), j < m → ¬ ds[j].1 = ds[k].1 := by
  have H : ∀ n, n ≤ k → (∀ j (h : j < ds.length), j < n → ¬ ds[j].1 = ds[k].1) ∨ ∃ m, ∃ hm : m < ds.length, m ≤ k ∧ ds[m].1 = ds[k].1 ∧ ∀ j (h : j < ds.length), j < m → ¬ ds[j].1 = ds[k].1 := by
    intro n
    induction n with
    | zero => intro _; exact Or.inl (fun j h hj => by omega)
    | succ n ih =>
      intro hn
      rcases ih (by omega) with h | h
      · by_cases e : (ds[n]'(by omega)).1 = ds[k].1
        · exact Or.inr ⟨n, by omega, by omega, e, h⟩
        · refine Or.inl (fun j hj hjn => ?_)
          by_cases ej : j = n
          · subst ej; exact e
          · exact h j hj (by omega)
      · exact Or.inr h
  rcases H k (Nat.le_refl _) with h | h
  · exact ⟨k, hk, Nat.le_refl _, rfl, h⟩
  · exact h

set_option maxHeartbeats 2000000 in
theorem defsMay_any (a : Option Addr) (c : Nat) (ds : List (Txt × Int)) (n : Nat) (w : World) (hr : DRow w a ds) (hl : ds.length ≤ maxLen) (hd : ∀ d ∈ ds, d.1.length ≤ maxLen ∧ I64 d.2) :
    Calls Try.prog 30 #[.slice a ds.length c, .int .i64 n] w fun e w' => e = .returned (.bool (defsOk n ds)) ∧ Below w.heap.size w w' := by
  have HL := Lib.hid hl
  unfold maxLen at hl
  by_cases hlen : 32 < ds.length
  · go_enter Try.func30, Try.ntmps30
    go_wp2
    go_ret
    exact ⟨retB (dUp_long (by omega)).symm, Below.refl _ _⟩
  have HR := Lib.hid hr
  have HD := Lib.hid hd
  clear hr hd
  go_enter Try.func30, Try.ntmps30
  go_wp2
  go_loopw [12] (fun i W => ∃ k : Nat, k ≤ ds.length ∧ i = .int .i64 k ∧ Hid (Below w.heap.size w W) ∧ Hid (dUp ds n k)) (fun i _ => ds.length - (intOf i).toNat)
  case atStart => exact ⟨0, Nat.zero_le _, rfl, Lib.hid (Below.refl _ _), Lib.hid (fun j h hj => by omega)⟩
  case round =>
    obtain ⟨k, hk, rfl, hB, hU⟩ := hrel
    by_cases hlt : k < ds.length
    · obtain ⟨bk, o, ea, hbk, c0, c1⟩ := (HR.out.below hB.out).at_ hlt
      have hrow := Lib.hid (HR.out.below hB.out)
      subst ea
      have hsz : (bs ds[k].1).size ≤ maxLen := by rw [bs_size]; exact (HD.out _ (List.getElem_mem _)).1
      cases hm : may 32 ds[k].1 with
      | false =>
        have HM := Lib.hid hm
        have hcall := fun W => N.may_any (bs ds[k].1) W hsz
        rw [bs_data, hm] at hcall
        clear hm
        go_wp2_with (go_at_call 42; refine (hcall _).mono ?_; rintro e w' ⟨rfl, n', rfl⟩)
        go_ret
        exact ⟨retB (dUp_bad hlt (okDef_name HM.out)).symm, bel2 (bel2 hB.out (one_new _ _)) (below_drewN _ _)⟩
      | true =>
        have HM := Lib.hid hm
        have hcall := fun W => N.may_any (bs ds[k].1) W hsz
        rw [bs_data, hm] at hcall
        clear hm
        obtain ⟨m, hml, hmk, hme, hmb⟩ := first_of ds hlt
        have hfc := fun (V : World) (hB2 : Below wr.heap.size wr V) => first_at (some ⟨bk, o, none⟩) c ds V ds[k].1 (hrow.out.below hB2) HL.out m hml hmb hme
        have HE := Lib.hid hme
        have HMB := Lib.hid hmb
        clear hmb hme
        by_cases hmk2 : m = k
        · have HMK := Lib.hid hmk2
          subst hmk2
          have f1 : ((m : Int) == (m : Int)) = true := beq_self_eq_true _
          obtain ⟨h64a, h64b⟩ := (HD.out _ (List.getElem_mem hlt)).2
          by_cases o1 : ds[m].2 < 0
          · have HO := Lib.hid (okDef_neg (n := n) o1)
            generalize ds[m].2 = off at *
            go_wp2_with (first
              | (go_at_call 42; refine (hcall _).mono ?_; rintro e w' ⟨rfl, n', rfl⟩)
              | (go_at_call 43; refine (hfc _ (bel2 (one_new _ _) (below_drewN _ _))).mono ?_; rintro e w2 ⟨rfl, hb2⟩; (have hold := hb2.cell (p := ⟨wr.heap.size, 1, none⟩) (by simp)); (have hsize2 := hb2.size); (simp only [World.cell?_drewN] at hold)))
            go_ret
            exact ⟨retB (dUp_bad hlt HO.out).symm, bel2 (bel2 (bel2 hB.out (one_new _ _)) (below_drewN _ _)) hb2⟩
          · by_cases o2 : (n : Int) ≤ ds[m].2
            · have HO := Lib.hid (okDef_far o2)
              generalize ds[m].2 = off at *
              go_wp2_with (first
              | (go_at_call 42; refine (hcall _).mono ?_; rintro e w' ⟨rfl, n', rfl⟩)
              | (go_at_call 43; refine (hfc _ (bel2 (one_new _ _) (below_drewN _ _))).mono ?_; rintro e w2 ⟨rfl, hb2⟩; (have hold := hb2.cell (p := ⟨wr.heap.size, 1, none⟩) (by simp)); (have hsize2 := hb2.size); (simp only [World.cell?_drewN] at hold)))
              go_ret
              exact ⟨retB (dUp_bad hlt HO.out).symm, bel2 (bel2 (bel2 hB.out (one_new _ _)) (below_drewN _ _)) hb2⟩
            · have HO := Lib.hid (okDef_is HM.out (show 0 ≤ ds[m].2 by omega) (show ds[m].2 < (n : Int) by omega))
              generalize ds[m].2 = off at *
              go_wp2_with (first
              | (go_at_call 42; refine (hcall _).mono ?_; rintro e w' ⟨rfl, n', rfl⟩)
              | (go_at_call 43; refine (hfc _ (bel2 (one_new _ _) (below_drewN _ _))).mono ?_; rintro e w2 ⟨rfl, hb2⟩; (have hold := hb2.cell (p := ⟨wr.heap.size, 1, none⟩) (by simp)); (have hsize2 := hb2.size); (simp only [World.cell?_drewN] at hold)))
              go_roundw
              case rel => exact ⟨m + 1, by omega, by go_num, Lib.hid (bel2 (bel2 (bel2 hB.out (one_new _ _)) (below_drewN _ _)) hb2), Lib.hid (dUp_step hlt hU.out HO.out HMB.out)⟩
              case measure => simp [intOf]; omega
        · have f1 : ((m : Int) == (k : Int)) = false := beq_eq_false_iff_ne.2 (by omega)
          have hmk3 : m < k := by omega
          go_wp2_with (first
              | (go_at_call 42; refine (hcall _).mono ?_; rintro e w' ⟨rfl, n', rfl⟩)
              | (go_at_call 43; refine (hfc _ (bel2 (one_new _ _) (below_drewN _ _))).mono ?_; rintro e w2 ⟨rfl, hb2⟩; (have hold := hb2.cell (p := ⟨wr.heap.size, 1, none⟩) (by simp)); (have hsize2 := hb2.size); (simp only [World.cell?_drewN] at hold)))
          go_ret
          exact ⟨retB (dUp_twice hlt hmk3 HE.out).symm, bel2 (bel2 (bel2 hB.out (one_new _ _)) (below_drewN _ _)) hb2⟩
    · obtain rfl : k = ds.length := by omega
      go_wp2
      go_ret
      exact ⟨retB (dUp_all (by omega) hU.out).symm, hB.out⟩

end Go.Proofs.Ytnlohmkgkihldaa.W
