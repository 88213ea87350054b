/-
  Rules of the program: whether one may be, whether a list may be, in which directory one looks.
-/
import Derived.Test.YtpcdcmoapenbdaaDoorRuRow
import Derived.Test.YtpcdcmoapenbdaaDoorTLink
namespace Go.Proofs.YtpcdcmoapenbdaaDoor.T
open Go.ChangeShapes Go.WideShapes Go.ChangeAt Go.RowKit
open Go.Proofs.YtpcdcmoapenbdaaDoor.N (bs bs_data bs_size bs_inj bs_of Glob retB)
open Go.Proofs.YtpcdcmoapenbdaaDoor.A (Tm TRow)

theorem empty_path (l : Txt) : ((bs l).toList == []) = decide (l = []) := by
  rw [Lib.toList_data, bs_data]
  by_cases h : l = [] <;> simp [h]

section
variable {w : World}

set_option maxHeartbeats 1000000 in
theorem isRule_any (hg : Glob w) {r : Ru} (hp : r.path.length ≤ maxLen) {B : Bool} (hB : ruleB r = B) :
    Calls Tryd.prog 31 #[RuV r] w fun e w' => e = .returned (.bool B) ∧ Below w.heap.size w w' := by
  have HG := Lib.hid hg
  clear hg
  by_cases h1 : r.kind = 1
  · obtain rfl : decide (r.path = []) = B := by rw [← hB, ruleB, if_pos h1]
    have e1 : (r.kind == 1) = true := by simpa using h1
    have e3 := empty_path r.path
    clear h1 hB
    generalize decide (r.path = []) = B at e3 ⊢
    go_enter Tryd.func31, Tryd.ntmps31
    go_wp2
    go_ret
    exact ⟨rfl, one_new _ _⟩
  have e1 : (r.kind == 1) = false := by simpa using h1
  by_cases h2 : r.kind = 2
  · obtain rfl : decide (r.path = []) = B := by rw [← hB, ruleB, if_neg h1, if_pos h2]
    have e2 : (r.kind == 2) = true := by simpa using h2
    have e3 := empty_path r.path
    clear h1 h2 hB
    generalize decide (r.path = []) = B at e3 ⊢
    go_enter Tryd.func31, Tryd.ntmps31
    go_wp2
    go_ret
    exact ⟨rfl, one_new _ _⟩
  have e2 : (r.kind == 2) = false := by simpa using h2
  by_cases h3 : r.kind = 3
  · obtain ⟨E, hE⟩ : ∃ E, N.er r.path = E := ⟨_, rfl⟩
    have hB' : (E == 0) = B := by
      rw [ruleB, if_neg h1, if_neg h2, if_pos h3, hE] at hB
      rw [← hB]
      by_cases h : E = 0 <;> simp [h]
    have e3 : (r.kind == 3) = true := by simpa using h3
    clear h1 h2 h3 hB
    go_enter Tryd.func31, Tryd.ntmps31
    go_wp2_with (go_at_call 57; ((refine (split_er (HG.out.below (one_new _ _)) hp hE).mono ?_); rintro e w1 ⟨v1, rfl, b1⟩))
    go_ret
    exact ⟨rfl, bel2 (one_new _ _) b1⟩
  have e3 : (r.kind == 3) = false := by simpa using h3
  obtain rfl : false = B := by rw [← hB, ruleB, if_neg h1, if_neg h2, if_neg h3]
  clear h1 h2 h3 hB
  go_enter Tryd.func31, Tryd.ntmps31
  go_wp2
  go_ret
  exact ⟨rfl, one_new _ _⟩

set_option maxHeartbeats 1000000 in
theorem rulesMay_any (hg : Glob w) {a : Option Addr} {c n : Nat} {l : List Ru} (hr : G.Row kR w a c l) (hl : ∀ r ∈ l, r.Ok) (hn : l.length = n) {B : Bool} (hB : mayR l = B) :
    Calls Tryd.prog 12 #[.slice a n c] w fun e w' => e = .returned (.bool B) ∧ Below w.heap.size w w' := by
  subst hn hB
  have HG := Lib.hid hg
  have HR := Lib.hid hr
  have HL := Lib.hid hl
  clear hg hr hl
  by_cases h8 : (8 : Int) < (l.length : Int)
  · have e1 : decide ((8 : Int) < (l.length : Int)) = true := by simpa using h8
    have hm := mayR_long (l := l) (by omega)
    clear h8
    go_enter Tryd.func12, Tryd.ntmps12
    go_wp2
    go_ret
    exact ⟨by rw [hm]; rfl, Below.refl _ _⟩
  have e1 : decide ((8 : Int) < (l.length : Int)) = false := by simpa using h8
  have h8' : l.length ≤ 8 := by omega
  clear h8
  go_enter Tryd.func12, Tryd.ntmps12
  go_wp2
  go_loopw [10] (fun i V => ∃ k : Nat, k ≤ l.length ∧ i = .int .i64 k ∧ Hid ((l.take k).all ruleB = true) ∧ Hid (Below w.heap.size w V)) (fun i _ => l.length - (intOf i).toNat)
  case atStart => exact ⟨0, Nat.zero_le _, rfl, Lib.hid rfl, Lib.hid (Below.refl _ _)⟩
  case round =>
    obtain ⟨k, hk, rfl, hT, hV⟩ := hrel
    by_cases hlt : k < l.length
    · obtain ⟨bk, o, rfl, hbk, c0, c1⟩ := row_rule (HR.out.below hV.out) hlt
      have hp := (HL.out _ (List.getElem_mem hlt)).2
      cases hB : ruleB l[k] with
      | true =>
        have YES := Lib.hid (all_take_r hlt hT.out hB)
        have HB := Lib.hid hB
        clear hB
        generalize l[k] = r at c0 c1 hp HB
        go_wp2_with (go_at_call 31; ((refine (isRule_any (r := r) (HG.out.below (bel2 hV.out (one_new _ _))) hp HB.out).mono ?_); rintro e w1 ⟨rfl, b1⟩))
        go_roundw
        case rel => exact ⟨k + 1, by omega, by go_num, YES, Lib.hid (bel2 (bel2 hV.out (one_new _ _)) b1)⟩
        case measure => simp [intOf]; omega
      | false =>
        have NO := Lib.hid (mayR_no hlt hB)
        have HB := Lib.hid hB
        clear hB
        generalize l[k] = r at c0 c1 hp HB
        go_wp2_with (go_at_call 31; ((refine (isRule_any (r := r) (HG.out.below (bel2 hV.out (one_new _ _))) hp HB.out).mono ?_); rintro e w1 ⟨rfl, b1⟩))
        go_ret
        exact ⟨by rw [NO.out]; rfl, bel2 (bel2 hV.out (one_new _ _)) b1⟩
    · obtain rfl : k = l.length := by omega
      have YES := Lib.hid (mayR_end h8' hT.out)
      go_wp2
      go_ret
      exact ⟨by rw [YES.out]; rfl, hV.out⟩

variable {b : Nat} {F : Nat → Prop} {c : Nat} {st : St}

set_option maxHeartbeats 1000000 in
theorem rdirectory_any (h : TreeAt w b F c st) (hL : LinksOk st) (hg : Glob w) {r : Ru} (hp : r.path.length ≤ maxLen) {work : Txt} (hw : work.length ≤ maxLen) {fr D E : Int} (hD : dirOf (lk st) r work fr = (D, E)) :
    Calls Tryd.prog 34 #[TP b, RuV r, .string (bs work), .int .i64 fr] w fun e w' => e = .returned (.tuple #[.int .i64 D, .int .i64 E]) ∧ Below w.heap.size w w' := by
  have H := Lib.hid h
  have HL := Lib.hid hL
  have HG := Lib.hid hg
  clear h hL hg
  by_cases h2 : r.kind = 2
  · have HW : Hid (wDir (lk st) work = (D, E)) := Lib.hid (by rw [← hD, dirOf, if_pos h2])
    have e2 : (r.kind == 2) = true := by simpa using h2
    clear hD h2
    have W1 := wDir_any (H.out.below (one_new w (RuO r))) HL.out (HG.out.below (one_new w (RuO r))) hw
    rw [HW.out] at W1
    go_enter Tryd.func34, Tryd.ntmps34
    go_wp2_with (go_at_call 59; ((refine W1.mono ?_); rintro e w1 ⟨rfl, b1⟩))
    exact bodyPost_ret (v := .tuple #[.int .i64 D, .int .i64 E]) (by simp [results, Tryd.results34, go_sem]) rfl ⟨rfl, bel2 (one_new _ _) b1⟩
  have e2 : (r.kind == 2) = false := by simpa using h2
  by_cases h3 : r.kind = 3
  · have HW : Hid (wDir (lk st) r.path = (D, E)) := Lib.hid (by rw [← hD, dirOf, if_neg h2, if_pos h3])
    have e3 : (r.kind == 3) = true := by simpa using h3
    clear hD h2 h3
    have W1 := wDir_any (H.out.below (one_new w (RuO r))) HL.out (HG.out.below (one_new w (RuO r))) hp
    rw [HW.out] at W1
    go_enter Tryd.func34, Tryd.ntmps34
    go_wp2_with (go_at_call 59; ((refine W1.mono ?_); rintro e w1 ⟨rfl, b1⟩))
    exact bodyPost_ret (v := .tuple #[.int .i64 D, .int .i64 E]) (by simp [results, Tryd.results34, go_sem]) rfl ⟨rfl, bel2 (one_new _ _) b1⟩
  have e3 : (r.kind == 3) = false := by simpa using h3
  obtain ⟨rfl, rfl⟩ : fr = D ∧ 0 = E := by rw [dirOf, if_neg h2, if_neg h3] at hD; cases hD; exact ⟨rfl, rfl⟩
  clear hD h2 h3
  go_enter Tryd.func34, Tryd.ntmps34
  go_wp2
  exact bodyPost_ret (v := .tuple #[.int .i64 fr, .int .i64 0]) (by simp [results, Tryd.results34, go_sem]) rfl ⟨rfl, one_new _ _⟩

end

end Go.Proofs.YtpcdcmoapenbdaaDoor.T
