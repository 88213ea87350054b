/-
  What object.Words and object.May answer.
-/
import Derived.Test.YtnlohmkgkihldaaOLay
namespace Go.Proofs.Ytnlohmkgkihldaa.W
open Go.ChangeShapes Go.WideShapes Go.ChangeAt Go.RowKit
open Go.Proofs.Ytnlohmkgkihldaa.N (bs bs_data bs_of bs_size may may_pos retB)

/-- Words of what may be, of what may not -/
def WYes (o : Ob) (w : World) (e : Ending) (w' : World) : Prop := ∃ v, e = .returned (.tuple #[v, .int .i64 0]) ∧ OwnW w.heap.size w' v (wOb o) ∧ Below w.heap.size w w'
def wNo : Ending := .returned (.tuple #[.slice none 0 0, .int .i64 12])

set_option maxHeartbeats 1000000 in
theorem obWords_yes (q : Pl) (o : Ob) (w : World) (hO : ObIn w q o) (hF : Fit o) (hM : mayOb o = true) : Calls Try.prog 14 #[OV q o] w (WYes o w) := by
  have hmp := mayOb_parts o
  rw [hM] at hmp
  have hp : partsOb o = true := by cases h : partsOb o <;> simp [h] at hmp ⊢
  have hs : (wOb o).length ≤ 1024 := by rw [hp] at hmp; simpa using hmp
  have h1 := partsMay_any q o (w.alloc (OO q o)) (hO.below (one_new _ _)) hF
  rw [hp] at h1
  have h2 := fun (V : World) (hB : Below (w.alloc (OO q o)).heap.size (w.alloc (OO q o)) V) => layOut_any q o V ((hO.below (one_new _ _)).below hB) (parts_lay hp)
  clear hO hF hM hmp hp
  have t1 : decide (((wOb o).length : Int) > 1024) = false := decide_eq_false (by omega)
  go_enter Try.func14, Try.ntmps14
  go_wp2_with (first
    | (go_at_call 22; (with_reducible refine h1.mono ?_); rintro e w1 ⟨rfl, b1⟩; (have q0 := b1.cell (p := ⟨w.heap.size, 0, none⟩) (by simp)); (have q1 := b1.cell (p := ⟨w.heap.size, 1, none⟩) (by simp)); (have q2 := b1.cell (p := ⟨w.heap.size, 2, none⟩) (by simp)); (have q3 := b1.cell (p := ⟨w.heap.size, 3, none⟩) (by simp)))
    | (go_at_call 26; (with_reducible refine (h2 _ b1).mono ?_); rintro e w2 ⟨v, rfl, ho, b2⟩; obtain ⟨pv, cv, ev, -⟩ := ho.que.val; subst ev; have HO2 := Lib.hid ho; clear ho))
  go_wp2
  refine bodyPost_ret (v := .tuple #[.slice pv (wOb o).length cv, .int .i64 0]) (by simp [results, Try.results14, go_sem]) rfl ⟨_, rfl, own_base HO2.out (Nat.le_trans (one_new w (OO q o)).size b1.size), bel2 (bel2 (one_new _ _) b1) b2⟩

set_option maxHeartbeats 1000000 in
theorem obWords_no (q : Pl) (o : Ob) (w : World) (hO : ObIn w q o) (hF : Fit o) (hM : mayOb o = false) : Calls Try.prog 14 #[OV q o] w fun e w' => e = wNo ∧ Below w.heap.size w w' := by
  have hmp := mayOb_parts o
  rw [hM] at hmp
  have h1 := partsMay_any q o (w.alloc (OO q o)) (hO.below (one_new _ _)) hF
  cases hp : partsOb o with
  | false =>
    rw [hp] at h1
    clear hO hF hM hmp hp
    go_enter Try.func14, Try.ntmps14
    go_wp2_with (first
      | (go_at_call 22; (with_reducible refine h1.mono ?_); rintro e w1 ⟨rfl, b1⟩))
    refine bodyPost_ret (v := .tuple #[.slice none 0 0, .int .i64 12]) (by simp [results, Try.results14, go_sem]) rfl ⟨rfl, bel2 (one_new _ _) b1⟩
  | true =>
    rw [hp] at h1
    have hs : 1024 < (wOb o).length := by rw [hp] at hmp; simp at hmp; omega
    have h2 := fun (V : World) (hB : Below (w.alloc (OO q o)).heap.size (w.alloc (OO q o)) V) => layOut_any q o V ((hO.below (one_new _ _)).below hB) (parts_lay hp)
    clear hO hF hM hmp hp
    have t1 : decide (((wOb o).length : Int) > 1024) = true := decide_eq_true (by omega)
    go_enter Try.func14, Try.ntmps14
    go_wp2_with (first
      | (go_at_call 22; (with_reducible refine h1.mono ?_); rintro e w1 ⟨rfl, b1⟩; (have q0 := b1.cell (p := ⟨w.heap.size, 0, none⟩) (by simp)); (have q1 := b1.cell (p := ⟨w.heap.size, 1, none⟩) (by simp)); (have q2 := b1.cell (p := ⟨w.heap.size, 2, none⟩) (by simp)); (have q3 := b1.cell (p := ⟨w.heap.size, 3, none⟩) (by simp)))
      | (go_at_call 26; (with_reducible refine (h2 _ b1).mono ?_); rintro e w2 ⟨v, rfl, ho, b2⟩; obtain ⟨pv, cv, ev, -⟩ := ho.que.val; subst ev; clear ho))
    refine bodyPost_ret (v := .tuple #[.slice none 0 0, .int .i64 12]) (by simp [results, Try.results14, go_sem]) rfl ⟨rfl, bel2 (bel2 (one_new _ _) b1) b2⟩

set_option maxHeartbeats 1000000 in
theorem obMay_any (q : Pl) (o : Ob) (w : World) (hO : ObIn w q o) (hF : Fit o) : Calls Try.prog 16 #[OV q o] w fun e w' => e = .returned (.bool (mayOb o)) ∧ Below w.heap.size w w' := by
  have hI := hO.below (one_new w (OO q o))
  cases hM : mayOb o with
  | true =>
    have h1 := obWords_yes q o (w.alloc (OO q o)) hI hF hM
    clear hO hF hM hI
    go_enter Try.func16, Try.ntmps16
    go_wp2_with (first
      | (go_at_call 14; (with_reducible refine h1.mono ?_); rintro e w1 ⟨v, rfl, -, b1⟩))
    go_ret
    exact ⟨rfl, bel2 (one_new _ _) b1⟩
  | false =>
    have h1 := obWords_no q o (w.alloc (OO q o)) hI hF hM
    clear hO hF hM hI
    go_enter Try.func16, Try.ntmps16
    go_wp2_with (first
      | (go_at_call 14; (with_reducible refine h1.mono ?_); unfold wNo; rintro e w1 ⟨rfl, b1⟩))
    go_ret
    exact ⟨rfl, bel2 (one_new _ _) b1⟩

end Go.Proofs.Ytnlohmkgkihldaa.W
