/-
  The document's example of names: the law's 'awake' answers true.
-/
import Derived.Test.YtipohdaofnhnpaaDoorNParents
import Derived.Test.YtipohdaofnhnpaaDoorNRefSplit
namespace Go.Proofs.YtipohdaofnhnpaaDoor.N
open Go.ChangeShapes Go.WideShapes Go.ChangeAt Go.RowKit

theorem Row.alloc {w : World} {a : Option Addr} {c : Nat} {qs : List (List UInt8)} (h : Row w a c qs) (o : Obj) : Row (w.alloc o) a c qs := h.below ((Below.refl _ _).alloc (Nat.le_refl _) o)

/-- a literal of texts -/
theorem Row.lit (w : World) (qs : List (List UInt8)) (t : TypeId) (n : Nat) (hn : qs.length ≤ n) : Row (w.alloc (.cells (qs.map fun p => Value.string (bs p)).toArray t)) (some ⟨w.heap.size, 0, none⟩) n qs := by
  refine ⟨hn, fun _ => ⟨w.heap.size, 0, rfl, by simp, fun j p hp => ?_⟩⟩
  rw [cell_of_row _ _ _ _ _ _ (heap_alloc_new w _)]
  rw [List.getElem?_toArray, Nat.zero_add, List.getElem?_map, hp]
  rfl

theorem ex_ps : ps [62, 97, 62, 98] = [[97], [98]] := by decide
theorem ex_er : er [62, 97, 62, 98] = 0 := by decide
theorem ex_up : up [62, 97, 62, 98] = [62, 97] := by decide
theorem ex_last : lastOf [62, 97, 62, 98] = [98] := by decide
theorem ex_pe : pe [62, 97, 62, 98] = 0 := by decide

def TwoPost (w : World) (e : Ending) (w' : World) : Prop := ∃ a c, e = .returned (.tuple #[.slice a 2 c, .int .i64 0]) ∧ Row w' a c [[97], [98]] ∧ Below w.heap.size w w'
theorem split_ex (w : World) (hg : Glob w) : Calls Tryd.prog 9 #[.string ⟨#[62, 97, 62, 98]⟩] w (TwoPost w) := by
  refine (split_any ⟨#[62, 97, 62, 98]⟩ w (by decide) hg).mono fun e w' ⟨a, c, he, hr, hb⟩ => ⟨a, c, ?_, ?_, hb⟩
  · rw [he]
    show Ending.returned (.tuple #[.slice a (ps [62, 97, 62, 98]).length c, .int .i64 (er [62, 97, 62, 98])]) = _
    rw [ex_ps, ex_er]; rfl
  · have h : Row w' a c (ps [62, 97, 62, 98]) := hr
    rw [ex_ps] at h
    exact h
theorem parent_ex (w : World) (hg : Glob w) : Calls Tryd.prog 16 #[.string ⟨#[62, 97, 62, 98]⟩] w fun e w' => e = .returned (.tuple #[.string ⟨#[62, 97]⟩, .string ⟨#[98]⟩, .int .i64 0]) ∧ Below w.heap.size w w' := by
  refine (parent_any ⟨#[62, 97, 62, 98]⟩ w (by decide) hg).mono fun e w' ⟨he, hb⟩ => ⟨?_, hb⟩
  rw [he]
  show Ending.returned (.tuple #[.string (bs (up [62, 97, 62, 98])), .string (bs (lastOf [62, 97, 62, 98])), .int .i64 (pe [62, 97, 62, 98])]) = _
  rw [ex_up, ex_last, ex_pe]; rfl
theorem join_ex (a : Option Addr) (c : Nat) (w : World) (hr : Row w a c [[97], [98]]) : Calls Tryd.prog 18 #[.slice a 2 c] w fun e w' => e = .returned (.string ⟨#[62, 97, 62, 98]⟩) ∧ Below w.heap.size w w' :=
  join_any a c [[97], [98]] w hr (by decide) (by decide)
theorem same_ex (a b : Option Addr) (c d : Nat) (w : World) (hr : Row w a c [[97], [98]]) (hs : Row w b d [[97], [98]]) : Calls Tryd.prog 11 #[.slice a 2 c, .slice b 2 d] w fun e w' => e = .returned (.bool true) ∧ ∃ n, w' = w.drewN n :=
  same_any a b c d [[97], [98]] [[97], [98]] w hr hs (by decide) (by decide)
theorem may_a (w : World) : Calls Tryd.prog 12 #[.string ⟨#[97]⟩] w fun e w' => e = .returned (.bool true) ∧ ∃ n, w' = w.drewN n := may_any ⟨#[97]⟩ w (by decide)
theorem may_st (w : World) : Calls Tryd.prog 12 #[.string ⟨#[62]⟩] w fun e w' => e = .returned (.bool false) ∧ ∃ n, w' = w.drewN n := may_any ⟨#[62]⟩ w (by decide)
theorem user_u (w : World) : Calls Tryd.prog 14 #[.string ⟨#[117]⟩] w fun e w' => e = .returned (.bool true) ∧ ∃ n, w' = w.drewN n := user_any ⟨#[117]⟩ w (by decide)

/-- one block more, some draws, and what a callee has made -/
theorem chain {B : Nat} {w w2 w7 : World} {o : Obj} {n : Nat} (h : Below B w w2) (h7 : Below ((w2.alloc o).drewN n).heap.size ((w2.alloc o).drewN n) w7) (hB : B ≤ w.heap.size := by exact Nat.le_refl _) : Below B w w7 := by
  have h1 : Below B w (w2.alloc o) := h.alloc (Nat.le_trans hB h.size) o
  have h2 : Below B w ((w2.alloc o).drewN n) := ⟨h1.os, h1.tape, h1.output, h1.size, h1.block⟩
  exact h2.trans (h7.mono (Nat.le_trans hB h2.size))

set_option maxHeartbeats 1000000 in
theorem awake_any (w : World) (hg : Glob w) : Calls Tryd.prog 8 #[] w fun e w' => e = .returned (.bool true) ∧ Below w.heap.size w w' := by
  have HG := Lib.hid hg
  clear hg
  go_enter Tryd.func8, Tryd.ntmps8
  go_wp2_with (first
    | (go_at_call 9; refine (split_ex _ HG.out).mono ?_; rintro e w1 ⟨a, c, rfl, hr, hb1⟩; have HR := Lib.hid hr; clear hr)
    | (go_at_call 16; refine (parent_ex _ (HG.out.below hb1)).mono ?_; rintro e w2 ⟨rfl, hb2⟩; have HR2 := Lib.hid (HR.out.below hb2); have HR3 := Lib.hid (HR2.out.alloc (.cells #[.string ⟨#[97]⟩, .string ⟨#[98]⟩] 9)); have HL := Lib.hid (Row.lit w2 [[97], [98]] 9 2 (by decide)))
    | (go_at_call 11; refine (same_ex _ _ _ _ _ HR3.out HL.out).mono ?_; rintro e w3 ⟨rfl, n, rfl⟩)
    | (go_at_call 12; first | (refine (may_a _).mono ?_; rintro e w4 ⟨rfl, n4, rfl⟩) | (refine (may_st _).mono ?_; rintro e w5 ⟨rfl, n5, rfl⟩))
    | (go_at_call 14; refine (user_u _).mono ?_; rintro e w6 ⟨rfl, n6, rfl⟩)
    | (go_at_call 18; refine (join_ex _ _ _ (HR3.out.drewN _)).mono ?_; rintro e w7 ⟨rfl, hb7⟩))
  go_ret
  exact ⟨rfl, chain (hb1.trans (hb2.mono hb1.size)) hb7⟩

end Go.Proofs.YtipohdaofnhnpaaDoor.N
