/-
  The document's example of access lists: the law's 'awake' answers true.
-/
import Derived.Test.YtjgheccnakngpaaARefSet
import Derived.Test.YtjgheccnakngpaaARefFind
namespace Go.Proofs.Ytjgheccnakngpaa.A
open Go.ChangeShapes Go.WideShapes Go.ChangeAt Go.RowKit
open Go.Proofs.Ytjgheccnakngpaa.N

def exF : Fl := (true, false, false)
def exT : Tm := ([42], exF)
theorem ex_find : findR [exT] [97] = exF := by decide

theorem awake_find (b : Nat) (w : World) (hr : TRow w (some ⟨b, 0, none⟩) 1 [exT]) : Calls Try.prog 15 #[.slice (some ⟨b, 0, none⟩) 1 1, .string ⟨#[97]⟩] w fun e w' => e = .returned (.agg #[.bool true, .bool false, .bool false]) ∧ Below w.heap.size w w' := by
  have h := find_any (some ⟨b, 0, none⟩) 1 [exT] [97] w hr (by intro t ht; simp [exT] at ht; subst ht; decide)
  rw [ex_find] at h
  exact h
theorem awake_may (w : World) : Calls Try.prog 12 #[.slice none 0 0] w fun e w' => e = .returned (.bool true) ∧ Below w.heap.size w w' := by
  have h := may_any none 0 [] w (TRow.nil w) (by intro t ht; cases ht)
  exact h

@[reducible] def exW (w : World) : World := ((w.alloc (.cells #[.bool true, .bool false, .bool false] 24)).alloc (.cells #[.string ⟨#[42]⟩, .bool true, .bool false, .bool false] 26)).drew
theorem ex_row (w : World) : TRow (exW w) (some ⟨w.heap.size + 1, 0, none⟩) 1 [exT] := by
  have h := TRow.one (w.alloc (FO exF)) exT
  rw [show (w.alloc (FO exF)).heap.size = w.heap.size + 1 by simp] at h
  exact h
theorem ex_flags (w : World) : FlAt (exW w) w.heap.size (true, false, false) := (FlAt.new w (true, false, false)).below ((one_new _ (TO exT)).drew)
theorem ex_below (w : World) : Below w.heap.size w (exW w) := (bel2 (one_new w (FO exF)) (one_new _ (TO exT))).drew

set_option maxHeartbeats 1000000 in
theorem awake_any (w : World) : Calls Try.prog 8 #[] w fun e w' => e = .returned (.bool true) ∧ Below w.heap.size w w' := by
  have HC := Lib.hid (awake_find (w.heap.size + 1) (exW w) (ex_row w))
  have HF := Lib.hid (ex_flags w)
  have HB := Lib.hid (ex_below w)
  go_enter Try.func8, Try.ntmps8
  go_wp2
  go_region_with (first
    | (go_at_call 15; refine HC.out.mono ?_; rintro e w1 ⟨rfl, h1⟩; obtain ⟨k0, k1, k2, k3, k4, k5, k6⟩ := (HF.out.below h1).facts)
    | (go_at_call 12; refine (awake_may _).mono ?_; rintro e w2 ⟨rfl, h2⟩))
  all_goals go_wp2
  all_goals (go_ret; exact ⟨rfl, bel2 (bel2 HB.out h1) h2⟩)

end Go.Proofs.Ytjgheccnakngpaa.A
