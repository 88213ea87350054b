/-
  Drop: what it returns.
-/
import Derived.Test.YtjgheccnakngpaaASet
namespace Go.Proofs.Ytjgheccnakngpaa.A
open Go.ChangeShapes Go.WideShapes Go.ChangeAt Go.RowKit
open Go.Proofs.Ytjgheccnakngpaa.N

/-- two slices in a row: what Drop hands to Concat -/
@[reducible] def P2 (a1 a2 : Option Addr) (n1 n2 c1 c2 : Nat) : Obj := .cells #[.slice a1 n1 c1, .slice a2 n2 c2] 22

theorem concat2 (W : World) (a a3 : Option Addr) (c c3 n n3 : Nat) (l1 r m : List Tm) (hm : l1 ++ r = m) (h1 : TRow W a c l1) (h3 : TRow W a3 c3 r) (e1 : l1.length = n) (e3 : r.length = n3) (hl : l1.length ≤ 1000) (hl3 : r.length ≤ 1000) :
    Calls Try.prog 21 #[.slice (some ⟨W.heap.size, 0, none⟩) 2 2] (W.alloc (P2 a a3 n n3 c c3)).drew fun e w' => ∃ a' c', e = .returned (.slice a' m.length c') ∧ TRow w' a' c' m ∧ Below W.heap.size W w' := by
  subst e1 e3 hm
  have hb : Below W.heap.size W (W.alloc (P2 a a3 l1.length r.length c c3)).drew := (one_new _ _).drew
  have hc : ∀ j, (W.alloc (P2 a a3 l1.length r.length c c3)).drew.cell? ⟨W.heap.size, j, none⟩ = (#[Value.slice a l1.length c, .slice a3 r.length c3] : Array Value)[j]? := fun j =>
    cell_of_row _ _ j _ _ _ (heap_alloc_new W (P2 a a3 l1.length r.length c c3))
  have := concat_any W.heap.size [(a, c, l1), (a3, c3, r)] (W.alloc (P2 a a3 l1.length r.length c c3)).drew (by simp) (by simp)
    (fun j hj => by
      rw [hc j]
      match j, hj with
      | 0, _ => rfl
      | 1, _ => rfl)
    (fun j hj => by
      match j, hj with
      | 0, _ => exact h1.below hb
      | 1, _ => exact h3.below hb)
    (by simp [all]; omega)
  rw [show all [(a, c, l1), (a3, c3, r)] = l1 ++ r by simp [all]] at this
  exact this.mono fun e w' ⟨a', c', he, hr, hw⟩ => ⟨a', c', he, hr, bel2 hb hw⟩

def DropPost (l : List Tm) (u : List UInt8) (w : World) (e : Ending) (w' : World) : Prop := ∃ a c, e = .returned (.tuple #[.slice a (dropR l u).length c, .int .i64 (dropE l u)]) ∧ TRow w' a c (dropR l u) ∧ Below w.heap.size w w'

set_option maxHeartbeats 2000000 in
theorem drop_may (a : Option Addr) (c : Nat) (l : List Tm) (u : List UInt8) (w : World) (hr : TRow w a c l) (hl : ∀ t ∈ l, t.1.length ≤ maxLen) (hm : lmay l = false) :
    Calls Try.prog 17 #[.slice a l.length c, .string (bs u)] w (DropPost l u w) := by
  have HL := Lib.hid hl
  have HR := Lib.hid hr
  have HE := Lib.hid (dropE_may (u := u) hm)
  have HD := Lib.hid (dropR_may (u := u) hm)
  clear hl hr
  go_enter Try.func17, Try.ntmps17
  go_wp2_with (first
    | (go_at_call 12; refine (may_any _ _ _ _ HR.out HL.out).mono ?_; rintro e w1 ⟨rfl, h1⟩))
  exact bodyPost_ret (v := .tuple #[.slice none 0 0, .int .i64 1]) (by simp [results, Try.results17, go_sem]) rfl ⟨none, 0, by rw [HE.out, HD.out]; rfl, by rw [HD.out]; exact TRow.nil _, h1⟩

set_option maxHeartbeats 2000000 in
theorem drop_none (a : Option Addr) (c : Nat) (l : List Tm) (u : List UInt8) (w : World) (hr : TRow w a c l) (hl : ∀ t ∈ l, t.1.length ≤ maxLen) (hm : lmay l = true) (hth : there l u = false) :
    Calls Try.prog 17 #[.slice a l.length c, .string (bs u)] w (DropPost l u w) := by
  have HL := Lib.hid hl
  have HR := Lib.hid hr
  have HE := Lib.hid (dropE_none hm hth)
  have HD := Lib.hid (dropR_none hm hth)
  have HU := Lib.hid (lmay_parts hm).2.2
  have q16 : l.length ≤ 16 := (lmay_parts hm).1
  have hq : l.length ≤ 1000000 := by omega
  clear hl hr
  go_enter Try.func17, Try.ntmps17
  go_wp2_with (first
    | (go_at_call 12; refine (may_any _ _ _ _ HR.out HL.out).mono ?_; rintro e w1 ⟨rfl, h1⟩; have HR1 := Lib.hid (HR.out.below h1))
    | (go_at_call 20; refine (place_any a c l u _ HR1.out HU.out hq).mono ?_; rintro e w3 ⟨rfl, h3⟩))
  exact bodyPost_ret (v := .tuple #[.slice none 0 0, .int .i64 4]) (by simp [results, Try.results17, go_sem]) rfl ⟨none, 0, by rw [HE.out, HD.out]; rfl, by rw [HD.out]; exact TRow.nil _, bel2 h1 h3⟩

set_option maxHeartbeats 2000000 in
theorem drop_yes' (a : Option Addr) (c : Nat) (l : List Tm) (u : List UInt8) (w : World) (hr : TRow w a c l) (hl : ∀ t ∈ l, t.1.length ≤ maxLen) (hm : lmay l = true) (hth : there l u = true) :
    Calls Try.prog 17 #[.slice a l.length c, .string (bs u)] w (DropPost l u w) := by
  have HL := Lib.hid hl
  have HR := Lib.hid hr
  have HE := Lib.hid (dropE_yes hm hth)
  have HD := Lib.hid (dropR_yes hm hth)
  have HU := Lib.hid (lmay_parts hm).2.2
  have q16 : l.length ≤ 16 := (lmay_parts hm).1
  have hq : l.length ≤ 1000000 := by omega
  have q1 := (drop_yes HU.out hth).1
  have hs2 := slice_take a l.length c (ahead l u) (Nat.le_trans (ahead_le _ _) hr.1)
  have hs := slice_drop a l.length c (ahead l u + 1) (by omega)
  rw [show ((ahead l u + 1 : Nat) : Int) = (ahead l u : Int) + 1 by omega] at hs
  have hw : IntKind.i64.wrap ((ahead l u : Int) + 1) = (ahead l u : Int) + 1 := by rw [IntKind.wrap_i64]; omega
  clear hl hr
  go_enter Try.func17, Try.ntmps17
  go_wp2_with (first
    | (go_at_call 12; refine (may_any _ _ _ _ HR.out HL.out).mono ?_; rintro e w1 ⟨rfl, h1⟩; have HR1 := Lib.hid (HR.out.below h1))
    | (go_at_call 20; refine (place_any a c l u _ HR1.out HU.out hq).mono ?_; rintro e w3 ⟨rfl, h3⟩))
  have g1 := Lib.hid ((HR1.out.below h3).take (ahead l u))
  have g3 := Lib.hid ((HR1.out.below h3).drop (ahead l u + 1))
  have HC := Lib.hid (concat2 w3 a (dropA a c (ahead l u + 1)) c (c - (ahead l u + 1)) (ahead l u) (l.length - (ahead l u + 1)) (l.take (ahead l u)) (l.drop (ahead l u + 1)) (dropL l u) (dropL_is HU.out hth) g1.out g3.out (by simp; omega) (by simp) (by simp; omega) (by simp; omega))
  go_region_with (go_at_call 21; refine HC.out.mono ?_; rintro e w4 ⟨a', c', rfl, h4, h5⟩)
  all_goals go_wp2
  all_goals exact bodyPost_ret (v := .tuple #[.slice a' (dropL l u).length c', .int .i64 0]) (by simp [results, Try.results17, go_sem]) rfl ⟨a', c', by rw [HE.out, HD.out], by rw [HD.out]; exact h4, bel2 (bel2 h1 h3) h5⟩

theorem drop_any (a : Option Addr) (c : Nat) (l : List Tm) (u : List UInt8) (w : World) (hr : TRow w a c l) (hl : ∀ t ∈ l, t.1.length ≤ maxLen) :
    Calls Try.prog 17 #[.slice a l.length c, .string (bs u)] w (DropPost l u w) := by
  cases hm : lmay l with
  | false => exact drop_may a c l u w hr hl hm
  | true =>
    cases hth : there l u with
    | false => exact drop_none a c l u w hr hl hm hth
    | true => exact drop_yes' a c l u w hr hl hm hth

end Go.Proofs.Ytjgheccnakngpaa.A
