/-
  A table of names younger than a law's first world, what each call does to it; the document's example, walked.
-/
import Derived.Test.YtglbemdeboaheaaRfOf
import Derived.Deep.RegionHeld3
namespace Go.Proofs.Ytglbemdeboaheaa.Rf
open Go.ChangeShapes Go.WideShapes Go.ChangeAt Go.RowKit
open Go.Proofs.Ytglbemdeboaheaa.N (bs bs_data bs_size bs_inj may retB)

structure RY (w0 w : World) (b : Nat) (F : Nat → Prop) (c : Nat) (L : List E) : Prop where
  at_ : RfAt w b F c L
  young : ∀ i, F i → w0.heap.size ≤ i
  below : Below w0.heap.size w0 w

section
variable {w0 w w' : World} {b : Nat} {F F' : Nat → Prop} {c c' : Nat} {L L' : List E}

theorem RY.went (h : RY w0 w b F c L) (g : Went F w F' w') (a : RfAt w' b F' c' L') : RY w0 w' b F' c' L' :=
  ⟨a, g.ge h.young h.below.size, h.below.trans (g.below h.young h.below.size)⟩
theorem RY.bel (h : RY w0 w b F c L) (g : Below w.heap.size w w') : RY w0 w' b F c L :=
  ⟨h.at_.below g, h.young, h.below.trans (g.mono h.below.size)⟩
theorem below_drewN (w : World) (n : Nat) : Below w.heap.size w (w.drewN n) := ⟨rfl, rfl, rfl, Nat.le_refl _, fun _ _ => rfl⟩
theorem RY.drewN (h : RY w0 w b F c L) (n : Nat) : RY w0 (w.drewN n) b F c L := h.bel (below_drewN w n)
theorem RY.alloc (h : RY w0 w b F c L) (o : Obj) : RY w0 (w.alloc o) b F c L := h.bel (one_new w o)
theorem RY.new (h : Below w0.heap.size w0 w) : RY w0 (w.alloc (RO none)) w.heap.size (fun i => i = w.heap.size) 0 [] :=
  ⟨new_at w, fun i e => by rw [e]; exact h.size, h.alloc h.size _⟩

theorem y_bind (h : RY w0 w b F c L) {r s : Int} {n : Txt} (hr : 0 ≤ r ∧ r ≤ 7) (hs : 1 ≤ s ∧ s ≤ 63) (hl : n.length ≤ maxLen) (hn : may 32 n = true) (hg : get L r n = none ∨ get L r n = some s) (hc : c < maxLen) (hL : bound L ⟨r, n, s⟩ = L') :
    Calls Try.prog 10 #[RP b, .int .i64 r, .string (bs n), .int .i64 s] w fun e w' => e = .returned (.int .i64 0) ∧ ∃ F', RY w0 w' b F' (c + 1) L' ∧ Went F w F' w' := by
  subst hL
  exact (bind_ok h.at_ hr hs hl hn hg hc).mono fun e w' ⟨h1, F', h2, h3⟩ => ⟨h1, F', h.went h2 h3, h2⟩
theorem y_drop (h : RY w0 w b F c L) {r : Int} {n : Txt} (hk : ok r n) {s : Int} (hg : get L r n = some s) (hL : del L r n = L') :
    Calls Try.prog 11 #[RP b, .int .i64 r, .string (bs n)] w fun e w' => e = .returned (.tuple #[.int .i64 s, .int .i64 0]) ∧ RY w0 w' b F c L' ∧ Went F w F w' := by
  subst hL
  exact (drop_yes h.at_ hk hg).mono fun e w' ⟨h1, h2, h3⟩ => ⟨h1, h.went h2 h3, h2⟩
theorem y_forget (h : RY w0 w b F c L) (s : Int) {k : Int} (hc : c ≤ maxLen) (hk : ((L.length : Nat) : Int) - ((forget L s).length : Nat) = k) (hL : forget L s = L') :
    Calls Try.prog 12 #[RP b, .int .i64 s] w fun e w' => e = .returned (.int .i64 k) ∧ RY w0 w' b F c L' ∧ Went F w F w' := by
  subst hL
  exact (forget_any h.at_ s hc hk).mono fun e w' ⟨h1, h2, h3⟩ => ⟨h1, h.went h2 h3, h2⟩
theorem y_of (h : RY w0 w b F c L) (r s : Int) (hc : c < 1000000) {qs : List Txt} (hq : ofL L r s = qs) {n : Nat} (hn : qs.length = n) :
    Calls Try.prog 14 #[RP b, .int .i64 r, .int .i64 s] w fun e w' => ∃ a cp, e = .returned (.slice a n cp) ∧ Lies w.heap.size w' a qs ∧ RY w0 w' b F c L ∧ Below w.heap.size w w' := by
  subst hq
  exact (of_any h.at_ r s hc hn).mono fun e w' ⟨a, cp, h1, h2, h3⟩ => ⟨a, cp, h1, h2, h.bel h3, h3⟩

end

/-! ### the document's example -/

section
variable {w0 w : World} {b : Nat} {F : Nat → Prop}
theorem short {n : Txt} (h : n.length ≤ 1000) : n.length ≤ maxLen := by unfold maxLen; omega
theorem ok_of {r : Int} {n : Txt} (h0 : -1000 ≤ r) (h1 : r ≤ 1000) (h : n.length ≤ 1000) : ok r n := ⟨by unfold rng; omega, short h⟩

theorem a_bind (h : RY w0 w b F 0 []) : Calls Try.prog 10 #[RP b, .int .i64 4, .string ⟨#[97]⟩, .int .i64 1] w fun e w' => e = .returned (.int .i64 0) ∧ ∃ F', RY w0 w' b F' 1 [⟨4, [97], 1⟩] ∧ Went F w F' w' :=
  y_bind h (n := [97]) (by omega) (by omega) (short (by decide)) (by decide) (Or.inl rfl) (by unfold maxLen; omega) rfl
theorem a_there (h : RY w0 w b F 1 [⟨4, [97], 1⟩]) : Calls Try.prog 10 #[RP b, .int .i64 4, .string ⟨#[97]⟩, .int .i64 2] w fun e w' => e = .returned (.int .i64 5) ∧ ∃ k, w' = w.drewN k :=
  bind_there h.at_ (n := [97]) (s0 := 1) (by omega) (by omega) (short (by decide)) (by decide) (by decide) (by decide)
theorem a_find (h : RY w0 w b F 1 [⟨4, [97], 1⟩]) : Calls Try.prog 13 #[RP b, .int .i64 4, .string ⟨#[97]⟩] w fun e w' => e = .returned (.tuple #[.int .i64 1, .bool true]) ∧ w = w' :=
  find_yes h.at_ (n := [97]) (s := 1) (ok_of (by omega) (by omega) (by decide)) (by decide)
theorem a_len (h : RY w0 w b F 1 [⟨4, [97], 1⟩]) : Calls Try.prog 15 #[RP b] w fun e w' => e = .returned (.int .i64 1) ∧ w = w' :=
  len_any h.at_ rfl
end

set_option maxHeartbeats 2000000 in
theorem awake_any (w : World) : Calls Try.prog 7 #[] w fun e w' => e = .returned (.bool true) ∧ Below w.heap.size w w' := by
  go_enter Try.func7, Try.ntmps7
  go_wp2_with (first
    | (go_at_call 8; ((with_reducible refine (new_any _).mono ?_); rintro e w1 ⟨rfl, rfl⟩; have Y := Lib.hid (RY.new (Below.refl w.heap.size w))))
    | (go_at_call 10; ((with_reducible refine (a_bind Y.out).mono ?_); rintro e w2 ⟨rfl, F2, y, _⟩; have Y2 := Lib.hid y; clear y))
    | (go_at_call 10; ((with_reducible refine (a_there Y2.out).mono ?_); rintro e w3 ⟨rfl, k, rfl⟩; have Y3 := Lib.hid (Y2.out.drewN k)))
    | (go_at_call 13; ((with_reducible refine (a_find Y3.out).mono ?_); rintro e w4 ⟨rfl, rfl⟩))
    | (go_at_call 15; ((with_reducible refine (a_len Y3.out).mono ?_); rintro e w4 ⟨rfl, rfl⟩)))
  go_ret
  exact ⟨rfl, Y3.out.below⟩

end Go.Proofs.Ytglbemdeboaheaa.Rf
