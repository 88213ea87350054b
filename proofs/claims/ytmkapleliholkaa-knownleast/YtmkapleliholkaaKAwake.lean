/-
  The document's example of a table (awake): added twice, dropped twice. A table that is younger than a law's first world (KY).
-/
import Derived.Test.YtmkapleliholkaaKAll
namespace Go.Proofs.Ytmkapleliholkaa.K
open Go.ChangeShapes Go.WideShapes Go.ChangeAt Go.RowKit

/-- how many numbers are known -/
theorem all_len {w : World} {b : Nat} {U : Int → Int} {C : Int → Int → Int} (h : KnAt w b U C) {n : Nat} (hn : (lst U 64).length = n) : Calls Try.prog 11 #[KP b] w fun e w' => ∃ p c, e = .returned (.slice p n c) ∧ Below w.heap.size w w' := by
  subst hn
  refine (all_any h).mono fun e w' hp => ?_
  obtain ⟨v, rfl, q, bl⟩ := hp
  obtain ⟨p, c, rfl, _⟩ := q.val
  exact ⟨p, c, rfl, bl⟩

/-- a table younger than w0, and nothing older than w0 has changed -/
structure KY (w0 w : World) (b : Nat) (U : Int → Int) (C : Int → Int → Int) : Prop where
  at_ : KnAt w b U C
  bel : Below w0.heap.size w0 w
  ge : w0.heap.size ≤ b
section
variable {w0 w w' : World} {b : Nat} {U U' : Int → Int} {C C' : Int → Int → Int}
theorem KY.only (h : KY w0 w b U C) (k : KnAt w' b U' C') (o : Only b w w') : KY w0 w' b U' C' := ⟨k, h.bel.trans (o.below h.ge), h.ge⟩
theorem KY.below (h : KY w0 w b U C) (o : Below w.heap.size w w') : KY w0 w' b U C := ⟨h.at_.below o, h.bel.trans (o.mono h.bel.size), h.ge⟩
theorem KY.drew (h : KY w0 w b U C) : KY w0 w.drew b U C := ⟨h.at_.drew, h.bel.drew, h.ge⟩
end

/-- nothing is known -/
def U0 : Int → Int := fun _ => 0
def C0 : Int → Int → Int := fun _ _ => 0
theorem ky_new {w0 w : World} (h : Below w0.heap.size w0 w) : KY w0 (w.alloc (.cells kZ 47 (0, 0))) w.heap.size U0 C0 := ⟨kn_new w, h.alloc h.size _, h.size⟩

def aU : Int → Int := upU U0 1 7
def aC1 : Int → Int → Int := upC C0 1 4 1
def aC2 : Int → Int → Int := upC aC1 1 4 (aC1 1 4 + 1)
def aC3 : Int → Int → Int := upC aC2 1 4 (aC2 1 4 - 1)
def aU4 : Int → Int := upU aU 1 0

theorem awake_any (w : World) : Calls Try.prog 7 #[] w fun e w' => e = .returned (.bool true) ∧ Below w.heap.size w w' := by
  have K0 := Lib.hid (ky_new (Below.refl w.heap.size w))
  have A1 : Hid (∀ X, KnAt X w.heap.size U0 C0 → _) := Lib.hid (fun X (h : KnAt X w.heap.size U0 C0) => add_new h (x := 7) (r := 4) (n := 1) (by omega) (by omega) (by omega) (Or.inr ⟨rfl, fun j _ _ => by simp [U0]⟩) (Or.inl ⟨by omega, by omega, rfl, fun j _ _ => by omega⟩) (by omega) rfl)
  have A2 : Hid (∀ X, KnAt X w.heap.size aU aC1 → _) := Lib.hid (fun X (h : KnAt X w.heap.size aU aC1) => add_known h (x := 7) (r := 4) (n := 1) (by omega) (by omega) (by omega) (Or.inl ⟨by omega, by omega, rfl, fun j _ _ => by omega⟩) (by omega) (by simp [aC1, upC]) (by simp [aC1, upC]))
  have A3 : Hid (∀ X, KnAt X w.heap.size aU aC2 → _) := Lib.hid (fun X (h : KnAt X w.heap.size aU aC2) => drop_more h (k := 1) (r := 4) (by omega) (by omega) (by simp [aU, upU]) (by omega) (by omega) (by simp [aC2, aC1, upC]) (by simp [aC2, aC1, upC]) (s := 4) (by omega) (by omega) (by simp [aC2, aC1, upC]))
  have A4 : Hid (∀ X, KnAt X w.heap.size aU aC3 → _) := Lib.hid (fun X (h : KnAt X w.heap.size aU aC3) => drop_last h (k := 1) (r := 4) (by omega) (by omega) (by simp [aU, upU]) (by omega) (by omega) (by simp [aC3, aC2, aC1, upC]) (by simp [aC3, aC2, aC1, upC]) (fun s _ _ => by
    by_cases e : s = 4
    · subst e
      simp [aC3, aC2, aC1, upC]
    · simp [aC3, aC2, aC1, C0, upC, e]))
  have A5 : Hid (∀ X C, KnAt X w.heap.size aU4 C → _) := Lib.hid (fun X C (h : KnAt X w.heap.size aU4 C) => all_len h (n := 0) (by
    rw [lst_none aU4 (fun j _ _ => by
      by_cases e : j = 1
      · subst e
        rfl
      · simp [aU4, aU, upU, U0, e]) 64 (by omega)]
    rfl))
  go_enter Try.func7, Try.ntmps7
  go_wp2_with (first
    | (go_at_call 8; ((with_reducible refine (new_any w).mono ?_); rintro e w1 ⟨rfl, rfl⟩))
    | (go_at_call 9; ((with_reducible refine (A1.out _ K0.out.at_).mono ?_); rintro e w1 ⟨rfl, k1, o1⟩; have K1 := Lib.hid (K0.out.only k1 o1)))
    | (go_at_call 9; ((with_reducible refine (A2.out _ K1.out.at_).mono ?_); rintro e w2 ⟨rfl, k2, o2⟩; have K2 := Lib.hid (K1.out.only k2 o2)))
    | (go_at_call 13; ((with_reducible refine (A3.out _ K2.out.at_).mono ?_); rintro e w3 ⟨rfl, k3, o3⟩; have K3 := Lib.hid (K2.out.only k3 o3)))
    | (go_at_call 13; ((with_reducible refine (A4.out _ K3.out.at_).mono ?_); rintro e w4 ⟨rfl, k4, o4⟩; have K4 := Lib.hid (K3.out.only k4 o4)))
    | (go_at_call 11; ((with_reducible refine (A5.out _ _ K4.out.at_).mono ?_); rintro e w5 ⟨p, c, rfl, b5⟩)))
  go_ret
  exact ⟨rfl, K4.out.bel.trans (b5.mono K4.out.bel.size)⟩

end Go.Proofs.Ytmkapleliholkaa.K
