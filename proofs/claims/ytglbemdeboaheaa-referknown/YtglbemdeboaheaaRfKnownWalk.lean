/-
  ReferKnown walked: refusals and names by hand.
-/
import Derived.Test.YtglbemdeboaheaaRfAwake
import Derived.BigQuiet
namespace Go.Proofs.Ytglbemdeboaheaa.Rf
open Go.ChangeShapes Go.WideShapes Go.ChangeAt Go.RowKit
open Go.Proofs.Ytglbemdeboaheaa.N (bs bs_data bs_size bs_inj may retB)

def kA : E := ⟨4, [97], 1⟩
def kB : E := ⟨4, [98], 1⟩
def kC : E := ⟨5, [97], 2⟩

section
variable {w0 w : World} {b : Nat} {F : Nat → Prop}

theorem k1 (w : World) : Calls Try.prog 10 #[RP b, .int .i64 8, .string ⟨#[97]⟩, .int .i64 1] w fun e w' => e = .returned (.int .i64 1) ∧ w = w' := bind_arg [97] (Or.inl (by omega)) w
theorem k2 (w : World) : Calls Try.prog 10 #[RP b, .int .i64 4, .string ⟨#[97]⟩, .int .i64 0] w fun e w' => e = .returned (.int .i64 1) ∧ w = w' := bind_arg [97] (Or.inr (by omega)) w
theorem k3 (w : World) : Calls Try.prog 10 #[RP b, .int .i64 4, .string ⟨#[97]⟩, .int .i64 64] w fun e w' => e = .returned (.int .i64 1) ∧ w = w' := bind_arg [97] (Or.inr (by omega)) w
theorem k4 (h : RY w0 w b F 0 []) : Calls Try.prog 10 #[RP b, .int .i64 4, .string ⟨#[97, 62, 98]⟩, .int .i64 1] w fun e w' => e = .returned (.int .i64 3) ∧ RY w0 w' b F 0 [] :=
  (bind_name (n := [97, 62, 98]) (by omega) (by omega) (short (by decide)) (by decide) w).mono fun e w' ⟨h1, k, h2⟩ => ⟨h1, h2 ▸ h.drewN k⟩
theorem k5 (h : RY w0 w b F 0 []) : Calls Try.prog 10 #[RP b, .int .i64 4, .string ⟨#[98]⟩, .int .i64 1] w fun e w' => e = .returned (.int .i64 0) ∧ ∃ F', RY w0 w' b F' 1 [kB] ∧ Went F w F' w' :=
  y_bind h (n := [98]) (by omega) (by omega) (short (by decide)) (by decide) (Or.inl rfl) (by unfold maxLen; omega) rfl
theorem k6 (h : RY w0 w b F 1 [kB]) : Calls Try.prog 10 #[RP b, .int .i64 4, .string ⟨#[97]⟩, .int .i64 1] w fun e w' => e = .returned (.int .i64 0) ∧ ∃ F', RY w0 w' b F' 2 [kB, kA] ∧ Went F w F' w' :=
  y_bind h (n := [97]) (by omega) (by omega) (short (by decide)) (by decide) (Or.inl (by decide)) (by unfold maxLen; omega) rfl
theorem k7 (h : RY w0 w b F 2 [kB, kA]) : Calls Try.prog 10 #[RP b, .int .i64 5, .string ⟨#[97]⟩, .int .i64 2] w fun e w' => e = .returned (.int .i64 0) ∧ ∃ F', RY w0 w' b F' 3 [kB, kA, kC] ∧ Went F w F' w' :=
  y_bind h (n := [97]) (by omega) (by omega) (short (by decide)) (by decide) (Or.inl (by decide)) (by unfold maxLen; omega) rfl
theorem k8 (h : RY w0 w b F 3 [kB, kA, kC]) : Calls Try.prog 10 #[RP b, .int .i64 4, .string ⟨#[97]⟩, .int .i64 1] w fun e w' => e = .returned (.int .i64 0) ∧ ∃ F', RY w0 w' b F' 4 [kB, kA, kC] ∧ Went F w F' w' :=
  y_bind h (n := [97]) (by omega) (by omega) (short (by decide)) (by decide) (Or.inr (by decide)) (by unfold maxLen; omega) rfl
theorem k9 (h : RY w0 w b F 4 [kB, kA, kC]) : Calls Try.prog 10 #[RP b, .int .i64 4, .string ⟨#[98]⟩, .int .i64 3] w fun e w' => e = .returned (.int .i64 5) ∧ RY w0 w' b F 4 [kB, kA, kC] :=
  (bind_there h.at_ (n := [98]) (s0 := 1) (by omega) (by omega) (short (by decide)) (by decide) (by decide) (by decide)).mono fun e w' ⟨h1, k, h2⟩ => ⟨h1, h2 ▸ h.drewN k⟩
theorem of_ab : ofL [kB, kA, kC] 4 1 = [[97], [98]] := by
  refine List.Perm.eq_of_pairwise (le := fun a b => a ≤ b) (fun a b _ _ h1 h2 => List.le_antisymm h1 h2) (sortT_sorted _) (by decide) ((sortT_perm _).trans ?_)
  exact List.Perm.swap _ _ _
theorem of_no : ofL [kC] 4 1 = [] := List.length_eq_zero_iff.1 (by rw [ofL, sortT_len]; decide)
theorem k10 (h : RY w0 w b F 4 [kB, kA, kC]) : Calls Try.prog 14 #[RP b, .int .i64 4, .int .i64 1] w fun e w' => ∃ a cp, e = .returned (.slice a 2 cp) ∧ Lies w.heap.size w' a [[97], [98]] ∧ RY w0 w' b F 4 [kB, kA, kC] ∧ Below w.heap.size w w' :=
  y_of h 4 1 (by omega) of_ab rfl
theorem k11 (h : RY w0 w b F 4 [kB, kA, kC]) : Calls Try.prog 11 #[RP b, .int .i64 4, .string ⟨#[98]⟩] w fun e w' => e = .returned (.tuple #[.int .i64 1, .int .i64 0]) ∧ RY w0 w' b F 4 [kA, kC] ∧ Went F w F w' :=
  y_drop h (n := [98]) (ok_of (by omega) (by omega) (by decide)) (by decide) rfl
theorem k12 (h : RY w0 w b F 4 [kA, kC]) : Calls Try.prog 11 #[RP b, .int .i64 4, .string ⟨#[98]⟩] w fun e w' => e = .returned (.tuple #[.int .i64 0, .int .i64 4]) ∧ w = w' :=
  drop_no h.at_ (n := [98]) (ok_of (by omega) (by omega) (by decide)) (by decide)
theorem k13 (h : RY w0 w b F 4 [kA, kC]) : Calls Try.prog 11 #[RP b, .int .i64 9, .string ⟨#[97]⟩] w fun e w' => e = .returned (.tuple #[.int .i64 0, .int .i64 4]) ∧ w = w' :=
  drop_no h.at_ (n := [97]) (ok_of (by omega) (by omega) (by decide)) (by decide)
theorem k14 (h : RY w0 w b F 4 [kA, kC]) : Calls Try.prog 13 #[RP b, .int .i64 4, .string ⟨#[98]⟩] w fun e w' => e = .returned (.tuple #[.int .i64 0, .bool false]) ∧ w = w' :=
  find_no h.at_ (n := [98]) (ok_of (by omega) (by omega) (by decide)) (by decide)
theorem k15 (h : RY w0 w b F 4 [kA, kC]) : Calls Try.prog 15 #[RP b] w fun e w' => e = .returned (.int .i64 2) ∧ w = w' := len_any h.at_ rfl
theorem k16 (h : RY w0 w b F 4 [kA, kC]) : Calls Try.prog 12 #[RP b, .int .i64 1] w fun e w' => e = .returned (.int .i64 1) ∧ RY w0 w' b F 4 [kC] ∧ Went F w F w' :=
  y_forget h 1 (by unfold maxLen; omega) (by decide) rfl
theorem k17 (h : RY w0 w b F 4 [kC]) : Calls Try.prog 15 #[RP b] w fun e w' => e = .returned (.int .i64 1) ∧ w = w' := len_any h.at_ rfl
theorem k18 (h : RY w0 w b F 4 [kC]) : Calls Try.prog 14 #[RP b, .int .i64 4, .int .i64 1] w fun e w' => ∃ a cp, e = .returned (.slice a 0 cp) ∧ Lies w.heap.size w' a [] ∧ RY w0 w' b F 4 [kC] ∧ Below w.heap.size w w' :=
  y_of h 4 1 (by omega) of_no rfl
end

@[reducible] def errs : Obj := .cells #[.int .i64 1, .int .i64 1, .int .i64 1, .int .i64 3, .int .i64 0, .int .i64 0, .int .i64 0, .int .i64 0, .int .i64 5] 29 (0, 0)
/-- the two rows of errors -/
structure Errs (w : World) (p : Nat) : Prop where
  one : w.heap[p]? = some errs
  two : w.heap[p + 1]? = some errs
theorem Errs.new (w : World) : Errs ((w.alloc errs).alloc errs) w.heap.size :=
  ⟨(heap_alloc_old _ _ (by simp)).trans (heap_alloc_new w _), by have := heap_alloc_new (w.alloc errs) errs; simpa using this⟩
theorem Errs.cell1 {w : World} {p : Nat} (h : Errs w p) : ∀ k : Nat, k < 9 → ∃ z, w.cell? ⟨p, k, none⟩ = some (.int .i64 z) ∧ w.cell? ⟨p + 1, k, none⟩ = some (.int .i64 z) := by
  intro k hk
  simp only [World.cell?, h.one, h.two]
  match k, hk with
  | 0, _ => exact ⟨1, rfl, rfl⟩
  | 1, _ => exact ⟨1, rfl, rfl⟩
  | 2, _ => exact ⟨1, rfl, rfl⟩
  | 3, _ => exact ⟨3, rfl, rfl⟩
  | 4, _ => exact ⟨0, rfl, rfl⟩
  | 5, _ => exact ⟨0, rfl, rfl⟩
  | 6, _ => exact ⟨0, rfl, rfl⟩
  | 7, _ => exact ⟨0, rfl, rfl⟩
  | 8, _ => exact ⟨5, rfl, rfl⟩

set_option maxHeartbeats 8000000 in
set_option maxRecDepth 8000 in
theorem known_walk (X : World) : Calls Try.prog 5 #[] X fun e w' => e = .returned (.bool true) ∧ Below X.heap.size X w' := by
  go_enter Try.func5, Try.ntmps5
  go_wp2_with (first
    | (go_at_call 7; ((with_reducible refine (awake_any _).mono ?_); rintro e v1 ⟨rfl, b1⟩; have B1 := Lib.hid b1; clear b1))
    | (go_at_call 8; ((with_reducible refine (new_any _).mono ?_); rintro e w1 ⟨rfl, rfl⟩; have Y0 := Lib.hid (RY.new B1.out)))
    | (go_at_call 10; first
      | ((with_reducible refine (k1 _).mono ?_); rintro e w2 ⟨rfl, rfl⟩)
      | ((with_reducible refine (k2 _).mono ?_); rintro e w2 ⟨rfl, rfl⟩)
      | ((with_reducible refine (k3 _).mono ?_); rintro e w2 ⟨rfl, rfl⟩)
      | ((with_reducible refine (k4 Y0.out).mono ?_); rintro e w4 ⟨rfl, y⟩; have Y4 := Lib.hid y; clear y)
      | ((with_reducible refine (k5 Y4.out).mono ?_); rintro e w5 ⟨rfl, F5, y, _⟩; have Y5 := Lib.hid y; clear y)
      | ((with_reducible refine (k6 Y5.out).mono ?_); rintro e w6 ⟨rfl, F6, y, _⟩; have Y6 := Lib.hid y; clear y)
      | ((with_reducible refine (k7 Y6.out).mono ?_); rintro e w7 ⟨rfl, F7, y, _⟩; have Y7 := Lib.hid y; clear y)
      | ((with_reducible refine (k8 Y7.out).mono ?_); rintro e w8 ⟨rfl, F8, y, _⟩; have Y8 := Lib.hid y; clear y)
      | ((with_reducible refine (k9 Y8.out).mono ?_); rintro e w9 ⟨rfl, y⟩; have Y9 := Lib.hid y; clear y)))
  have ER := Errs.new w9
  have Y10 := Lib.hid ((Y9.out.alloc errs).alloc errs)
  clear Y0 Y4 Y5 Y6 Y7 Y8 Y9
  generalize hW : (w9.alloc errs).alloc errs = W at ER Y10 ⊢
  clear hW
  generalize w9.heap.size = p at ER ⊢
  have CC := Lib.hid ER.cell1
  clear ER
  go_loopw [4] (fun i V => ∃ k n : Nat, k ≤ 9 ∧ i = .int .i64 k ∧ V = W.drewN n) (fun i _ => 9 - (intOf i).toNat)
  case atStart => exact ⟨0, 0, by omega, rfl, rfl⟩
  case round =>
    obtain ⟨k, n, hk, rfl, rfl⟩ := hrel
    by_cases hlt : k < 9
    · obtain ⟨z, z1, z2⟩ := CC.out k hlt
      go_wp2
      go_quiet (fail)
      go_wp2
      go_roundw
      case rel => exact ⟨k + 1, n + nq, by omega, by go_num, by first | rfl | rw [World.drewN_drewN]⟩
      case measure => simp [intOf]; omega
    · obtain rfl : k = 9 := by omega
      have Y := Lib.hid (Y10.out.drewN n)
      clear Y10
      generalize W.drewN n = W1 at Y ⊢
      have t1 : ((bs [97]).toList == [97]) = true := by rw [Lib.toList_data, bs_data]; rfl
      have t2 : ((bs [98]).toList == [98]) = true := by rw [Lib.toList_data, bs_data]; rfl
      go_wp2_with (first
        | (go_at_call 14; first
          | ((with_reducible refine (k10 Y.out).mono ?_); rintro e w2 ⟨a, cp, rfl, l, y, _⟩; have LT := Lib.hid (fun i hi => Y.out.at_.ltF i hi); have L0 := Lib.hid l; have Y2 := Lib.hid y; clear l y)
          | ((with_reducible refine (k18 Y4.out).mono ?_); rintro e w5 ⟨a5, cp5, rfl, _, y, _⟩; have Y5 := Lib.hid y; clear y))
        | (go_at_call 11; first
          | ((with_reducible refine (k11 Y2.out).mono ?_); rintro e w3 ⟨rfl, y, g⟩; have L1 := L0.out.went g LT.out; obtain ⟨bk, rfl, lt0, l0⟩ := L1.at_ (k := 0) (by decide); obtain ⟨bk1, eb, _, l1⟩ := L1.at_ (k := 1) (by decide); cases eb; have Y3 := Lib.hid y; clear y g L1)
          | ((with_reducible refine (k12 Y3.out).mono ?_); rintro e w4 ⟨rfl, rfl⟩)
          | ((with_reducible refine (k13 Y3.out).mono ?_); rintro e w4 ⟨rfl, rfl⟩))
        | (go_at_call 13; (with_reducible refine (k14 Y3.out).mono ?_); rintro e w4 ⟨rfl, rfl⟩)
        | (go_at_call 15; first
          | ((with_reducible refine (k15 Y3.out).mono ?_); rintro e w4 ⟨rfl, rfl⟩)
          | ((with_reducible refine (k17 Y4.out).mono ?_); rintro e w5 ⟨rfl, rfl⟩))
        | (go_at_call 12; (with_reducible refine (k16 Y3.out).mono ?_); rintro e w4 ⟨rfl, y, _⟩; have Y4 := Lib.hid y; clear y))
      go_ret
      exact ⟨rfl, Y5.out.below⟩

end Go.Proofs.Ytglbemdeboaheaa.Rf
