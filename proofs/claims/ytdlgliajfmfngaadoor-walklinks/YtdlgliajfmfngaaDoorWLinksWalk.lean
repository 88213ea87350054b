/-
  The law WalkLinks answers true.
-/
import Derived.Test.YtdlgliajfmfngaaDoorWSees
import Derived.IntWalk
namespace Go.Proofs.YtdlgliajfmfngaaDoor.T
open Go.ChangeShapes Go.WideShapes Go.ChangeAt Go.RowKit
open Go.Proofs.YtdlgliajfmfngaaDoor.N (bs bs_data bs_size bs_inj bs_of Glob)
open Go.Proofs.YtdlgliajfmfngaaDoor.A (Tm TRow)

/-- the name of the i-th link, and where it leads -/
def nmA (i : Nat) : Txt := [UInt8.ofNat (97 + i)]
def toA (ring : Bool) (k i : Nat) : Txt := if i + 1 = k then (if ring then [62, 97] else [62, 101, 110, 100]) else 62 :: nmA (i + 1)
def rowL (ring : Bool) (k : Nat) : Nat → Int → Txt → Option Br
  | 0 => updL noL 0 [101, 110, 100] (litB 1 1 ⟨#[]⟩)
  | i + 1 => updL (rowL ring k i) 0 (nmA i) (linkB (toA ring k i))

theorem nmA_ne {i j : Nat} (hi : i < 20) (hj : j < i) : nmA i ≠ nmA j := by
  intro h
  have h1 : UInt8.ofNat (97 + i) = UInt8.ofNat (97 + j) := (List.cons.inj h).1
  have h2 := congrArg UInt8.toNat h1
  simp only [UInt8.toNat_ofNat'] at h2
  omega
theorem row_free (ring : Bool) (k : Nat) {i : Nat} (hi : i < 20) : ∀ j, j ≤ i → rowL ring k j 0 (nmA i) = none
  | 0, _ => by simp [rowL, updL, nmA, noL]
  | j + 1, hj => by
    rw [rowL, updL, if_neg (fun h => nmA_ne hi hj h.2)]
    exact row_free ring k hi j (by omega)
theorem nmA_may {i : Nat} (hi : i < 20) : N.may 32 (nmA i) = true := by
  have : ∀ i : Fin 20, N.may 32 (nmA i.val) = true := by decide
  exact this ⟨i, hi⟩
theorem to_path (ring : Bool) (k : Nat) {i : Nat} (hi : i < 20) : (N.partsOf (toA ring k i)).isSome = true := by
  have h1 : ∀ i : Fin 20, (N.partsOf (62 :: nmA (i.val + 1))).isSome = true := by decide
  unfold toA
  split
  · split <;> decide
  · exact h1 ⟨i, hi⟩
theorem row_find (ring : Bool) (k : Nat) (h1 : 1 ≤ k) (h2 : k ≤ 20) : wFind (rowL ring k k) [62, 97] = if ring || decide (8 < k) then (14, noBr) else (0, litB 1 1 ⟨#[]⟩) := by
  have : k = 1 ∨ k = 2 ∨ k = 3 ∨ k = 4 ∨ k = 5 ∨ k = 6 ∨ k = 7 ∨ k = 8 ∨ k = 9 ∨ k = 10 ∨ k = 11 ∨ k = 12 ∨ k = 13 ∨ k = 14 ∨ k = 15 ∨ k = 16 ∨ k = 17 ∨ k = 18 ∨ k = 19 ∨ k = 20 := by omega
  rcases this with rfl | rfl | rfl | rfl | rfl | rfl | rfl | rfl | rfl | rfl | rfl | rfl | rfl | rfl | rfl | rfl | rfl | rfl | rfl | rfl <;> cases ring <;> rfl
theorem row_to (L : Int → Txt → Option Br) : wTo L [62, 97] = (0, [97], 0) := by kernel_rfl

theorem conv_one {i : Nat} (hi : i < 100) (w : World) : (convert 58 9 (.slice (some ⟨w.heap.size, 0, none⟩) 1 1)).run Tryd.prog (w.alloc (.cells #[.int .u8 (97 + (i : Int))] 5)) = .ok (.string (bs (nmA i))) (w.alloc (.cells #[.int .u8 (97 + (i : Int))] 5)) := by
  refine run_convert_bytes_back _ 58 9 5 ⟨w.heap.size, 0, none⟩ 1 (nmA i) Tryd.underlying58 Tryd.underlying5 Tryd.underlying9 (fun j hj => ?_)
  match j, hj with
  | 0, _ => simp [Addr.add, nmA, UInt8.toNat_ofNat']; omega

theorem conv_next {i : Nat} (hi : i < 99) (w : World) : (convert 58 9 (.slice (some ⟨w.heap.size, 0, none⟩) 1 1)).run Tryd.prog (w.alloc (.cells #[.int .u8 (97 + ((i : Int) + 1))] 5)) = .ok (.string (bs (nmA (i + 1)))) (w.alloc (.cells #[.int .u8 (97 + ((i : Int) + 1))] 5)) := by
  have := conv_one (i := i + 1) (by omega) w
  rw [show ((i + 1 : Nat) : Int) = (i : Int) + 1 by omega] at this
  exact this
theorem conv_behind {i : Nat} (hi : i < 100) (w : World) (o : Obj) : (convert 58 9 (.slice (some ⟨w.heap.size + 1, 0, none⟩) 1 1)).run Tryd.prog ((w.alloc o).alloc (.cells #[.int .u8 (97 + (i : Int))] 5)) = .ok (.string (bs (nmA i))) ((w.alloc o).alloc (.cells #[.int .u8 (97 + (i : Int))] 5)) := by
  have := conv_one hi (w.alloc o)
  simpa using this
theorem add_row {w0 W : World} {b k j : Nat} {ring : Bool} {U : Int → Bool} (h : Has w0 W b (4 + 3 * j) (Sees (rowL ring k j) rootD 0 U)) (hg : Glob w0) (hj : j < 20) (l : ByteArray) (hl : toA ring k j = l.data.toList) :
    Calls Tryd.prog 23 #[TP b, .int .i64 0, .string (bs (nmA j)), LitV 3 0 l] W fun e w' => e = .returned (.tuple #[.int .i64 0, .int .i64 0]) ∧ Has w0 w' b (4 + 3 * (j + 1)) (Sees (rowL ring k (j + 1)) rootD 0 U) ∧ W.heap.size ≤ w'.heap.size := by
  have := has_link h hg 0 (bs (nmA j)) l rng0 rfl (by rw [bs_data]; exact nmA_may hj) (by rw [bs_data]; exact row_free ring k hj j (Nat.le_refl _)) (by rw [← hl]; exact to_path ring k hj) (by omega)
  rw [bs_data, ← hl] at this
  exact this
theorem cat_next (i : Nat) : (⟨#[62]⟩ : ByteArray) ++ bs (nmA (i + 1)) = bs (62 :: nmA (i + 1)) := by
  rw [show (⟨#[62]⟩ : ByteArray) = bs [62] from rfl, N.bs_app]
  rfl
theorem nmA_size (i : Nat) : (bs (nmA i)).size = 1 := rfl

set_option maxHeartbeats 8000000 in
set_option maxRecDepth 20000 in
theorem walkLinks_walk (n : Int) (ring : Bool) {w : World} (hg : Glob w) (h0 : 0 ≤ n) (h1 : n < 256) : Calls Tryd.prog 4 #[.int .u8 n, .bool ring] w fun e w' => e = .returned (.bool true) ∧ Below w.heap.size w w' := by
  have HG := Lib.hid hg
  clear hg
  obtain ⟨k, hk, hk1, hk2⟩ : ∃ k : Nat, (1 : Int) + n % 20 = k ∧ 1 ≤ k ∧ k ≤ 20 := ⟨(1 + n % 20).toNat, by omega, by omega, by omega⟩
  go_enter Tryd.func4, Tryd.ntmps4
  go_wp2_with (first
    | (go_at_call 8; ((refine (awake8_any HG.out).mono ?_); rintro e w0 ⟨rfl, b0⟩; have G0 := Lib.hid (HG.out.below b0)))
    | (go_at_call 10; ((refine (has_new w0).mono ?_); rintro e w1 ⟨rfl, h1, s1⟩))
    | (go_at_call 23; ((with_reducible refine (has_seg h1 0 ⟨#[101, 110, 100]⟩ 1 rng0 rfl (by decide) rfl (by omega) (by omega) rfl (by omega)).mono ?_); rintro e w2 ⟨rfl, h2, s2⟩)))
  have H2 : Hid (Has w0 w2 w0.heap.size 4 (Sees (rowL ring k 0) rootD 0 fun u' => decide (u' = 1) || false)) := Lib.hid h2
  clear h1 h2
  go_loopw [9] (fun i W => ∃ j : Nat, j ≤ k ∧ i = .int .i64 j ∧ Hid (Has w0 W w0.heap.size (4 + 3 * j) (Sees (rowL ring k j) rootD 0 fun u' => decide (u' = 1) || false)) ∧ w2.heap.size ≤ W.heap.size) (fun i _ => k - (intOf i).toNat)
  case atStart => exact ⟨0, Nat.zero_le _, rfl, H2, Nat.le_refl _⟩
  case round =>
    obtain ⟨j, hj, rfl, HJ, hsz⟩ := hrel
    by_cases hlt : j < k
    · have c1 := fun W => conv_next (i := j) (by omega) W
      have c0 := fun W o => conv_behind (i := j) (by omega) W o
      have n1 := nmA_size (j + 1)
      have ct := cat_next j
      by_cases hlast : j + 1 = k
      · have hl1 : ((j : Int) == (k : Int) - 1) = true := by rw [beq_iff_eq]; omega
        cases ring with
        | true =>
          have ht : toA true k j = (⟨#[62, 97]⟩ : ByteArray).data.toList := by simp [toA, hlast]
          go_wp2_with (go_at_call 23; ((refine (add_row ((HJ.out.alloc _).alloc _) G0.out (by omega) ⟨#[62, 97]⟩ ht).mono ?_); rintro e w5 ⟨rfl, h5, s5⟩))
          go_roundw
          case rel => exact ⟨j + 1, by omega, by go_num, Lib.hid h5, by simp at s5; omega⟩
          case measure => simp [intOf]; omega
        | false =>
          have ht : toA false k j = (⟨#[62, 101, 110, 100]⟩ : ByteArray).data.toList := by simp [toA, hlast]
          go_wp2_with (go_at_call 23; ((refine (add_row ((HJ.out.alloc _).alloc _) G0.out (by omega) ⟨#[62, 101, 110, 100]⟩ ht).mono ?_); rintro e w5 ⟨rfl, h5, s5⟩))
          go_roundw
          case rel => exact ⟨j + 1, by omega, by go_num, Lib.hid h5, by simp at s5; omega⟩
          case measure => simp [intOf]; omega
      · have hl1 : ((j : Int) == (k : Int) - 1) = false := by rw [beq_eq_false_iff_ne]; omega
        have ht : toA ring k j = (bs (62 :: nmA (j + 1))).data.toList := by rw [bs_data]; simp [toA, hlast]
        go_wp2_with (go_at_call 23; ((refine (add_row ((HJ.out.alloc _).alloc _) G0.out (by omega) (bs (62 :: nmA (j + 1))) ht).mono ?_); rintro e w5 ⟨rfl, h5, s5⟩))
        go_roundw
        case rel => exact ⟨j + 1, by omega, by go_num, Lib.hid h5, by simp at s5; omega⟩
        case measure => simp [intOf]; omega
    · obtain rfl : j = k := by omega
      clear hj hlt
      have HF := Lib.hid (row_find ring j hk1 hk2)
      have HT : Hid (wTo (rowL ring j j) (⟨#[62, 97]⟩ : ByteArray).data.toList = (0, (⟨#[97]⟩ : ByteArray).data.toList, 0)) := Lib.hid (row_to (rowL ring j j))
      by_cases hb : ring = true ∨ 8 < j
      · have HF' : Hid (wFind (rowL ring j j) (⟨#[62, 97]⟩ : ByteArray).data.toList = (14, noBr)) := Lib.hid (HF.out.trans (if_pos (by simpa using hb)))
        clear HF HT
        cases ring with
        | true =>
          clear hb
          go_wp2_with (go_at_call 17; ((refine (has_find HJ.out G0.out ⟨#[62, 97]⟩ (by decide) HF'.out).mono ?_); rintro e w6 ⟨a6, c6, rfl, o6, b6⟩; have h6 := Lib.hid (HJ.out.below b6); clear o6 b6))
          go_ret
          exact ⟨rfl, bel2 b0 (h6.out.alloc _).bel⟩
        | false =>
          have h8 : 8 < j := by simpa using hb
          clear hb
          go_wp2_with (go_at_call 17; ((refine (has_find HJ.out G0.out ⟨#[62, 97]⟩ (by decide) HF'.out).mono ?_); rintro e w6 ⟨a6, c6, rfl, o6, b6⟩; have h6 := Lib.hid (HJ.out.below b6); clear o6 b6))
          go_ret
          exact ⟨rfl, bel2 b0 (h6.out.alloc _).bel⟩
      · obtain ⟨hr, h8⟩ : ring = false ∧ ¬ 8 < j := by simpa using hb
        subst hr
        have HF' : Hid (wFind (rowL false j j) (⟨#[62, 97]⟩ : ByteArray).data.toList = (0, litB 1 1 ⟨#[]⟩)) := Lib.hid (HF.out.trans (if_neg (by simpa using hb)))
        clear HF hb
        go_wp2_with (first
          | (go_at_call 17; ((refine (has_find HJ.out G0.out ⟨#[62, 97]⟩ (by decide) HF'.out).mono ?_); rintro e w6 ⟨a6, c6, rfl, o6, b6⟩; have h6 := Lib.hid (HJ.out.below b6); clear o6 b6))
          | (go_at_call 15; ((refine (has_to (h6.out.alloc _) G0.out ⟨#[62, 97]⟩ (z := ⟨#[97]⟩) (by decide) HT.out).mono ?_); rintro e w7 ⟨rfl, b7⟩; have h7 := Lib.hid ((h6.out.alloc _).below b7); have X7 := (BrAt.new w6 (litB 1 1 ⟨#[]⟩) (.slice a6 0 c6)).below b7; have x1 : w7.cell? ⟨w6.heap.size, 1, none⟩ = some (.int .i64 1) := X7.cell.2.1; have xl := X7.lt; clear b7)))
        go_ret
        exact ⟨rfl, bel2 b0 h7.out.bel⟩

end Go.Proofs.YtdlgliajfmfngaaDoor.T
