/-
  What All answers: the numbers that are known, rising, in memory of its own.
-/
import Derived.Test.YtmkapleliholkaaKDeeds
import Derived.Test.YtmkapleliholkaaQue
namespace Go.Proofs.Ytmkapleliholkaa.K
open Go.ChangeShapes Go.WideShapes Go.ChangeAt Go.RowKit

theorem info_int : (Try.prog.info? 3).map (fun i => (i.zero, i.size, i.bytes)) = some (some (.int .i64 0), 1, 8) := by kernel_rfl

/-- the numbers below k that are known -/
def lst (U : Int → Int) : Nat → List Int
  | 0 => []
  | k + 1 => if 1 ≤ k ∧ U k ≠ 0 then lst U k ++ [(k : Int)] else lst U k
theorem lst_len (U : Int → Int) : ∀ k, (lst U k).length ≤ k
  | 0 => by simp [lst]
  | k + 1 => by
    have := lst_len U k
    unfold lst
    split
    · simp; omega
    · omega
theorem lst_none (U : Int → Int) (h : ∀ j, 1 ≤ j → j ≤ 63 → U j = 0) : ∀ k, k ≤ 64 → lst U k = []
  | 0, _ => rfl
  | k + 1, hk => by
    unfold lst
    rw [if_neg (fun c => c.2 (h k (by omega) (by omega)))]
    exact lst_none U h k (by omega)
theorem lst_full (U : Int → Int) (h : ∀ j, 1 ≤ j → j ≤ 63 → U j ≠ 0) : ∀ k, k ≤ 64 → (lst U k).length = k - 1
  | 0, _ => rfl
  | 0 + 1, _ => by simp [lst]
  | k + 2, hk => by
    unfold lst
    rw [if_pos ⟨by omega, h _ (by omega) (by omega)⟩, List.length_append, lst_full U h (k + 1) (by omega)]
    simp

set_option maxRecDepth 8000 in
set_option maxHeartbeats 1000000 in
theorem all_any {w : World} {b : Nat} {U : Int → Int} {C : Int → Int → Int} (h : KnAt w b U C) : Calls Try.prog 11 #[KP b] w fun e w' => ∃ v, e = .returned v ∧ W.Que w.heap.size 3 .i64 w' v (lst U 64) ∧ Below w.heap.size w w' := by
  obtain ⟨i0, hi, hz0, hz1, hz2⟩ := info_parts info_int
  have HK := Lib.hid h
  clear h
  go_enter Try.func11, Try.ntmps11
  go_wp2
  go_loopw [3, 5] (fun v i X => ∃ n : Nat, n ≤ 64 ∧ i = .int .i64 n ∧ W.Que w.heap.size 3 .i64 X v (lst U n) ∧ Below w.heap.size w X) (fun _ i _ => 64 - (intOf i).toNat)
  case atStart => exact ⟨0, by omega, rfl, W.que_nil, Below.refl _ _⟩
  case round =>
    obtain ⟨n, hn, rfl, hq, hB⟩ := hrel
    have HQ := Lib.hid hq
    have HB := Lib.hid hB
    clear hq hB
    by_cases hlt : n < 64
    · have K1 := HK.out.below HB.out
      by_cases hp : 1 ≤ n ∧ U n ≠ 0
      · have HF := Lib.hid (find_yes K1 (k := n) (by omega) (by omega) hp.2)
        have e1 : lst U (n + 1) = lst U n ++ [(n : Int)] := by
          show (if 1 ≤ n ∧ U n ≠ 0 then lst U n ++ [(n : Int)] else lst U n) = _
          rw [if_pos hp]
        have E1 := Lib.hid e1
        have hl := lst_len U n
        have hbs := HB.out.size
        have HA := Lib.hid (HQ.out.below ((Below.refl wr.heap.size wr).alloc (Nat.le_refl _) (.cells #[.int .i64 n] 3)))
        clear K1 hp e1
        generalize lst U n = L at *
        go_wp2_with (first
          | (go_at_call 18; ((with_reducible refine HF.out.mono ?_); rintro e w1 ⟨rfl, rfl⟩))
          | (at_builtin; refine W.wpList_que rfl _ _ rfl Try.underlying31 hi hz0 hz1 hz2 (by omega) rfl HA.out (by omega) (by simp; omega) ⟨wr.heap.size, 0, none⟩ 1 rfl n (by simp [Addr.add_lit, World.cell?_alloc_new]) ?_; intro v3 w3 hv3 hgr3 ho3))
        go_roundw
        case rel =>
          refine ⟨n + 1, by omega, by go_num, by rw [E1.out]; exact hv3, HB.out.trans ⟨hgr3.os, hgr3.tape, hgr3.output, Nat.le_trans (by simp) hgr3.size, fun i hi => ?_⟩⟩
          refine (hgr3.block i (by simp; omega) (fun e => ?_)).trans (heap_alloc_old wr _ (by omega))
          have := (HQ.out.lt i e.symm).1
          omega
        case measure => simp [intOf]; omega
      · have HF := Lib.hid (find_no K1 (k := n) (by omega))
        have e1 : lst U (n + 1) = lst U n := by
          show (if 1 ≤ n ∧ U n ≠ 0 then lst U n ++ [(n : Int)] else lst U n) = _
          rw [if_neg hp]
        have E1 := Lib.hid e1
        clear K1 hp e1
        generalize lst U n = L at *
        go_wp2_with (first
          | (go_at_call 18; ((with_reducible refine HF.out.mono ?_); rintro e w1 ⟨rfl, rfl⟩)))
        go_roundw
        case rel => exact ⟨n + 1, by omega, by go_num, by rw [E1.out]; exact HQ.out, HB.out⟩
        case measure => simp [intOf]; omega
    · obtain rfl : n = 64 := by omega
      rw [show ((64 : Nat) : Int) = 64 from rfl]
      go_wp2
      go_ret
      exact ⟨_, rfl, HQ.out, HB.out⟩

end Go.Proofs.Ytmkapleliholkaa.K
