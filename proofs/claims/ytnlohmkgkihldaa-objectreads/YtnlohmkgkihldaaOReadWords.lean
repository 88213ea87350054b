/-
  The program's reader in memory: what words does to it.
-/
import Derived.Test.YtnlohmkgkihldaaOReadText
namespace Go.Proofs.Ytnlohmkgkihldaa.W
open Go.ChangeShapes Go.WideShapes Go.ChangeAt Go.RowKit
open Go.Proofs.Ytnlohmkgkihldaa.N (bs bs_data bs_of bs_size may may_pos retB)

/-- what words answers -/
def WdsRd (B b n : Nat) (S : RS) (w : World) (e : Ending) (w' : World) : Prop := ∃ v, e = .returned v ∧ OwnW w.heap.size w' v (pW n S).1 ∧ RdAt B w' b (pW n S).2 ∧ w.grownBy w' (some b)

theorem words_short {B : Nat} {w : World} {b n : Nat} {S : RS} (h : RdAt B w b S) (hn : S.1.length < n) : Calls Try.prog 19 #[RdP b, .int .i64 n] w (WdsRd B b n S w) := by
  have hfl := fail_any h
  have hp : pW n S = ([], ([], true)) := by unfold pW; rw [if_neg (by omega)]
  obtain ⟨a, c, L, hh, hw, hc, hB⟩ := h
  have c0 : w.cell? ⟨b, 0, none⟩ = some (.slice a L.length c) := by rw [cell_of_row _ _ _ _ _ _ hh]; rfl
  have hL : L.length < n := by rw [← cutL_len, hc]; exact hn
  have t1 : decide ((n : Int) > (L.length : Int)) = true := decide_eq_true (by omega)
  unfold WdsRd
  rw [hp]
  clear hh hw hc hp hn
  go_enter Try.func19, Try.ntmps19
  go_wp2_with (go_at_call 27; (refine hfl.mono ?_); rintro e w1 ⟨rfl, h1, g1⟩)
  go_ret
  exact ⟨_, rfl, ownW_nil, h1, g1⟩

theorem words_empty {B : Nat} {w : World} {b : Nat} {S : RS} {c : Nat} {L : List Int} (hh : w.heap[b]? = some (RdO none L.length c S.2)) (hw : Win w none c L) (hc : cutL L = S.1) (n : Nat) (hn : n ≤ S.1.length) : Calls Try.prog 19 #[RdP b, .int .i64 n] w (WdsRd B b n S w) := by
  have hL0 : L = [] := by
    cases L with
    | nil => rfl
    | cons x r => obtain ⟨g, o, e, -⟩ := hw.nums (by simp); cases e
  subst hL0
  obtain rfl : c = 0 := by rcases hw.nil with h | ⟨g, o, e⟩; exact h.2; cases e
  have hS : S.1 = [] := by rw [← hc]; rfl
  obtain ⟨C, s⟩ := S
  simp only at hS
  subst hS
  obtain rfl : n = 0 := by simpa using hn
  have c0 : w.cell? ⟨b, 0, none⟩ = some (.slice none 0 0) := by rw [cell_of_row _ _ _ _ _ _ hh]; rfl
  have f0 : w.frozen? ⟨b, 0, none⟩ = false := by simp [World.frozen?, hh]
  have HH := Lib.hid hh
  clear hh hw hc hn
  go_enter Try.func19, Try.ntmps19
  go_wp2
  go_loopw [5, 24] (fun v i W => v = .slice none 0 0 ∧ i = .int .i64 0 ∧ W = w) (fun _ _ _ => 0)
  case atStart => exact ⟨rfl, rfl, rfl⟩
  case round =>
    obtain ⟨rfl, rfl, rfl⟩ := hrel
    go_wp2
    go_ret
    exact ⟨_, rfl, ownW_nil, ⟨none, 0, [], set_row HH.out 0 _, win_nil, rfl, fun _ _ e => by cases e⟩, grown_set _ _ _ _⟩

/-- a row of its own, when an elder block is written, or a reader moves on -/
theorem own_grown {base : Nat} {w w' : World} {v : Value} {xs : List Int} {b : Nat} (h : OwnW base w v xs) (hg : w.grownBy w' (some b)) (hb : b < base) : OwnW base w' v xs := by
  obtain ⟨hl, h⟩ := h
  refine ⟨hl, ?_⟩
  rcases h with h | ⟨g, cap, cur, e, hgb, hh, r⟩
  · exact Or.inl h
  · exact Or.inr ⟨g, cap, cur, e, hgb, (hg.block g (Array.getElem?_eq_some_iff.1 hh).1 (fun e => by cases e; omega)).trans hh, r⟩
theorem own_set {base : Nat} {w : World} {v u : Value} {xs : List Int} {b j : Nat} (h : OwnW base w v xs) (hb : b < base) : OwnW base (w.setCell ⟨b, j, none⟩ u) v xs := own_grown h (grown_set _ _ _ _) hb

set_option maxHeartbeats 1000000 in
theorem words_some {B : Nat} {w : World} {b g o : Nat} {S : RS} {c : Nat} {L : List Int} (hh : w.heap[b]? = some (RdO (some ⟨g, o, none⟩) L.length c S.2)) (hw : Win w (some ⟨g, o, none⟩) c L) (hc : cutL L = S.1) (hgB : g < B) (n : Nat) (hn : n ≤ S.1.length) : Calls Try.prog 19 #[RdP b, .int .i64 n] w (WdsRd B b n S w) := by
  obtain ⟨i0, hi, hz0, hz1, hz2⟩ := info_parts info_word
  have hL : n ≤ L.length := by rw [← cutL_len, hc]; exact hn
  have hp : pW n S = ((cutL L).take n, ((cutL L).drop n, S.2)) := by unfold pW; rw [if_pos hn, hc]
  have hbl : b < w.heap.size := (Array.getElem?_eq_some_iff.1 hh).1
  have hcap := hw.cap
  have hlen := hw.len
  have c0 : w.cell? ⟨b, 0, none⟩ = some (.slice (some ⟨g, o, none⟩) L.length c) := by rw [cell_of_row _ _ _ _ _ _ hh]; rfl
  have HF := Lib.hid (show ∀ v : World, Below w.heap.size w v → v.frozen? ⟨b, 0, none⟩ = false ∧ v.cell? ⟨b, 0, none⟩ = some (.slice (some ⟨g, o, none⟩) L.length c) from fun v hb => ⟨by simp [World.frozen?, (hb.block b hbl).trans hh], (hb.cell (p := ⟨b, 0, none⟩) hbl).trans c0⟩)
  have hk := fun (v : World) (hb : Below w.heap.size w v) k => rd_cut (k := k) ((hb.block b hbl).trans hh) (hw.below hb) hgB hL rfl
  have HK := Lib.hid hk
  have HE := Lib.hid (show ∀ v : World, Below w.heap.size w v → ∀ k, k < n → ∃ y, v.cell? ⟨g, o + k, none⟩ = some (.int .u64 y) ∧ (cutL L).take k ++ [bits .and .u64 y 68719476735] = (cutL L).take (k + 1) from fun v hb k hk => by
    have hkl : k < L.length := by omega
    obtain ⟨g', o', e, hcell⟩ := (hw.nums.below hb) (by omega)
    cases e
    refine ⟨L[k], by rw [hcell k hkl]; simp [List.getD, hkl], ?_⟩
    rw [mask_is (hw.u64 _ (List.getElem_mem hkl)), List.take_succ_eq_append_getElem (by rw [cutL_len]; exact hkl)]
    simp [cutL])
  unfold WdsRd
  rw [hp]
  clear hh hw hp hk hn hc
  generalize cutL L = C at *
  generalize L.length = m at *
  have i0' : (0 : Int) ≤ (n : Int) := by omega
  have d0 : decide (m < n) = false := decide_eq_false (by omega)
  have i1 : (n : Int) ≤ (m : Int) := by omega
  have i2 : (n : Int) ≤ (c : Int) := by omega
  go_enter Try.func19, Try.ntmps19
  go_wp2
  go_loopw [5, 24] (fun v i W => ∃ k : Nat, k ≤ n ∧ i = .int .i64 k ∧ Hid (OwnW w.heap.size W v (C.take k)) ∧ Hid (Below w.heap.size w W)) (fun _ i _ => n - (intOf i).toNat)
  case atStart => exact ⟨0, Nat.zero_le _, rfl, Lib.hid ownW_nil, Lib.hid (Below.refl _ _)⟩
  case round =>
    obtain ⟨k, hk, rfl, hO, hB⟩ := hrel
    by_cases hlt : k < n
    · obtain ⟨y, hy, hY⟩ := HE.out wr hB.out k hlt
      have HY := Lib.hid hY
      have hsz := hB.out.size
      obtain ⟨N, hN⟩ : ∃ N, (C.take (k + 1)).length = N := ⟨_, rfl⟩
      have hkn : N ≤ 100000 := by rw [← hN]; simp; omega
      have HN := Lib.hid hkn
      have HNe := Lib.hid hN
      clear hN
      have hO2 := Lib.hid (hO.out.below (one_new wr (.cells #[.int .u64 (bits .and .u64 y 68719476735)] 37)))
      have hs2 : w.heap.size ≤ (wr.alloc (.cells #[.int .u64 (bits .and .u64 y 68719476735)] 37)).heap.size := by simp; omega
      have HS2 := Lib.hid hs2
      clear hY hkn hs2
      go_wp2_with (at_builtin; (refine wpList_nums rfl (.tmp 28) (.tmp 31) rfl Try.underlying22 hi hz0 hz1 hz2 rfl hO2.out _ _ _ rfl [bits .and .u64 y 68719476735] rfl (one_num wr _) _ _ HY.out HNe.out HN.out HS2.out ?_); intro p5 c5 w5 ho5 _ hg5)
      go_roundw
      case rel => exact ⟨k + 1, by omega, by go_num, Lib.hid ho5, Lib.hid (grow_below (hB.out.trans ((one_new wr _).mono hsz)) HS2.out hO2.out hg5)⟩
      case measure => simp [intOf]; omega
    · obtain rfl : k = n := by omega
      obtain ⟨f1, c1⟩ := HF.out wr hB.out
      by_cases hc1 : c = k
      · have K2 := Lib.hid ((HK.out wr hB.out 0 (by omega)).2 hc1)
        obtain rfl : m = k := by omega
        rw [Nat.sub_self] at K2
        subst hc1
        go_wp2
        go_ret
        exact ⟨_, rfl, own_set hO.out hbl, K2.out, grown_trans (grown_of hB.out _) (grown_set _ _ _ _)⟩
      · have K2 := Lib.hid ((HK.out wr hB.out _ rfl).1 hc1)
        go_wp2
        go_ret
        exact ⟨_, rfl, own_set hO.out hbl, K2.out, grown_trans (grown_of hB.out _) (grown_set _ _ _ _)⟩

theorem words_rd {B : Nat} {w : World} {b n : Nat} {S : RS} (h : RdAt B w b S) : Calls Try.prog 19 #[RdP b, .int .i64 n] w (WdsRd B b n S w) := by
  by_cases hn : n ≤ S.1.length
  case neg => exact words_short h (by omega)
  obtain ⟨a, c, L, hh, hw, hc, hB⟩ := h
  rcases hw.nil with ⟨rfl, -⟩ | ⟨g, o, rfl⟩
  · exact words_empty hh hw hc n hn
  · exact words_some hh hw hc (hB _ _ rfl) n hn

end Go.Proofs.Ytnlohmkgkihldaa.W
