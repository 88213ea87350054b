/-
  The program's reader in memory: what text does to it.
-/
import Derived.Test.YtnlohmkgkihldaaOReader
namespace Go.Proofs.Ytnlohmkgkihldaa.W
open Go.ChangeShapes Go.WideShapes Go.ChangeAt Go.RowKit
open Go.Proofs.Ytnlohmkgkihldaa.N (bs bs_data bs_of bs_size may may_pos retB)

set_option maxHeartbeats 1000000 in
theorem text_rd {B : Nat} {w : World} {b : Nat} {S : RS} (h : RdAt B w b S) : Calls Try.prog 28 #[RdP b] w fun e w' => e = .returned (.string (bs (pT S).1)) ∧ RdAt B w' b (pT S).2 ∧ w.grownBy w' (some b) := by
  have hfl := fun (v : World) (hb : Below w.heap.size w v) => fail_any (h.below hb)
  obtain ⟨a, c, L, hh, hw, hc, hB⟩ := h
  have c0 : w.cell? ⟨b, 0, none⟩ = some (.slice a L.length c) := by rw [cell_of_row _ _ _ _ _ _ hh]; rfl
  have hbl : b < w.heap.size := (Array.getElem?_eq_some_iff.1 hh).1
  by_cases hg : Good L
  · have hr := read_yes (c := c) hw.nums hw.u64 hg rfl rfl
    obtain ⟨g, o, rfl, hcell⟩ := hw.nums hg.1
    have hp : pT S = (txt L, (S.1.drop (nw (rl L)), S.2)) := by
      unfold pT
      rw [← hc, if_pos ((cutL_good L).2 hg), cutL_txt, cutL_rl]
    have hle := hg.2.2.1
    have hnp := nw_pos (rl L)
    have hcp := hw.cap
    have hk := fun (v : World) (hb : Below w.heap.size w v) k => rd_cut (k := k) ((hb.block b hbl).trans hh) (hw.below hb) (hB _ _ rfl) hle rfl
    rw [hc] at hk
    have HK := Lib.hid hk
    have HF := Lib.hid (show ∀ v : World, Below w.heap.size w v → v.frozen? ⟨b, 0, none⟩ = false ∧ v.cell? ⟨b, 0, none⟩ = some (.slice (some ⟨g, o, none⟩) L.length c) from fun v hb => ⟨by simp [World.frozen?, (hb.block b hbl).trans hh], (hb.cell (p := ⟨b, 0, none⟩) hbl).trans c0⟩)
    rw [hp]
    clear hh hw hc hcell hfl hk hp hg
    generalize nw (rl L) = n at *
    generalize txt L = t at *
    generalize L.length = m at *
    have i0 : (0 : Int) ≤ (n : Int) := by omega
    have i1 : (n : Int) ≤ (m : Int) := by omega
    go_enter Try.func28, Try.ntmps28
    by_cases hc1 : c = n
    · obtain rfl : c = m := by omega
      subst hc1
      go_wp2_with (go_at_call 39; (refine hr.mono ?_); rintro e w1 ⟨rfl, b1⟩; obtain ⟨f1, c1⟩ := HF.out w1 b1; have K2 := Lib.hid ((HK.out w1 b1 0 (by omega)).2 rfl); rw [Nat.sub_self] at K2)
      go_ret
      exact ⟨rfl, K2.out, grown_trans (grown_of b1 _) (grown_set _ _ _ _)⟩
    · go_wp2_with (go_at_call 39; (refine hr.mono ?_); rintro e w1 ⟨rfl, b1⟩; obtain ⟨f1, c1⟩ := HF.out w1 b1; have K2 := Lib.hid ((HK.out w1 b1 _ rfl).1 hc1))
      go_ret
      exact ⟨rfl, K2.out, grown_trans (grown_of b1 _) (grown_set _ _ _ _)⟩
  · have hr := read_no (c := c) hw.nums hw.u64 hg
    have hp : pT S = ([], ([], true)) := by
      unfold pT
      rw [← hc, if_neg (fun h => hg ((cutL_good L).1 h))]
    rw [hp]
    clear hh hw hc hp hg
    go_enter Try.func28, Try.ntmps28
    go_wp2_with (first
      | (go_at_call 39; (refine hr.mono ?_); rintro e w1 ⟨rfl, b1⟩)
      | (go_at_call 27; (refine (hfl _ b1).mono ?_); rintro e w2 ⟨rfl, h2, g2⟩))
    go_ret
    exact ⟨rfl, h2, grown_trans (grown_of b1 _) g2⟩

end Go.Proofs.Ytnlohmkgkihldaa.W
