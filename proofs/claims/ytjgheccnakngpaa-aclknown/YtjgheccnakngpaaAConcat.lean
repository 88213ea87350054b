/-
  slices.Grow and slices.Concat at terms: what they return.
-/
import Derived.Test.YtjgheccnakngpaaAOwn
namespace Go.Proofs.Ytjgheccnakngpaa.A
open Go.ChangeShapes Go.WideShapes Go.ChangeAt Go.RowKit
open Go.Proofs.Ytjgheccnakngpaa.N

set_option maxHeartbeats 1000000 in
theorem grow_none (w : World) :
    Calls Try.prog 27 #[.slice none 0 0, .int .i64 0] w fun e w' => e = .returned (.slice none 0 0) ∧ w' = w := by
  go_enter Try.func27, Try.ntmps27
  go_wp2
  go_ret
  exact ⟨rfl, rfl⟩

set_option maxHeartbeats 1000000 in
theorem grow_some (n : Nat) (w : World) (h0 : 0 < n) (hn : n ≤ 1000000) :
    Calls Try.prog 27 #[.slice none 0 0, .int .i64 n] w fun e w' => ∃ v, e = .returned v ∧ Own w.heap.size w' v [] ∧ Below w.heap.size w w' := by
  obtain ⟨i0, hi, hz0, hz1, hz2⟩ := info_parts info_term
  have hrz : ∀ ty, (Builtin.append_ #[22, 3] ty #[.slice none 0 0, .int .i64 n]).run Try.prog w =
      .ok (.slice (some ⟨w.heap.size, 0, none⟩) n (grownCap w n 0 26)) (w.drew.alloc (.cells (Builtin.zeroCells (Value.agg #[.string ByteArray.empty, .bool false, .bool false, .bool false]).cells n ++ Builtin.zeroCells (Value.agg #[.string ByteArray.empty, .bool false, .bool false, .bool false]).cells (grownCap w n 0 26 - n)) 26)) := fun ty =>
    Lib.run_append_nil_zeros w 22 3 ty 26 i0 _ .i64 .i64 Try.underlying22 Try.underlying3 hi hz0 n h0 (by omega) (by omega) (by rw [hz2]; omega)
  obtain ⟨G, hG⟩ : ∃ G, G = grownCap w n 0 26 := ⟨_, rfl⟩
  have hge : n ≤ G := hG ▸ grownCap_ge w n 0 26
  have hle : G ≤ maxLen := hG ▸ grownCap_le_maxLen w n 0 26 (by unfold maxLen; omega)
  rw [← hG] at hrz
  clear hG
  have hsz : (Builtin.zeroCells #[Value.string ByteArray.empty, .bool false, .bool false, .bool false] n ++ Builtin.zeroCells #[Value.string ByteArray.empty, .bool false, .bool false, .bool false] (G - n)).size = G * 4 := by
    rw [Array.size_append, size_zeroCells, size_zeroCells]
    simp
    omega
  have HS := Lib.hid (World.ownsRow_made (base := w.heap.size) (e := 26) w _ G (Nat.le_refl _) hle hsz)
  clear hsz
  unfold maxLen at hle
  go_enter Try.func27, Try.ntmps27
  go_wp2_with (at_builtin; refine Lib.wpList_append_run _ rfl _ _ _ _ rfl _ _ rfl rfl _ _ (hrz _) ?_)
  go_ret
  exact ⟨_, rfl, HS.out, (one_new _ _).drew⟩

theorem grow_any (n : Nat) (w : World) (hn : n ≤ 1000000) :
    Calls Try.prog 27 #[.slice none 0 0, .int .i64 n] w fun e w' => ∃ v, e = .returned v ∧ Own w.heap.size w' v [] ∧ Below w.heap.size w w' := by
  by_cases h0 : 0 < n
  · exact grow_some n w h0 hn
  · obtain rfl : n = 0 := by omega
    exact (grow_none w).mono fun e w' h => ⟨_, h.1, Own.nil _ _, h.2 ▸ Below.refl _ _⟩

/-- slices of terms in a row: where each lies -/
abbrev Pt := Option Addr × Nat × List Tm
def all (ps : List Pt) : List Tm := ps.flatMap (fun p => p.2.2)
theorem all_snoc {ps : List Pt} {k : Nat} (hk : k < ps.length) : all (ps.take (k + 1)) = all (ps.take k) ++ ps[k].2.2 := by
  unfold all
  rw [List.take_succ_eq_append_getElem hk, List.flatMap_append]
  simp
theorem all_le (ps : List Pt) (k : Nat) : (all (ps.take k)).length ≤ (all ps).length := by
  have e : ps = ps.take k ++ ps.drop k := (List.take_append_drop k ps).symm
  have : all ps = all (ps.take k) ++ all (ps.drop k) := by
    unfold all
    rw [← List.flatMap_append, ← e]
  rw [this]; simp

set_option maxHeartbeats 2000000 in
theorem concat_any (sb : Nat) (ps : List Pt) (w : World) (hsb : sb < w.heap.size) (hn : ps.length ≤ 1000) (hc : ∀ j (h : j < ps.length), w.cell? ⟨sb, j, none⟩ = some (.slice ps[j].1 ps[j].2.2.length ps[j].2.1)) (hr : ∀ j (h : j < ps.length), TRow w ps[j].1 ps[j].2.1 ps[j].2.2) (hl : (all ps).length ≤ 1000000) :
    Calls Try.prog 21 #[.slice (some ⟨sb, 0, none⟩) ps.length ps.length] w fun e w' => ∃ a c, e = .returned (.slice a (all ps).length c) ∧ TRow w' a c (all ps) ∧ Below w.heap.size w w' := by
  have HC := Lib.hid hc
  have HR := Lib.hid hr
  clear hc hr
  go_enter Try.func21, Try.ntmps21
  go_wp2
  go_loop [3, 11] (fun s i => ∃ k : Nat, k ≤ ps.length ∧ i = .int .i64 k ∧ s = .int .i64 ((all (ps.take k)).length : Nat)) (fun _ i => ps.length - (intOf i).toNat)
  case atStart => exact ⟨0, Nat.zero_le _, rfl, rfl⟩
  case round =>
    obtain ⟨k, hk, rfl, rfl⟩ := hrel
    by_cases hlt : k < ps.length
    · have hcell := HC.out k hlt
      have hs : (all (ps.take (k + 1))).length = (all (ps.take k)).length + ps[k].2.2.length := by rw [all_snoc hlt]; simp
      have hs1 := all_le ps (k + 1)
      have hs2 : (all (ps.take k)).length + ps[k].2.2.length ≤ 1000000 := by omega
      have HS := Lib.hid hs
      clear hs hs1
      go_wp2
      go_round
      case rel => exact ⟨k + 1, by omega, by go_num, by rw [HS.out]; go_num⟩
      case measure => simp [intOf]; omega
    · obtain rfl : k = ps.length := by omega
      rw [List.take_length]
      go_wp2_with (go_at_call 27; refine (grow_any _ _ hl).mono ?_; rintro e w1 ⟨v, rfl, hown, hb1⟩)
      have HO := Lib.hid hown
      have HB := Lib.hid hb1
      clear hown hb1
      go_loopw [6, 27] (fun s i W => ∃ k : Nat, k ≤ ps.length ∧ i = .int .i64 k ∧ Hid (Own w.heap.size W s (all (ps.take k))) ∧ Hid (Below w.heap.size w W)) (fun _ i _ => ps.length - (intOf i).toNat)
      case atStart => exact ⟨0, Nat.zero_le _, rfl, HO, HB⟩
      case round =>
        clear HO HB
        obtain ⟨k, hk, rfl, hO, hB⟩ := hrel
        by_cases hlt : k < ps.length
        · have hcell := (hB.out.cell (p := ⟨sb, k, none⟩) hsb).trans (HC.out k hlt)
          have hrow := Lib.hid ((HR.out k hlt).below hB.out)
          have hs := all_snoc hlt
          have hs1 : (all (ps.take k)).length + ps[k].2.2.length ≤ 1000000 := by
            have h1 := all_le ps (k + 1)
            rw [hs, List.length_append] at h1
            omega
          have HS := Lib.hid hs
          clear hs
          have hsz := hB.out.size
          go_wp2_with (at_builtin; refine wpList_terms rfl (.tmp 31) (.tmp 32) rfl rfl hO.out _ _ _ rfl hrow.out hs1 hsz ?_; intro v' w' h1 h2; have H1 := Lib.hid h1; have H2 := Lib.hid (hO.out.grown hB.out (Nat.le_refl _) h2); clear h1 h2)
          go_roundw
          case rel => exact ⟨k + 1, by omega, by go_num, Lib.hid (by rw [HS.out]; exact H1.out), H2⟩
          case measure => simp [intOf]; omega
        · obtain rfl : k = ps.length := by omega
          rw [List.take_length] at hO
          obtain ⟨a, c, e, hrow⟩ := hO.out.row
          subst e
          go_wp2
          go_ret
          exact ⟨a, c, rfl, hrow, hB.out⟩

end Go.Proofs.Ytjgheccnakngpaa.A
