/-
  Small answers something, of any object.
-/
import Derived.Test.YtnlohmkgkihldaaOSame
namespace Go.Proofs.Ytnlohmkgkihldaa.W
open Go.ChangeShapes Go.WideShapes Go.ChangeAt Go.RowKit
open Go.Proofs.Ytnlohmkgkihldaa.N (bs bs_data bs_of bs_size may may_pos retB)

theorem ret_bool {a b : Bool} (h : a = b) : Ending.returned (.bool a) = .returned (.bool b) := by rw [h]

set_option maxRecDepth 8000 in
set_option maxHeartbeats 2000000 in
theorem small_any {w : World} {q : Pl} {o : Ob} (ho : ObIn w q o) (hF : Fit o) : Calls Try.prog 17 #[OV q o] w fun e w' => (e = .returned (.bool true) ∨ e = .returned (.bool false)) ∧ Below w.heap.size w w' := by
  have hb := one_new w (OO q o)
  have HD := Lib.hid (ho.d.below hb)
  have HK := Lib.hid (ho.l.below hb)
  have HN := Lib.hid hF.dn
  have HN2 := Lib.hid hF.ln
  have fd := hF.dl
  have fl := hF.ll
  have ft := hF.tl
  have fs := hF.sl
  unfold maxLen at fd fl ft fs
  clear ho hF hb
  obtain ⟨ta, tc, sa, sc, da, dc, la, lc⟩ := q
  go_enter Try.func17, Try.ntmps17
  go_wp2
  go_loop [3, 4] (fun s i => ∃ k : Nat, ∃ z : Int, k ≤ o.defs.length ∧ i = .int .i64 k ∧ s = .int .i64 z) (fun _ i => o.defs.length - (intOf i).toNat)
  case atStart => exact ⟨0, _, Nat.zero_le _, rfl, rfl⟩
  case round =>
    obtain ⟨k, z, hk, rfl, rfl⟩ := hrel
    by_cases hlt : k < o.defs.length
    · obtain ⟨bk, of, ea, hbk, c0, c1⟩ := HD.out.at_ hlt
      subst ea
      go_wp2
      go_round
      case rel => exact ⟨k + 1, _, by omega, by go_num, rfl⟩
      case measure => simp [intOf]; omega
    · obtain rfl : k = o.defs.length := by omega
      go_wp2
      have hbw := one_new w (OO ⟨ta, tc, sa, sc, da, dc, la, lc⟩ o)
      have HBw := Lib.hid hbw
      have e1 := heap_alloc_new w (OO ⟨ta, tc, sa, sc, da, dc, la, lc⟩ o)
      have c2 : (w.alloc (OO ⟨ta, tc, sa, sc, da, dc, la, lc⟩ o)).cell? ⟨w.heap.size, 2, none⟩ = some (.slice da o.defs.length dc) := by rw [cell_of_row _ _ _ _ _ _ e1]; rfl
      have c3 : (w.alloc (OO ⟨ta, tc, sa, sc, da, dc, la, lc⟩ o)).cell? ⟨w.heap.size, 3, none⟩ = some (.slice la o.links.length lc) := by rw [cell_of_row _ _ _ _ _ _ e1]; rfl
      clear e1 hbw HD
      generalize hW : w.alloc (OO ⟨ta, tc, sa, sc, da, dc, la, lc⟩ o) = W0 at *
      clear hW
      go_loopw [3, 5] (fun s i W => ∃ k n : Nat, ∃ z : Int, k ≤ o.links.length ∧ i = .int .i64 k ∧ s = .int .i64 z ∧ W = W0.drewN n) (fun _ i _ => o.links.length - (intOf i).toNat)
      case atStart => exact ⟨0, 0, _, Nat.zero_le _, rfl, rfl, rfl⟩
      case round =>
        obtain ⟨k, n, z, hk, rfl, rfl, rfl⟩ := hrel
        by_cases hlt : k < o.links.length
        · obtain ⟨bk, of, ea, hbk, x0, x1, x2⟩ := HK.out.at_ hlt
          subst ea
          have i0 : (0 : Int) ≤ (k : Int) := by omega
          have i1 : (k : Int) < (o.links.length : Int) := by omega
          go_wp2
          go_quiet (fail)
          go_wp2
          go_roundw
          case rel => exact ⟨k + 1, n + nq, _, by omega, by go_num, rfl, by first | rfl | rw [World.drewN_drewN]⟩
          case measure => simp [intOf]; omega
        · obtain rfl : k = o.links.length := by omega
          have HBn := Lib.hid (HBw.out.trans ((below_drewN W0 n).mono HBw.out.size))
          cases d1 : decide (z ≤ 5000) with
          | false =>
            go_wp2
            go_ret
            exact ⟨Or.inr rfl, HBn.out⟩
          | true =>
            cases d2 : decide ((o.defs.length : Int) ≤ 200) with
            | false =>
              go_wp2
              go_ret
              exact ⟨Or.inr rfl, HBn.out⟩
            | true =>
              cases d3 : decide ((o.links.length : Int) ≤ 200) with
              | false =>
                go_wp2
                go_ret
                exact ⟨Or.inr rfl, HBn.out⟩
              | true =>
                go_wp2
                go_ret
                exact ⟨Or.inl rfl, HBn.out⟩

end Go.Proofs.Ytnlohmkgkihldaa.W
