/-
  What the small functions of package letters answer: how many words, which word, how many bits below, what stands at a byte's place.
-/
import Derived.Test.YtnlohmkgkihldaaCalls
import Derived.Test.YtnlohmkgkihldaaLMath
import Derived.Test.YtnlohmkgkihldaaQue
import Derived.Deep.QuietTactic
import Derived.BigQuiet
import Derived.Lib.Hide
namespace Go.Proofs.Ytnlohmkgkihldaa.W
open Go.ChangeShapes Go.WideShapes Go.ChangeAt Go.RowKit

theorem wordsOf_any (n : Nat) (w : World) (h : n ≤ 1000) : Calls Try.prog 50 #[.int .i64 n] w fun e w' => e = .returned (.int .i64 (nw n)) ∧ w' = w := by
  go_enter Try.func50, Try.ntmps50
  go_wp2
  go_ret
  exact ⟨ret1 (by unfold nw; omega), rfl⟩

/-- which word a byte lies in -/
def wat (i : Nat) : Nat := 1 + i / 4
theorem wordAt_any (i : Nat) (w : World) (h : i ≤ 1000) : Calls Try.prog 57 #[.int .i64 i] w fun e w' => e = .returned (.int .i64 (wat i)) ∧ w' = w := by
  go_enter Try.func57, Try.ntmps57
  go_wp2
  go_ret
  exact ⟨ret1 (by unfold wat; omega), rfl⟩

theorem below_any (i : Nat) (w : World) (h : i ≤ 1000) : Calls Try.prog 58 #[.int .i64 i] w fun e w' => e = .returned (.int .u64 (bel i)) ∧ w' = w := by
  go_enter Try.func58, Try.ntmps58
  go_wp2
  go_ret
  exact ⟨ret1 (by unfold bel; omega), rfl⟩

/-- words that lie in a row from o on -/
def Lie (w : World) (b o : Nat) (zs : List Int) : Prop := ∀ i, i < zs.length → w.cell? ⟨b, o + i, none⟩ = some (.int .u64 (zs.getD i 0))
theorem Lie.drewN {w : World} {b o : Nat} {zs : List Int} (h : Lie w b o zs) (n : Nat) : Lie (w.drewN n) b o zs := h
theorem Lie.below {w w' : World} {b o : Nat} {zs : List Int} (h : Lie w b o zs) (hb : Below w.heap.size w w') : Lie w' b o zs := fun i hi =>
  (hb.cell (p := ⟨b, o + i, none⟩) (World.block_lt_of_cell? w _ (h i hi))).trans (h i hi)

theorem vl_int {zs : List Int} (hz : ∀ z ∈ zs, U64 z) (i : Nat) : bits .and .u64 (zs.getD (1 + i / 4) 0 / 2 ^ bel i) 511 = ((vl zs i : Nat) : Int) := by
  have hb : U64 (zs.getD (1 + i / 4) 0) := by
    by_cases hi : 1 + i / 4 < zs.length
    · have : zs.getD (1 + i / 4) 0 = zs[1 + i / 4] := by simp [List.getD, hi]
      rw [this]; exact hz _ (List.getElem_mem _)
    · rw [List.getD, List.getElem?_eq_none (by omega)]; exact ⟨by decide, by decide⟩
  exact get_int _ (bel i) 9 hb.1 hb.2 (by omega)

set_option maxHeartbeats 400000 in
theorem value_any {w : World} {b o c : Nat} {zs : List Int} (hl : Lie w b o zs) (hz : ∀ z ∈ zs, U64 z) (i : Nat) (hi : 1 + i / 4 < zs.length) (h : i ≤ 1000) :
    Calls Try.prog 52 #[.slice (some ⟨b, o, none⟩) zs.length c, .int .i64 i] w fun e w' => e = .returned (.int .u64 (vl zs i)) ∧ ∃ n, w' = w.drewN n := by
  have hc : w.cell? ⟨b, o + wat i, none⟩ = some (.int .u64 (zs.getD (1 + i / 4) 0)) := hl _ hi
  have HV := Lib.hid (vl_int hz i)
  generalize zs.getD (1 + i / 4) 0 = v at *
  have i0 : (0 : Int) ≤ (wat i : Int) := by omega
  have i1 : (wat i : Int) < (zs.length : Int) := by unfold wat; omega
  have b1 : bel i < 64 := by unfold bel; omega
  clear hl hz
  go_enter Try.func52, Try.ntmps52
  go_wp2
  go_quiet (first
    | (go_at_call 57; exact Calls.quiet_of_same (wordAt_any i _ h))
    | (go_at_call 58; exact Calls.quiet_of_same (below_any i _ h)))
  go_wp2
  go_ret
  exact ⟨ret1 HV.out, _, rfl⟩

end Go.Proofs.Ytnlohmkgkihldaa.W
