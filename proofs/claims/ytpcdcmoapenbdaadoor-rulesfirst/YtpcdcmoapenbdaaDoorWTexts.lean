/-
  A slice of texts that came in.
-/
import Derived.Test.YtpcdcmoapenbdaaDoorNRow
import Derived.WalkKit
import Derived.ProofKit
import Derived.SliceStrings
namespace Go.Proofs.YtpcdcmoapenbdaaDoor.T
open Go.ChangeShapes Go.WideShapes Go.ChangeAt Go.RowKit
open Go.Proofs.YtpcdcmoapenbdaaDoor.N (bs bs_data bs_size bs_inj bs_of Row)

/-- a slice of texts that came in -/
theorem texts_in {H : Type} {X : World} {s : Option Addr} {n c : Nat} {d : DataW H} {p : List MemPlace} {spare : Nat → Bool}
    (ho : (Value.cells (.slice s n c)).toList = [.slice none 0 0] ∧ (d, p) = (.nil, []) ∨
      ∃ (a : Addr) (len cap : Nat) (ss : List ByteArray), (Value.cells (.slice s n c)).toList = [.slice (some a) len cap] ∧ 0 ≤ a.block ∧ len ≤ cap ∧ cap ≤ maxLen ∧ ss.length = (if spare a.block then cap else len) ∧
        (d, p) = (.slice (strs (ss.take len)) (strs (ss.drop len)), MemPlace.row a ss.length) ∧
        (∀ i, i < ss.length → X.cell? (a.add i) = some (.string (ss.getD i ByteArray.empty))) ∧ (∀ s ∈ ss, s.size ≤ maxLen)) : ∃ qs, n = List.length qs ∧ Row X s c qs ∧ ∀ q ∈ qs, q.length ≤ maxLen := by
  rcases ho with ⟨h1, h2⟩ | ⟨a, len, cap, ss, h1, _, hlc, _, hss, _, hcell, hmx⟩
  · simp [Value.cells] at h1
    obtain ⟨rfl, rfl, rfl⟩ := h1
    exact ⟨[], rfl, Row.nil _ _ _, by simp⟩
  · simp [Value.cells] at h1
    obtain ⟨rfl, rfl, rfl⟩ := h1
    have hlen : n ≤ ss.length := by rw [hss]; split <;> omega
    refine ⟨(ss.take n).map (·.data.toList), by simp; omega, ⟨by simp; omega, fun h0 => ?_⟩, fun q hq => ?_⟩
    · have hn : 0 < n := by simp at h0; omega
      have h00 := hcell 0 (by omega)
      have hadd0 : a.add 0 = a := by simp [Addr.add]
      rw [hadd0] at h00
      have hs := World.cell?_spot h00
      have hblk := World.block_lt_of_cell? X _ h00
      obtain ⟨bk, o, sp⟩ := a
      simp only at hs
      subst hs
      refine ⟨bk, o, rfl, hblk, fun j q hq => ?_⟩
      rw [List.getElem?_map] at hq
      cases hj : (ss.take n)[j]? with
      | none => rw [hj] at hq; cases hq
      | some y =>
        rw [hj] at hq
        cases hq
        have hjl := (List.getElem?_eq_some_iff.1 hj).1
        rw [List.length_take] at hjl
        have hjs : j < ss.length := by omega
        have e := hcell j hjs
        have hadd : (⟨bk, o, none⟩ : Addr).add j = ⟨bk, o + j, none⟩ := by unfold Addr.add; split <;> simp_all
        rw [hadd] at e
        rw [e]
        have hy : ss[j]? = some y := by
          rw [List.getElem?_take] at hj
          rw [if_pos (by omega)] at hj
          exact hj
        rw [List.getD, hy, bs_of]
        rfl
    · obtain ⟨s, hs, rfl⟩ := List.mem_map.1 hq
      rw [N.size_len]
      exact hmx s (List.mem_of_mem_take hs)

end Go.Proofs.YtpcdcmoapenbdaaDoor.T
