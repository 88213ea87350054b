/-
  TreeKnown: the states of its hierarchy, one behind another, and what they answer.
-/
import Derived.Test.YtfghoceigofoiaaDoorTMore2
import Derived.Test.YtfghoceigofoiaaDoorTHandsMath
namespace Go.Proofs.YtfghoceigofoiaaDoor.T
open Go.ChangeShapes Go.WideShapes Go.ChangeAt Go.RowKit
open Go.Proofs.YtfghoceigofoiaaDoor.N (bs bs_data bs_size bs_inj Row)
open Go.Proofs.YtfghoceigofoiaaDoor.A (Tm TRow)

def segK : Br := ⟨1, 1, 0, [], false, [], 0, 0, 0, 0⟩
def K1 (g1 : Nat) : St := segS noSt g1 segK 0 [97]
def K2 (g1 g2 : Nat) : St := dirS (K1 g1) g2 0 [100]
def K3 (g1 g2 g3 : Nat) : St := linkS (K2 g1 g2) g3 [62] 1 [108]
def K4 (g1 g2 g3 : Nat) : St := bindS (K3 g1 g2 g3) g1 ⟨segK, 0, [[97]]⟩ [122]
def K5 (g1 g2 g3 : Nat) : St := unbindS (nodeS (K4 g1 g2 g3) g1 (lessX ⟨segK, 0, [[97], [122]]⟩ 0)) 0 [97]
def K6 (g1 g2 g3 : Nat) : St := unbindAll 1 [[108]] (K5 g1 g2 g3)
def K7 (g1 g2 g3 : Nat) : St := unbindAll 0 [[100]] { K6 g1 g2 g3 with Z := upd (K6 g1 g2 g3).Z 1 none }
def K8 (g1 g2 g3 g4 : Nat) : St := dirS (K7 g1 g2 g3) g4 0 [100]

theorem k0a : freeE noSt 1 [97] = 4 := by simp [freeE, isD, noSt]
theorem k0b : freeE noSt 0 [97, 62, 98] = 3 := by simp [freeE, isD0, show N.may 32 [97, 62, 98] = false by decide]
theorem k0c : freeE noSt 0 [97] = 0 := free_ok (by decide) rfl
theorem k1P (g1 : Nat) (s : Txt) : (K1 g1).P (0, s) = if s = [97] then some g1 else none := by
  by_cases e : s = [97]
  · simp [K1, segS, bindS, nodeS, upd, noSt, e]
  · simp [K1, segS, bindS, nodeS, upd, noSt, e]
theorem k1G (g1 : Nat) : (K1 g1).G 1 = some g1 := by simp [K1, segS, bindS, nodeS, upd, segK]
theorem k1a (g1 : Nat) : freeE (K1 g1) 0 [97] = 5 := by simp [freeE, isD0, k1P, show N.may 32 [97] = true by decide]
theorem k1b (g1 : Nat) : freeE (K1 g1) 0 [98] = 0 := free_ok (by decide) (by rw [k1P]; rfl)
theorem k1c (g1 : Nat) : freeE (K1 g1) 0 [100] = 0 := free_ok (by decide) (by rw [k1P]; rfl)
theorem k1L (g1 : Nat) : (K1 g1).last + 1 = 1 := rfl

theorem k2a (g1 g2 : Nat) : freeE (K2 g1 g2) 1 [108] = 0 := by
  have h : isD (K2 g1 g2) 1 = true := by simp [isD, K2, dirS, bindS, K1, segS, nodeS, upd, noSt, dirX]
  have h2 : (K2 g1 g2).P (1, [108]) = none := by simp [K2, dirS, bindS, K1, segS, nodeS, upd, noSt, dirX]
  simp [freeE, h, h2, show N.may 32 [108] = true by decide]

section
variable {g1 g2 g3 g4 : Nat} (h21 : g2 ≠ g1) (h31 : g3 ≠ g1) (h32 : g3 ≠ g2) (h41 : g4 ≠ g1)

theorem k3a : (K3 g1 g2 g3).P (0, [100]) = some g2 := by simp [K3, linkS, K2, dirS, bindS, K1, segS, nodeS, upd, noSt, dirX]
include h32 in
theorem k3b : (K3 g1 g2 g3).N g2 = some ⟨⟨2, 0, 1, [], false, [], 0, 0, 0, 0⟩, 0, [[100]]⟩ := by
  simp [K3, linkS, K2, dirS, bindS, K1, segS, nodeS, upd, noSt, dirX, h32.symm]
theorem k3c : ((K3 g1 g2 g3).Z 1).getD 0 = 1 := by simp [K3, linkS, K2, dirS, bindS, K1, segS, nodeS, upd, noSt, dirX]
theorem k3d : (K3 g1 g2 g3).P (0, [97]) = some g1 := by simp [K3, linkS, K2, dirS, bindS, K1, segS, nodeS, upd, noSt, dirX]
include h21 h31 in
theorem k3e : (K3 g1 g2 g3).N g1 = some ⟨segK, 0, [[97]]⟩ := by
  simp [K3, linkS, K2, dirS, bindS, K1, segS, nodeS, upd, noSt, dirX, h21.symm, h31.symm, segK, segB]
theorem k3f : freeE (K3 g1 g2 g3) 0 [122] = 0 := free_ok (by decide) (by simp [K3, linkS, K2, dirS, bindS, K1, segS, nodeS, upd, noSt, dirX])
theorem k4a : (K4 g1 g2 g3).P (0, [97]) = some g1 := by simp [K4, K3, linkS, K2, dirS, bindS, K1, segS, nodeS, upd, noSt, dirX]
theorem k4b : (K4 g1 g2 g3).N g1 = some ⟨segK, 0, [[97], [122]]⟩ := by simp [K4, bindS, upd]
theorem k5a : (K5 g1 g2 g3).P (0, [100]) = some g2 := by simp [K5, unbindS, K4, K3, linkS, K2, dirS, bindS, K1, segS, nodeS, upd, noSt, dirX]
include h21 h32 in
theorem k5b : (K5 g1 g2 g3).N g2 = some ⟨⟨2, 0, 1, [], false, [], 0, 0, 0, 0⟩, 0, [[100]]⟩ := by
  simp [K5, unbindS, K4, K3, linkS, K2, dirS, bindS, K1, segS, nodeS, upd, noSt, dirX, h32.symm, h21]
theorem k5c : (K5 g1 g2 g3).P (0, [122]) = some g1 := by simp [K5, unbindS, K4, K3, linkS, K2, dirS, bindS, K1, segS, nodeS, upd, noSt, dirX]
theorem k5d : (K5 g1 g2 g3).N g1 = some ⟨segK, 0, [[122]]⟩ := by simp [K5, unbindS, nodeS, upd, lessX]
theorem k5e : (K5 g1 g2 g3).P (0, [113]) = none := by simp [K5, unbindS, K4, K3, linkS, K2, dirS, bindS, K1, segS, nodeS, upd, noSt, dirX]
theorem k5f : (K5 g1 g2 g3).P (1, [108]) = some g3 := by simp [K5, unbindS, K4, K3, linkS, K2, dirS, bindS, K1, segS, nodeS, upd, noSt, dirX]
include h31 in
theorem k5g : (K5 g1 g2 g3).N g3 = some ⟨linkB [62], 1, [[108]]⟩ := by
  simp [K5, unbindS, K4, K3, linkS, bindS, nodeS, upd, h31]
theorem k6a : (K6 g1 g2 g3).P (0, [100]) = some g2 := by simp [K6, unbindAll, K5, unbindS, K4, K3, linkS, K2, dirS, bindS, K1, segS, nodeS, upd, noSt, dirX]
include h21 h32 in
theorem k6b : (K6 g1 g2 g3).N g2 = some ⟨⟨2, 0, 1, [], false, [], 0, 0, 0, 0⟩, 0, [[100]]⟩ := by
  rw [K6, unbindAll_N]; exact k5b h21 h32
theorem k6c : ((K6 g1 g2 g3).Z 1).getD 0 = 0 := by simp [K6, unbindAll, K5, unbindS, K4, K3, linkS, K2, dirS, bindS, K1, segS, nodeS, upd, noSt, dirX, lessX]
theorem k7a : freeE (K7 g1 g2 g3) 1 [120] = 4 := by
  have h : isD (K7 g1 g2 g3) 1 = false := by simp [isD, K7, unbindAll, unbindS, upd]
  simp [freeE, h]
theorem k7b : freeE (K7 g1 g2 g3) 0 [100] = 0 := free_ok (by decide) (by simp [K7, unbindAll, unbindS, upd])
theorem k7L : (K7 g1 g2 g3).last + 1 = 2 := by simp [K7, K6, unbindAll, K5, unbindS, K4, K3, linkS, K2, dirS, bindS, K1, segS, nodeS, noSt]
theorem k8a : (K8 g1 g2 g3 g4).P (0, [100]) = some g4 := by simp [K8, dirS, bindS, upd, dirX]
theorem k8b : (K8 g1 g2 g3 g4).N g4 = some ⟨⟨2, 0, 2, [], false, [], 0, 0, 0, 0⟩, 0, [[100]]⟩ := by
  have := k7L (g1 := g1) (g2 := g2) (g3 := g3)
  simp [K8, dirS, bindS, upd, dirX, this]
theorem k8c : (K8 g1 g2 g3 g4).G 1 = some g1 := by
  simp [K8, dirS, bindS, K7, K6, unbindAll, K5, unbindS, K4, K3, linkS, K2, K1, segS, nodeS, upd, noSt, segK]
include h41 in
theorem k8d : (K8 g1 g2 g3 g4).N g1 = some ⟨segK, 0, [[122]]⟩ := by
  have e : (K8 g1 g2 g3 g4).N g1 = (K7 g1 g2 g3).N g1 := by simp [K8, dirS, bindS, upd, h41.symm]
  rw [e, K7, unbindAll_N]
  show (K6 g1 g2 g3).N g1 = _
  rw [K6, unbindAll_N]
  exact k5d
theorem k8e (s : Txt) : ((K8 g1 g2 g3 g4).P (0, s)).isSome = true ↔ s = [100] ∨ s = [122] := by
  by_cases e1 : s = [100]
  · simp [e1, k8a]
  · by_cases e2 : s = [122]
    · subst e2
      simp [K8, dirS, bindS, K7, K6, unbindAll, K5, unbindS, K4, K3, linkS, K2, K1, segS, nodeS, upd, noSt, dirX]
    · by_cases e3 : s = [97]
      · subst e3
        simp [K8, dirS, bindS, K7, K6, unbindAll, K5, unbindS, K4, K3, linkS, K2, K1, segS, nodeS, upd, noSt, dirX]
      · simp [K8, dirS, bindS, K7, K6, unbindAll, K5, unbindS, K4, K3, linkS, K2, K1, segS, nodeS, upd, noSt, dirX, e1, e2, e3]
theorem k8z : ¬ ((K8 g1 g2 g3 g4).Z 0).getD 0 = 0 := by
  simp [K8, dirS, bindS, K7, K6, unbindAll, K5, unbindS, K4, K3, linkS, K2, K1, segS, nodeS, upd, noSt, dirX, lessX]

end

theorem two_names {qs : List Txt} (hn : qs.Nodup) (hp : qs.Pairwise (fun x y => x ≤ y)) (hm : ∀ s, s ∈ qs ↔ s = [100] ∨ s = [122]) : qs = [[100], [122]] := by
  have h1 : ([100] : Txt) ∈ qs := (hm _).2 (Or.inl rfl)
  have h2 : ([122] : Txt) ∈ qs := (hm _).2 (Or.inr rfl)
  have hl : ∀ s ∈ qs, s = [100] ∨ s = [122] := fun s h => (hm s).1 h
  match qs, hn, hp, h1, h2, hl with
  | [], _, _, h1, _, _ => cases h1
  | [a], _, _, h1, h2, _ =>
    have e1 := List.mem_singleton.1 h1
    have e2 := List.mem_singleton.1 h2
    rw [← e1] at e2
    exact absurd e2 (by decide)
  | [a, b], hn, hp, h1, h2, hl =>
    rcases hl a (by simp) with rfl | rfl
    · rcases hl b (by simp) with rfl | rfl
      · exact absurd hn (by simp)
      · rfl
    · rcases hl b (by simp) with rfl | rfl
      · exact absurd hp (by decide)
      · exact absurd hn (by simp)
  | a :: b :: c :: l, hn, _, _, _, hl =>
    exfalso
    have ha := hl a (by simp)
    have hb := hl b (by simp)
    have hc := hl c (by simp)
    simp only [List.nodup_cons, List.mem_cons, not_or] at hn
    obtain ⟨⟨n1, n2, _⟩, ⟨n3, _⟩, _⟩ := hn
    rcases ha with rfl | rfl <;> rcases hb with rfl | rfl <;> rcases hc with rfl | rfl <;> simp_all

end Go.Proofs.YtfghoceigofoiaaDoor.T
