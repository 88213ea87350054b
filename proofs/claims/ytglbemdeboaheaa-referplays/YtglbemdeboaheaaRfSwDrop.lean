/-
  ReferPlays, a deed that drops a name.
-/
import Derived.Test.YtglbemdeboaheaaRfSwBind
namespace Go.Proofs.Ytglbemdeboaheaa.Rf
open Go.ChangeShapes Go.WideShapes Go.ChangeAt Go.RowKit
open Go.Proofs.Ytglbemdeboaheaa.N (bs bs_data bs_size bs_inj bs_of may retB)
open Go.Proofs.Ytglbemdeboaheaa.G (El Row flat kT goodT)
set_option linter.unusedVariables false

section
variable {X V : World} {b : Nat} {s0 : Value} {k db : Nat} {d : Dd} {F : Nat → Prop} {c : Nat} {m : List Dd} {va : Option Addr} {vc : Nat} {A : Int} {a : Act} {J K' : Act → World → Prop} {Q' : Exit → Act → World → Prop}

set_option maxHeartbeats 16000000 in
set_option maxRecDepth 8000 in
theorem sw_drop (hf : Fr a) (h0 : slot a 0 = s0) (h3 : slot a 3 = RP b) (h4 : slot a 4 = .slice va m.length vc) (h5 : slot a 5 = .int .i64 k) (h6 : slot a 6 = .pointer (some ⟨db, 0, none⟩)) (h7 : slot a 7 = .int .i64 A)
    (hP : PS X V b F c (Lm m) (.slice va m.length vc) m db d) (hA : AtOf m d.ring d.name m.length A) (hk : k ≤ 1000) (hc : c ≤ k) (hm : m.length ≤ k) (hq : ∀ x ∈ m, x.name.length ≤ 100 ∧ x.Ok) (hd : d.Ok) (h100 : d.name.length ≤ 100) (hop : d.op = 5)
    (hJ : ∀ a' w', SwI X b s0 k db d a' w' → J a' w') (hK : ∀ a' w', Met J a' w' → K' a' w') : Code.wp Try.prog swCode (Exit.then K' Q') a V := by
  obtain ⟨g, hg, rfl⟩ := hf.opens
  have e0 := (hg 0).trans h0
  have e3 := (hg 3).trans h3
  have e4 := (hg 4).trans h4
  have e5 := (hg 5).trans h5
  have e6 := (hg 6).trans h6
  have e7 := (hg 7).trans h7
  rw [e0, e3, e4, e5, e6, e7]
  clear e0 e3 e4 e5 e6 e7 hg h0 h3 h4 h5 h6 h7 hf
  conv => arg 2; whnf
  have P1 := Lib.hid hP
  have HA := Lib.hid hA
  have HQ := Lib.hid hq
  have HD := Lib.hid hd
  have HJ := Lib.hid hJ
  obtain ⟨q0, q1, q2, q3⟩ := hP.at_
  have hl : d.name.length ≤ maxLen := hd.2.2.2
  have o1 : decide (d.op ≤ 4) = false := by rw [hop]; rfl
  have o2 : (d.op == 5) = true := by rw [hop]; rfl
  have hkk : ok d.ring d.name := ⟨hd.2.1, hl⟩
  clear hP hA hq hd hJ hop
  rcases HA.out with ⟨eA, hno⟩ | ⟨j, hj, eA, _, hsame⟩
  · subst eA
    have CD := Lib.hid (drop_no P1.out.pm.tab.at_ hkk (Lm_none (m := m) (r := d.ring) (n := d.name) (fun j hj => hno j hj hj)))
    clear hno
    go_wp2_with (go_at_call 11; (with_reducible refine CD.out.mono ?_); rintro e w2 ⟨rfl, e2⟩; subst w2)
    exact Met.intro (HJ.out _ _ ⟨⟨rfl, rfl⟩, rfl, rfl, rfl, rfl, F, c, m, by omega, by omega, HQ.out, P1.out⟩)
  · subst eA
    have hne : m ≠ [] := fun e => by subst e; simp at hj
    obtain ⟨va', vc', ev, hrow, hform⟩ := P1.out.pm.row
    cases ev
    obtain ⟨bk, rfl⟩ := hform hne
    have hcap := hrow.1
    have CD := Lib.hid (y_drop P1.out.pm.tab (r := d.ring) (n := d.name) hkk (Lm_get P1.out.pm.tab.at_.good hj hsame) (L' := Lm (m.take j ++ m.drop (j + 1))) (Lm_del P1.out.pm.tab.at_.good hj hsame))
    have HR := Lib.hid hrow
    clear hne hrow hsame hform
    go_upto_region 44 with (go_at_call 11; (with_reducible refine CD.out.mono ?_); rintro e w2 ⟨rfl, y, gg⟩; have P2 := Lib.hid (P1.out.went gg y); clear y gg)
    obtain ⟨va', vc', ev, hrow, _⟩ := P2.out.pm.row
    cases ev
    obtain ⟨hbk, r0, r1, r2, r3⟩ := row_deed0 hrow hj
    have HR2 := Lib.hid hrow
    clear q0 q1 q2 q3 hrow P1 HR hbk
    go_upto_region 47 with (fail)
    clear r0 r1 r2 r3
    have i1 : IntKind.i64.wrap ((j : Int) + 1) = (j : Int) + 1 := IntWalk.i64_in _ (by omega)
    have i2 : ((j : Int) + 1).toNat = j + 1 := by omega
    have i3 : (0 : Int) ≤ (j : Int) + 1 := by omega
    have i4 : (j : Int) + 1 ≤ (m.length : Int) := by omega
    have i5 : (j : Int) ≤ (vc : Int) := by omega
    have i6 : ¬ vc = 0 := by omega
    have i7 : (0 : Int) ≤ (j : Int) := by omega
    have lt1 : Hid ((m.take j).length = j) := Lib.hid (by rw [List.length_take]; omega)
    have ld1 : Hid ((m.drop (j + 1)).length = m.length - (j + 1)) := Lib.hid (by rw [List.length_drop])
    have R1 := Lib.hid (HR2.out.take j)
    by_cases hcj : vc = j + 1
    · subst hcj
      have ld0 : Hid ((m.drop (j + 1)).length = 0) := Lib.hid (by rw [ld1.out]; omega)
      have i8 : (j : Int) ≤ (j : Int) + 1 := by omega
      have R2 : Hid (Row kD w2 (some ⟨bk, 0, none⟩) 0 (m.drop (j + 1))) := Lib.hid (by rw [List.drop_of_length_le (by omega)]; exact Row.empty _ _ _)
      have hN : Hid ((m.take j ++ m.drop (j + 1)).length = m.length - 1) := Lib.hid (by rw [List.length_append, lt1.out, ld1.out]; omega)
      have EO : Hid (G.Own kD w2.heap.size (w2.alloc (.cells #[] 27)).drew (.slice (some ⟨w2.heap.size, 0, none⟩) 0 0) []) := Lib.hid (World.ownsRow_lit w2 #[] 0 (Nat.le_refl _) (by decide) rfl)
      have B0 : Hid (Below w2.heap.size w2 (w2.alloc (.cells #[] 27)).drew) := Lib.hid (one_new w2 _).drew
      have R1a : Hid (Row kD (w2.alloc (.cells #[] 27)).drew (some ⟨bk, 0, none⟩) (j + 1) (m.take j)) := Lib.hid (R1.out.below B0.out)
      go_region_held3 (fun W => True) (trivial) (first
        | (refine G.step_g (s := kD) (w := (w2.alloc (.cells #[] 27)).drew) (v := .slice (some ⟨w2.heap.size, 0, none⟩) 0 0) (l := []) goodD rfl (.tmp 205) (.tmp 208) rfl (by simp [Act.eval]) EO.out (some ⟨bk, 0, none⟩) (j + 1) j (m.take j) lt1.out (by simp [Act.eval]) R1a.out j (m.take j) rfl lt1.out (by omega) (by simp) ?_; intro a1 c1 W1 o1' g1' v1'; have O1 := Lib.hid o1'; have B1 := Lib.hid (EO.out.grown B0.out (Nat.le_refl _) g1'); have R2a := Lib.hid (R2.out.below B1.out); clear o1' g1' v1')
        | (refine G.step_g (s := kD) (w := W1) (v := .slice a1 j c1) (l := m.take j) goodD rfl (.tmp 209) (.tmp 213) rfl (by simp [Act.eval]) O1.out (some ⟨bk, 0, none⟩) (0) 0 (m.drop (j + 1)) ld0.out (by simp [Act.eval]) R2a.out (m.length - 1) (m.take j ++ m.drop (j + 1)) rfl hN.out (by omega) B1.out.size ?_; intro a2 c2 W2 o2' g2' v2'; have P5 := Lib.hid (P2.out.swap (O1.out.grown B1.out (Nat.le_refl _) g2') o2'); clear o2' g2' v2')
        | fail)
      all_goals go_wp2
      all_goals exact Met.intro (HJ.out _ _ ⟨⟨rfl, rfl⟩, rfl, rfl, rfl, rfl, F, c, m.take j ++ m.drop (j + 1), by omega, by rw [hN.out]; omega, fun x hx => (List.mem_append.1 hx).elim (fun h => HQ.out x (List.mem_of_mem_take h)) (fun h => HQ.out x (List.mem_of_mem_drop h)), P5.out⟩)
    · have R2 : Hid (Row kD w2 (some ⟨bk, (j + 1) * 4, none⟩) (vc - (j + 1)) (m.drop (j + 1))) := Lib.hid (by have := HR2.out.drop (j + 1) (by omega); rw [Nat.zero_add] at this; exact this)
      have hN : Hid ((m.take j ++ m.drop (j + 1)).length = m.length - 1) := Lib.hid (by rw [List.length_append, lt1.out, ld1.out]; omega)
      have EO : Hid (G.Own kD w2.heap.size (w2.alloc (.cells #[] 27)).drew (.slice (some ⟨w2.heap.size, 0, none⟩) 0 0) []) := Lib.hid (World.ownsRow_lit w2 #[] 0 (Nat.le_refl _) (by decide) rfl)
      have B0 : Hid (Below w2.heap.size w2 (w2.alloc (.cells #[] 27)).drew) := Lib.hid (one_new w2 _).drew
      have R1a : Hid (Row kD (w2.alloc (.cells #[] 27)).drew (some ⟨bk, 0, none⟩) vc (m.take j)) := Lib.hid (R1.out.below B0.out)
      go_region_held3 (fun W => True) (trivial) (first
        | (refine G.step_g (s := kD) (w := (w2.alloc (.cells #[] 27)).drew) (v := .slice (some ⟨w2.heap.size, 0, none⟩) 0 0) (l := []) goodD rfl (.tmp 205) (.tmp 208) rfl (by simp [Act.eval]) EO.out (some ⟨bk, 0, none⟩) (vc) j (m.take j) lt1.out (by simp [Act.eval]) R1a.out j (m.take j) rfl lt1.out (by omega) (by simp) ?_; intro a1 c1 W1 o1' g1' v1'; have O1 := Lib.hid o1'; have B1 := Lib.hid (EO.out.grown B0.out (Nat.le_refl _) g1'); have R2a := Lib.hid (R2.out.below B1.out); clear o1' g1' v1')
        | (refine G.step_g (s := kD) (w := W1) (v := .slice a1 j c1) (l := m.take j) goodD rfl (.tmp 209) (.tmp 213) rfl (by simp [Act.eval]) O1.out (some ⟨bk, (j + 1) * 4, none⟩) (vc - (j + 1)) (m.length - (j + 1)) (m.drop (j + 1)) ld1.out (by simp [Act.eval]) R2a.out (m.length - 1) (m.take j ++ m.drop (j + 1)) rfl hN.out (by omega) B1.out.size ?_; intro a2 c2 W2 o2' g2' v2'; have P5 := Lib.hid (P2.out.swap (O1.out.grown B1.out (Nat.le_refl _) g2') o2'); clear o2' g2' v2')
        | fail)
      all_goals go_wp2
      all_goals exact Met.intro (HJ.out _ _ ⟨⟨rfl, rfl⟩, rfl, rfl, rfl, rfl, F, c, m.take j ++ m.drop (j + 1), by omega, by rw [hN.out]; omega, fun x hx => (List.mem_append.1 hx).elim (fun h => HQ.out x (List.mem_of_mem_take h)) (fun h => HQ.out x (List.mem_of_mem_drop h)), P5.out⟩)

end

end Go.Proofs.Ytglbemdeboaheaa.Rf
