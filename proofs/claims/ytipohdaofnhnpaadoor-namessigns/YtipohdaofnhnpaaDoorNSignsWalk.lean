/-
  The law NamesSigns answers true.
-/
import Derived.Test.YtipohdaofnhnpaaDoorNSignsMath
import Derived.OpenShut
namespace Go.Proofs.YtipohdaofnhnpaaDoor.N
open Go.ChangeShapes Go.WideShapes Go.ChangeAt Go.RowKit

theorem own_below {w w' : World} {B e size n : Nat} {v : Value} {xs : List Value} (h : w.ownsRow B e size v n xs) (hb : Below w.heap.size w w') : w'.ownsRow B e size v n xs := by
  refine ⟨h.1, ?_⟩
  rcases h.2 with h0 | ⟨g, cap, cur, hv, hB, hg, rest⟩
  · exact Or.inl h0
  · refine Or.inr ⟨g, cap, cur, hv, hB, ?_, rest⟩
    rw [hb.block g ?_]
    · exact hg
    · rcases Nat.lt_or_ge g w.heap.size with h1 | h1
      · exact h1
      · rw [Array.getElem?_eq_none h1] at hg; cases hg
theorem own_drew {w : World} {B e size n : Nat} {v : Value} {xs : List Value} (h : w.ownsRow B e size v n xs) (k : Nat) : (w.drewN k).ownsRow B e size v n xs := h
theorem conv_at {w : World} {B g cap K : Nat} {l : List UInt8} (hl : l.length = K) (h : w.ownsRow B 5 1 (.slice (some ⟨g, 0, none⟩) K cap) K (v8 l)) :
    (convert 35 9 (.slice (some ⟨g, 0, none⟩) K cap)).run Tryd.prog w = .ok (.string (bs l)) w := by
  subst hl
  exact conv_of h

set_option maxHeartbeats 4000000 in
set_option maxRecDepth 10000 in
theorem namesSigns_walk (nn aa : Nat) (cb : UInt8) (w : World) (hn : nn < 256) (ha : aa < 256) (hg : Glob w) :
    Calls Tryd.prog 7 #[.int .u8 nn, .int .u8 aa, .int .u8 cb.toNat] w fun e w' => e = .returned (.bool true) ∧ Below w.heap.size w w' := by
  have HG := Lib.hid hg
  clear hg
  obtain ⟨K, hK⟩ : ∃ K : Nat, K = nn % 40 := ⟨_, rfl⟩
  have hK40 : K < 40 := by omega
  have eK : ((nn : Nat) : Int).tmod 40 = (K : Int) := by rw [Int.tmod_eq_emod_of_nonneg (by omega)]; omega
  have hc : cb.toNat < 256 := cb.toNat_lt
  obtain ⟨i0, hi, hz0, hz1, hz2⟩ := info_parts info_u8
  clear hK
  go_enter Tryd.func7, Tryd.ntmps7
  go_wp2_with (first
    | (go_at_call 8; refine (awake_any _ HG.out).mono ?_; rintro e w0 ⟨rfl, hb0⟩)
    | (at_make; refine wpList_make_full _ rfl _ _ 35 rfl w.heap.size 5 i0 (.int .u8 0) 1 Tryd.underlying35 hi hz0 hz1 .i64 .i64 _ _ K rfl rfl rfl rfl (by rw [hz2]; omega) (by unfold maxLen; omega) hb0.size ?_; intro w1 hown hgrow))
  have hown0 : w1.ownsRow w.heap.size 5 1 (.slice (some ⟨w0.heap.size, 0, none⟩) K K) K (v8 (D K 0)) := by
    have h := hown
    rw [Nat.mul_one, show (Value.int .u8 0).cells = #[Value.int .u8 0] from rfl, toList_madeCells_one] at h
    rw [D_zero]
    exact h
  have hb1 : Below w.heap.size w w1 := hb0.grown hgrow hb0.size (fun _ h => by cases h)
  have HO := Lib.hid hown0
  clear hown hgrow hown0
  go_loopw [9] (fun i W => ∃ j : Nat, j ≤ K ∧ i = .int .i64 j ∧ Hid (W.ownsRow w.heap.size 5 1 (.slice (some ⟨w0.heap.size, 0, none⟩) K K) K (v8 (D K j))) ∧ Below w.heap.size w W) (fun i _ => K - (intOf i).toNat)
  case atStart => exact ⟨0, Nat.zero_le _, rfl, HO, hb1⟩
  case round =>
    obtain ⟨j, hj, rfl, HR, hb⟩ := hrel
    clear HO hb1
    by_cases hlt : j < K
    · have hcell : wr.cell? ⟨w0.heap.size, j, none⟩ = some ((v8 (D K j))[j]'(by simp [v8, D_len hj]; omega)) := by
        rw [World.ownsRow.cellAt HR.out j (by omega)]
        exact List.getElem?_eq_getElem _
      have hfz := World.ownsRow.frozenAt HR.out j
      have HN : Hid ((wr.setCell ⟨w0.heap.size, j, none⟩ (.int .u8 97)).ownsRow w.heap.size 5 1 (.slice (some ⟨w0.heap.size, 0, none⟩) K K) K (v8 (D K (j + 1)))) := Lib.hid (by
        rw [← D_step hlt]
        exact (World.ownsRow.stored HR.out j (.int .u8 97)).1)
      go_wp2
      go_roundw
      case rel => exact ⟨j + 1, by omega, by go_num, HN, hb.setCell hb0.size _⟩
      case measure => simp [intOf]; omega
    · obtain rfl : j = K := by omega
      by_cases hK0 : j = 0
      · subst hK0
        have hb2 := hb
        have HO2 := HR
        have HL : Hid (([] : List UInt8).length = 0) := Lib.hid rfl
        have HLen : Hid (([] : List UInt8).length ≤ 1000) := Lib.hid (by simp)
        have HP := Lib.hid (show ps [62] = [] by decide)
        have HN := Lib.hid (show ([] : List (List UInt8)).length = 0 from rfl)
        have HE := Lib.hid (show er [62] = 0 by decide)
        have hsz : (bs []).size ≤ maxLen := by decide
        have e1 : may 32 (bs []).data.toList = false := by decide
        have e2 : may 16 (bs []).data.toList = false := by decide
        have e3 : ¬ 9223372036854775807 < 1 + (bs []).size := by decide
        have cv := conv_at HL.out HR.out
        rw [show ((0 : Nat) : Int) = 0 from rfl]
        go_wp2_with (first
          | (go_at_call 9; refine (sp_of [] _ (HG.out.below hb2) HLen.out HP.out HN.out HE.out).mono ?_; rintro e w3 ⟨a, c, rfl, -, hb3⟩; have ho3 := own_below HO2.out hb3; have cv3 := conv_at HL.out ho3; have cv4 := fun n => conv_at HL.out (own_drew ho3 n))
          | (go_at_call 12; refine (may_any _ _ hsz).mono ?_; rintro e w4 ⟨rfl, n4, rfl⟩)
          | (go_at_call 14; refine (user_any _ _ hsz).mono ?_; rintro e w5 ⟨rfl, n5, rfl⟩))
        go_ret
        exact ⟨rfl, belowN (below2 hb2 hb3) _⟩
      · have hK1 : 0 < j := by omega
        obtain ⟨P, hP⟩ : ∃ P : Nat, P = aa % j := ⟨_, rfl⟩
        have hPj : P < j := by rw [hP]; exact Nat.mod_lt _ hK1
        have eP : ((aa : Nat) : Int).tmod (j : Int) = (P : Int) := by rw [Int.tmod_eq_emod_of_nonneg (by omega), hP]; rfl
        obtain ⟨R, hR⟩ : ∃ R, j = P + R + 1 := ⟨j - P - 1, by omega⟩
        have HL : Hid ((LL P R cb).length = j) := Lib.hid (by rw [LL_len, hR])
        have hJ : P + R + 1 ≤ 40 := by omega
        have HO2 : Hid ((wr.setCell ⟨w0.heap.size, P, none⟩ (.int .u8 cb.toNat)).ownsRow w.heap.size 5 1 (.slice (some ⟨w0.heap.size, 0, none⟩) j j) j (v8 (LL P R cb))) := Lib.hid (by
          have h := (World.ownsRow.stored HR.out P (.int .u8 (cb.toNat : Int))).1
          have e : (v8 (D j j)).set P (.int .u8 (cb.toNat : Int)) = v8 (LL P R cb) := by rw [hR]; exact D_end cb
          rw [e] at h
          exact h)
        have hb2 : Below w.heap.size w (wr.setCell ⟨w0.heap.size, P, none⟩ (.int .u8 cb.toNat)) := hb.setCell hb0.size _
        have hcell : wr.cell? ⟨w0.heap.size, P, none⟩ = some ((v8 (D j j))[P]'(by simp [v8, D_len hj]; omega)) := by
          rw [World.ownsRow.cellAt HR.out P (by omega)]
          exact List.getElem?_eq_getElem _
        have hfz := World.ownsRow.frozenAt HR.out P
        have cv := conv_at HL.out HO2.out
        have HLen : Hid ((LL P R cb).length ≤ 1000) := Lib.hid (by rw [LL_len]; omega)
        have hsz : (bs (LL P R cb)).size ≤ maxLen := by rw [bs_size, LL_len]; unfold maxLen; omega
        have e3 : ¬ 9223372036854775807 < 1 + (bs (LL P R cb)).size := by rw [bs_size, LL_len]; omega
        have m32 : may 32 (bs (LL P R cb)).data.toList = (decide (j ≤ 32) && okSign cb) := by rw [bs_data, LL_may, ← hR]
        have m16 : may 16 (bs (LL P R cb)).data.toList = (decide (j ≤ 16) && okSign cb) := by rw [bs_data, LL_may, ← hR]
        have M32 := Lib.hid (show may 32 (LL P R cb) = (decide (j ≤ 32) && okSign cb) by rw [LL_may, ← hR])
        have HJ := Lib.hid hR
        have ep : ((j : Int) == 0) = false := by rw [beq_eq_false_iff_ne]; omega
        clear hP hR hK0 HR
        by_cases g1 : (cb.toNat : Int) < 33
        · have hs := sign_lo g1
          rw [hs, Bool.and_false] at m32 m16
          obtain ⟨hp, he⟩ := LL_not (c := cb) hJ (fun e => by rw [e] at g1; exact absurd g1 (by decide)) (by rw [M32.out, hs, Bool.and_false])
          have HP := Lib.hid hp
          have HE := Lib.hid he
          have HN := Lib.hid (show ([] : List (List UInt8)).length = 0 from rfl)
          clear hp he hs
          go_wp2_with (first
            | (go_at_call 9; refine (sp_of (LL P R cb) _ (HG.out.below hb2) HLen.out HP.out HN.out HE.out).mono ?_; rintro e w3 ⟨a, c, rfl, -, hb3⟩; have ho3 := own_below HO2.out hb3; have cv3 := conv_at HL.out ho3; have cv4 := fun n => conv_at HL.out (own_drew ho3 n))
            | (go_at_call 12; refine (may_any _ _ hsz).mono ?_; rintro e w4 ⟨rfl, n4, rfl⟩)
            | (go_at_call 14; refine (user_any _ _ hsz).mono ?_; rintro e w5 ⟨rfl, n5, rfl⟩))
          go_ret
          exact ⟨rfl, belowN (below2 hb2 hb3) _⟩
        by_cases g2 : (cb.toNat : Int) > 126
        · have hs := sign_hi g2
          rw [hs, Bool.and_false] at m32 m16
          obtain ⟨hp, he⟩ := LL_not (c := cb) hJ (fun e => by rw [e] at g2; exact absurd g2 (by decide)) (by rw [M32.out, hs, Bool.and_false])
          have HP := Lib.hid hp
          have HE := Lib.hid he
          have HN := Lib.hid (show ([] : List (List UInt8)).length = 0 from rfl)
          clear hp he hs
          go_wp2_with (first
            | (go_at_call 9; refine (sp_of (LL P R cb) _ (HG.out.below hb2) HLen.out HP.out HN.out HE.out).mono ?_; rintro e w3 ⟨a, c, rfl, -, hb3⟩; have ho3 := own_below HO2.out hb3; have cv3 := conv_at HL.out ho3; have cv4 := fun n => conv_at HL.out (own_drew ho3 n))
            | (go_at_call 12; refine (may_any _ _ hsz).mono ?_; rintro e w4 ⟨rfl, n4, rfl⟩)
            | (go_at_call 14; refine (user_any _ _ hsz).mono ?_; rintro e w5 ⟨rfl, n5, rfl⟩))
          go_ret
          exact ⟨rfl, belowN (below2 hb2 hb3) _⟩
        by_cases g3 : (cb.toNat : Int) = 62
        · have hs := sign_st g3
          have h62 : cb = 62 := UInt8.toNat_inj.1 (by simpa using Int.ofNat.inj g3)
          rw [hs, Bool.and_false] at m32 m16
          have q3 : ((cb.toNat : Int) == 62) = true := by rw [g3]; rfl
          have q4 : ((cb.toNat : Int) != 62) = false := by rw [g3]; rfl
          have hl := LL_stroke (c := cb) hJ h62
          clear g3 h62
          rcases hl with ⟨X, hp, hn2, he⟩ | ⟨hp, he⟩
          · have HP := Lib.hid hp
            have HE := Lib.hid he
            have HN := Lib.hid hn2
            clear hp he hn2 hs
            go_wp2_with (first
              | (go_at_call 9; refine (sp_of (LL P R cb) _ (HG.out.below hb2) HLen.out HP.out HN.out HE.out).mono ?_; rintro e w3 ⟨a, c, rfl, -, hb3⟩; have ho3 := own_below HO2.out hb3; have cv3 := conv_at HL.out ho3; have cv4 := fun n => conv_at HL.out (own_drew ho3 n))
              | (go_at_call 12; refine (may_any _ _ hsz).mono ?_; rintro e w4 ⟨rfl, n4, rfl⟩)
              | (go_at_call 14; refine (user_any _ _ hsz).mono ?_; rintro e w5 ⟨rfl, n5, rfl⟩))
            go_ret
            exact ⟨rfl, belowN (below2 hb2 hb3) _⟩
          · have HP := Lib.hid hp
            have HE := Lib.hid he
            have HN := Lib.hid (show ([] : List (List UInt8)).length = 0 from rfl)
            clear hp he hs
            go_wp2_with (first
              | (go_at_call 9; refine (sp_of (LL P R cb) _ (HG.out.below hb2) HLen.out HP.out HN.out HE.out).mono ?_; rintro e w3 ⟨a, c, rfl, -, hb3⟩; have ho3 := own_below HO2.out hb3; have cv3 := conv_at HL.out ho3; have cv4 := fun n => conv_at HL.out (own_drew ho3 n))
              | (go_at_call 12; refine (may_any _ _ hsz).mono ?_; rintro e w4 ⟨rfl, n4, rfl⟩)
              | (go_at_call 14; refine (user_any _ _ hsz).mono ?_; rintro e w5 ⟨rfl, n5, rfl⟩))
            go_ret
            exact ⟨rfl, belowN (below2 hb2 hb3) _⟩
        have hs := sign_yes g1 g2 g3
        have hne : ¬ cb = 62 := fun e => g3 (by rw [e]; rfl)
        rw [hs, Bool.and_true] at m32 m16
        have q3 : ((cb.toNat : Int) == 62) = false := by rw [beq_eq_false_iff_ne]; exact g3
        have q4 : ((cb.toNat : Int) != 62) = true := by rw [bne_iff_ne]; exact g3
        by_cases h32 : j ≤ 32
        · obtain ⟨hp, he⟩ := LL_fine (P := P) (R := R) (c := cb) (by have := HJ.out; omega) hs
          have HP := Lib.hid hp
          have HE := Lib.hid he
          have HN := Lib.hid (show [LL P R cb].length = 1 from rfl)
          have d32 : decide (j ≤ 32) = true := decide_eq_true h32
          rw [d32] at m32
          have z32 : decide ((j : Int) ≤ 32) = true := by rw [decide_eq_true_eq]; omega
          clear hp he hs
          by_cases h16 : j ≤ 16
          · have d16 : decide (j ≤ 16) = true := decide_eq_true h16
            rw [d16] at m16
            have z16 : decide ((j : Int) ≤ 16) = true := by simp; omega
            go_wp2_with (first
              | (go_at_call 9; refine (sp_of (LL P R cb) _ (HG.out.below hb2) HLen.out HP.out HN.out HE.out).mono ?_; rintro e w3 ⟨a, c, rfl, -, hb3⟩; have ho3 := own_below HO2.out hb3; have cv3 := conv_at HL.out ho3; have cv4 := fun n => conv_at HL.out (own_drew ho3 n))
              | (go_at_call 12; refine (may_any _ _ hsz).mono ?_; rintro e w4 ⟨rfl, n4, rfl⟩)
              | (go_at_call 14; refine (user_any _ _ hsz).mono ?_; rintro e w5 ⟨rfl, n5, rfl⟩))
            go_ret
            exact ⟨rfl, belowN (below2 hb2 hb3) _⟩
          · have d16 : decide (j ≤ 16) = false := decide_eq_false h16
            rw [d16] at m16
            have z16 : decide ((j : Int) ≤ 16) = false := by simp; omega
            go_wp2_with (first
              | (go_at_call 9; refine (sp_of (LL P R cb) _ (HG.out.below hb2) HLen.out HP.out HN.out HE.out).mono ?_; rintro e w3 ⟨a, c, rfl, -, hb3⟩; have ho3 := own_below HO2.out hb3; have cv3 := conv_at HL.out ho3; have cv4 := fun n => conv_at HL.out (own_drew ho3 n))
              | (go_at_call 12; refine (may_any _ _ hsz).mono ?_; rintro e w4 ⟨rfl, n4, rfl⟩)
              | (go_at_call 14; refine (user_any _ _ hsz).mono ?_; rintro e w5 ⟨rfl, n5, rfl⟩))
            go_ret
            exact ⟨rfl, belowN (below2 hb2 hb3) _⟩
        · have h16 : ¬ j ≤ 16 := by omega
          have d32 : decide (j ≤ 32) = false := decide_eq_false h32
          have d16 : decide (j ≤ 16) = false := decide_eq_false h16
          rw [d32] at m32
          rw [d16] at m16
          have z32 : decide ((j : Int) ≤ 32) = false := by simp; omega
          have z16 : decide ((j : Int) ≤ 16) = false := by simp; omega
          obtain ⟨hp, he⟩ := LL_not (c := cb) hJ hne (by rw [M32.out, d32, Bool.false_and])
          have HP := Lib.hid hp
          have HE := Lib.hid he
          have HN := Lib.hid (show ([] : List (List UInt8)).length = 0 from rfl)
          clear hp he hs
          go_wp2_with (first
            | (go_at_call 9; refine (sp_of (LL P R cb) _ (HG.out.below hb2) HLen.out HP.out HN.out HE.out).mono ?_; rintro e w3 ⟨a, c, rfl, -, hb3⟩; have ho3 := own_below HO2.out hb3; have cv3 := conv_at HL.out ho3; have cv4 := fun n => conv_at HL.out (own_drew ho3 n))
            | (go_at_call 12; refine (may_any _ _ hsz).mono ?_; rintro e w4 ⟨rfl, n4, rfl⟩)
            | (go_at_call 14; refine (user_any _ _ hsz).mono ?_; rintro e w5 ⟨rfl, n5, rfl⟩))
          go_ret
          exact ⟨rfl, belowN (below2 hb2 hb3) _⟩

theorem namesSigns_int (a0 a1 a2 : Int) (w : World) (h0 : (Lit.int .u8 a0).wf = true) (h1 : (Lit.int .u8 a1).wf = true) (h2 : (Lit.int .u8 a2).wf = true) (hg : Glob w) :
    Calls Tryd.prog 7 #[.int .u8 a0, .int .u8 a1, .int .u8 a2] w fun e w' => e = .returned (.bool true) ∧ Below w.heap.size w w' := by
  have b0 := bounds_u8 h0
  have b1 := bounds_u8 h1
  have b2 := bounds_u8 h2
  obtain ⟨n, rfl⟩ : ∃ n : Nat, a0 = n := ⟨a0.toNat, by omega⟩
  obtain ⟨m, rfl⟩ : ∃ n : Nat, a1 = n := ⟨a1.toNat, by omega⟩
  obtain ⟨c, rfl⟩ : ∃ c : UInt8, a2 = (c.toNat : Int) := ⟨UInt8.ofNat a2.toNat, by
    rw [UInt8.toNat_ofNat']
    have : a2.toNat % 2 ^ 8 = a2.toNat := Nat.mod_eq_of_lt (by omega)
    omega⟩
  exact namesSigns_walk n m c w (by omega) (by omega) hg

end Go.Proofs.YtipohdaofnhnpaaDoor.N
