/-
  The law WalkSteps answers true.
-/
import Derived.Test.YtdlgliajfmfngaaDoorWPlays
namespace Go.Proofs.YtdlgliajfmfngaaDoor.T
open Go.ChangeShapes Go.WideShapes Go.ChangeAt Go.RowKit
open Go.Proofs.YtdlgliajfmfngaaDoor.N (bs bs_data bs_size bs_inj bs_of Glob)
open Go.Proofs.YtdlgliajfmfngaaDoor.A (Tm TRow)

set_option maxRecDepth 20000 in
set_option maxHeartbeats 4000000 in
theorem steps_walk {w : World} (hg : Glob w) {a : Option Addr} {c : Nat} {l : List DD} (h : DRow w a c l) (hin : ∀ p ∈ l, DIn w p) (path : Txt) (hp : path.length ≤ maxLen) :
    Calls Tryd.prog 6 #[.slice a l.length c, .string (bs path)] w fun e w' => e = .returned (.bool true) ∧ Below w.heap.size w w' := by
  have HG := Lib.hid hg
  have HR := Lib.hid h
  have HI := Lib.hid hin
  have HP := Lib.hid hp
  clear hg h hin hp
  cases hsm : smallB l with
  | false =>
    have HS := Lib.hid hsm
    clear hsm
    go_enter Tryd.func6, Tryd.ntmps6
    go_wp2_with (first
      | (go_at_call 8; ((refine (awake8_any HG.out).mono ?_); rintro e w1 ⟨rfl, b1⟩; have B1 := Lib.hid b1; clear b1))
      | (go_at_call 9; ((refine (small7_is (HR.out.below B1.out) HS.out).mono ?_); rintro e w2 ⟨rfl, rfl⟩)))
    go_ret
    exact ⟨rfl, B1.out⟩
  | true =>
    have HS := Lib.hid hsm
    obtain ⟨hl121, hsd⟩ := small_yes hsm
    have HD := Lib.hid hsd
    clear hsm hsd
    by_cases hlong : (1000 : Int) < ((bs path).size : Int)
    · have e1 : decide ((1000 : Int) < ((bs path).size : Int)) = true := by simpa using hlong
      go_enter Tryd.func6, Tryd.ntmps6
      go_wp2_with (first
        | (go_at_call 8; ((refine (awake8_any HG.out).mono ?_); rintro e w1 ⟨rfl, b1⟩; have B1 := Lib.hid b1; clear b1))
        | (go_at_call 9; ((refine (small7_is (HR.out.below B1.out) HS.out).mono ?_); rintro e w2 ⟨rfl, rfl⟩)))
      go_ret
      exact ⟨rfl, B1.out⟩
    · have e1 : decide ((1000 : Int) < ((bs path).size : Int)) = false := by simpa using hlong
      clear hlong
      go_enter Tryd.func6, Tryd.ntmps6
      go_wp2_with (first
        | (go_at_call 8; ((refine (awake8_any HG.out).mono ?_); rintro e w1 ⟨rfl, b1⟩; have B1 := Lib.hid b1; clear b1))
        | (go_at_call 9; ((refine (small7_is (HR.out.below B1.out) HS.out).mono ?_); rintro e w2 ⟨rfl, rfl⟩))
        | (go_at_call 10; ((refine (new_at w1).mono ?_); rintro e w2 ⟨rfl, t2, b2, l2⟩; have T2 := Lib.hid t2; have B2 := Lib.hid b2; have L2 := Lib.hid l2; clear t2 b2 l2))
        | (go_at_call 11; ((refine (mnew_at w2).mono ?_); rintro e w3 ⟨bm, Fm, rfl, m3, b3, f3, l3⟩; have PL := Lib.hid (two_new T2.out B2.out L2.out m3 b3 f3); clear m3 b3 f3 l3)))
      have HR1 := Lib.hid (HR.out.below B1.out)
      have HG1 := Lib.hid (HG.out.below B1.out)
      clear HR T2 B2 L2
      have hsz : path.length ≤ maxLen := HP.out
      go_loopw [7] (fun i V => ∃ k : Nat, k ≤ l.length ∧ i = .int .i64 k ∧ Hid (Played w1 w1.heap.size bm k V)) (fun i _ => l.length - (intOf i).toNat)
      case atStart => exact ⟨0, Nat.zero_le _, rfl, PL⟩
      case round =>
        clear PL
        obtain ⟨k, hk, rfl, hP⟩ := hrel
        by_cases hlt : k < l.length
        · have hmem := List.getElem_mem hlt
          have OK := Lib.hid (ok_of (HI.out _ hmem) (HD.out _ hmem))
          have TR := Lib.hid ((HI.out _ hmem).1.below B1.out)
          obtain ⟨bk, o, rfl, hbk, hlc, c0, c1, c2, c3, c4, c5, c6, c7, c8, c9, c10, c11, c12, c13⟩ := (HR1.out.below hP.out.bel).at_ hlt
          go_wp2_with (go_at_call 12; ((refine (hP.out.do_ (by omega) HG1.out OK.out TR.out).mono ?_); rintro e w4 ⟨rfl, p4⟩; have P4 := Lib.hid p4; clear p4))
          go_roundw
          case rel => exact ⟨k + 1, by omega, by go_num, P4⟩
          case measure => simp [intOf]; omega
        · obtain rfl : k = l.length := by omega
          obtain ⟨c', st, m, t, I⟩ := hP.out
          have T := Lib.hid t
          have LK := Lib.hid I.lt
          have BW := Lib.hid (bel2 B1.out (t.bel))
          have hrn := two_rng t
          clear t hP I
          obtain ⟨D, z, E, hTo⟩ : ∃ D z E, wTo (lk st) path = (D, z, E) := ⟨_, _, _, rfl⟩
          obtain ⟨hD, hz⟩ := to_facts hrn hTo
          have hz : z.length ≤ maxLen := by unfold maxLen; omega
          clear hrn
          by_cases hE : E = 0
          · subst hE
            obtain ⟨f, x, hFi⟩ : ∃ f x, wFind (lk st) path = (f, x) := ⟨_, _, rfl⟩
            obtain ⟨g, y, hIn⟩ : ∃ g y, wIn (lk st) D z = (g, y) := ⟨_, _, rfl⟩
            have hmath := steps_math hTo
            rw [hFi, hIn] at hmath
            have HT := Lib.hid hTo
            have HF := Lib.hid hFi
            have HN := Lib.hid hIn
            clear hTo hFi hIn
            rcases hmath with h14 | heq
            · have e14 : (f == 14) = true := by simpa using h14
              clear h14
              go_wp2_with (first
                | (go_at_call 15; ((refine (two_to T.out LK.out HG1.out hsz HT.out).mono ?_); rintro e w5 ⟨rfl, b5⟩; have T5 := Lib.hid (T.out.below b5); have BW5 := Lib.hid (bel2 BW.out b5); clear b5))
                | (go_at_call 17; ((refine (two_find T5.out LK.out HG1.out hsz HF.out).mono ?_); rintro e w6 ⟨a6, c6', rfl, r6, b6⟩; have T6 := Lib.hid ((T5.out.below b6).below (one_new _ (BrO x (.slice a6 x.acl.length c6')))); have BW6 := Lib.hid (bel2 (bel2 BW5.out b6) (one_new _ (BrO x (.slice a6 x.acl.length c6')))); clear r6 b6))
                | (go_at_call 21; ((refine (two_in T6.out LK.out HG1.out hD hz HN.out).mono ?_); rintro e w7 ⟨a7, c7', rfl, r7, b7⟩; have BW7 := Lib.hid (bel2 (bel2 BW6.out b7) (one_new _ (BrO y (.slice a7 y.acl.length c7')))); clear r7 b7)))
              go_ret
              exact ⟨rfl, BW7.out⟩
            · simp only [Prod.mk.injEq] at heq
              obtain ⟨rfl, rfl⟩ := heq
              by_cases h14 : f = 14
              · have e14 : (f == 14) = true := by simpa using h14
                clear h14
                go_wp2_with (first
                  | (go_at_call 15; ((refine (two_to T.out LK.out HG1.out hsz HT.out).mono ?_); rintro e w5 ⟨rfl, b5⟩; have T5 := Lib.hid (T.out.below b5); have BW5 := Lib.hid (bel2 BW.out b5); clear b5))
                  | (go_at_call 17; ((refine (two_find T5.out LK.out HG1.out hsz HF.out).mono ?_); rintro e w6 ⟨a6, c6', rfl, r6, b6⟩; have T6 := Lib.hid ((T5.out.below b6).below (one_new _ (BrO x (.slice a6 x.acl.length c6')))); have BW6 := Lib.hid (bel2 (bel2 BW5.out b6) (one_new _ (BrO x (.slice a6 x.acl.length c6')))); clear r6 b6))
                  | (go_at_call 21; ((refine (two_in T6.out LK.out HG1.out hD hz HN.out).mono ?_); rintro e w7 ⟨a7, c7', rfl, r7, b7⟩; have BW7 := Lib.hid (bel2 (bel2 BW6.out b7) (one_new _ (BrO x (.slice a7 x.acl.length c7')))); clear r7 b7)))
                go_ret
                exact ⟨rfl, BW7.out⟩
              · have e14 : (f == 14) = false := by simpa using h14
                have eff : (f == f) = true := beq_self_eq_true _
                clear h14
                have hacl := two_acl T.out HF.out
                go_wp2_with (first
                  | (go_at_call 15; ((refine (two_to T.out LK.out HG1.out hsz HT.out).mono ?_); rintro e w5 ⟨rfl, b5⟩; have T5 := Lib.hid (T.out.below b5); have BW5 := Lib.hid (bel2 BW.out b5); clear b5))
                  | (go_at_call 17; ((refine (two_find T5.out LK.out HG1.out hsz HF.out).mono ?_); rintro e w6 ⟨a6, c6', rfl, r6, b6⟩; have R6 := Lib.hid r6; have T6 := Lib.hid ((T5.out.below b6).below (one_new _ (BrO x (.slice a6 x.acl.length c6')))); have BW6 := Lib.hid (bel2 (bel2 BW5.out b6) (one_new _ (BrO x (.slice a6 x.acl.length c6')))); clear r6 b6))
                  | (go_at_call 21; ((refine (two_in T6.out LK.out HG1.out hD hz HN.out).mono ?_); rintro e w7 ⟨a7, c7', rfl, r7, b7⟩; have BS := Lib.hid (brs_of R6.out (by simpa using b7) r7); have BW7 := Lib.hid (bel2 (bel2 BW6.out b7) (one_new _ (BrO x (.slice a7 x.acl.length c7')))); clear r7 b7)))
                have BS := Lib.hid (BS.out.below (Below.refl _ _).drew)
                have BW7 := Lib.hid BW7.out.drew
                clear T T5 T6 BW5 BW6 R6 HN HF HT
                go_region_held3 (fun W => (W.cell? ⟨w6.heap.size, 0, none⟩ = some (.int .i64 x.kind) ∧ W.cell? ⟨w6.heap.size, 1, none⟩ = some (.int .i64 x.uid) ∧ W.cell? ⟨w6.heap.size, 2, none⟩ = some (.int .i64 x.dir) ∧ W.cell? ⟨w6.heap.size, 3, none⟩ = some (.string (bs x.link)) ∧ W.cell? ⟨w6.heap.size, 4, none⟩ = some (.bool x.obj) ∧ W.cell? ⟨w6.heap.size, 5, none⟩ = some (.slice a6 x.acl.length c6') ∧ W.cell? ⟨w6.heap.size, 6, none⟩ = some (.int .i64 x.r1) ∧ W.cell? ⟨w6.heap.size, 7, none⟩ = some (.int .i64 x.r2) ∧ W.cell? ⟨w6.heap.size, 8, none⟩ = some (.int .i64 x.r3) ∧ W.cell? ⟨w6.heap.size, 9, none⟩ = some (.int .i64 x.gt)) ∧ (W.cell? ⟨w7.heap.size, 0, none⟩ = some (.int .i64 x.kind) ∧ W.cell? ⟨w7.heap.size, 1, none⟩ = some (.int .i64 x.uid) ∧ W.cell? ⟨w7.heap.size, 2, none⟩ = some (.int .i64 x.dir) ∧ W.cell? ⟨w7.heap.size, 3, none⟩ = some (.string (bs x.link)) ∧ W.cell? ⟨w7.heap.size, 4, none⟩ = some (.bool x.obj) ∧ W.cell? ⟨w7.heap.size, 5, none⟩ = some (.slice a7 x.acl.length c7') ∧ W.cell? ⟨w7.heap.size, 6, none⟩ = some (.int .i64 x.r1) ∧ W.cell? ⟨w7.heap.size, 7, none⟩ = some (.int .i64 x.r2) ∧ W.cell? ⟨w7.heap.size, 8, none⟩ = some (.int .i64 x.r3) ∧ W.cell? ⟨w7.heap.size, 9, none⟩ = some (.int .i64 x.gt)))
                  (exact BS.out.cells)
                  (first
                    | (go_at_call 20; ((refine (model_any x _ _ _).mono ?_); rintro e w8 ⟨rfl, b8⟩; have BS := Lib.hid (BS.out.below b8); have BW7 := Lib.hid (bel2 BW7.out b8); clear b8))
                    | (go_at_call 19; ((refine (sameBr_yes x BS.out.q1 BS.out.q2 hacl).mono ?_); rintro e w9 ⟨rfl, b9⟩; have BS := Lib.hid (BS.out.below b9); have BW7 := Lib.hid (bel2 BW7.out b9); clear b9)))
                all_goals
                  go_wp2
                  go_ret
                  exact ⟨rfl, BW7.out⟩
          · have eE : (E != 0) = true := by simpa using hE
            have HT := Lib.hid hTo
            clear hTo hE
            go_wp2_with (go_at_call 15; ((refine (two_to T.out LK.out HG1.out hsz HT.out).mono ?_); rintro e w5 ⟨rfl, b5⟩; have BW5 := Lib.hid (bel2 BW.out b5); clear b5))
            go_ret
            exact ⟨rfl, BW5.out⟩

theorem walkSteps_walk {w : World} (hg : Glob w) {a : Option Addr} {c : Nat} {l : List DD} (h : DRow w a c l) (hin : ∀ p ∈ l, DIn w p) (p : ByteArray) (hp : p.size ≤ maxLen) :
    Calls Tryd.prog 6 #[.slice a l.length c, .string p] w fun e w' => e = .returned (.bool true) ∧ Below w.heap.size w w' := by
  have := steps_walk hg h hin p.data.toList (by rw [← bs_size, bs_of]; exact hp)
  rwa [bs_of] at this

end Go.Proofs.YtdlgliajfmfngaaDoor.T
