/-
  The law WalkWalks answers true.
-/
import Derived.Test.YtdlgliajfmfngaaDoorWPlays
import Derived.SliceStrings
namespace Go.Proofs.YtdlgliajfmfngaaDoor.T
open Go.ChangeShapes Go.WideShapes Go.ChangeAt Go.RowKit
open Go.Proofs.YtdlgliajfmfngaaDoor.N (bs bs_data bs_size bs_inj bs_of Glob Row)
open Go.Proofs.YtdlgliajfmfngaaDoor.A (Tm TRow)

/-- a slice of texts that came in -/
theorem texts_in {H : Type} {X : World} {s : Option Addr} {n c : Nat} {d : DataW H} {p : List MemPlace} {spare : Nat → Bool}
    (ho : (Value.cells (.slice s n c)).toList = [.slice none 0 0] ∧ (d, p) = (.nil, []) ∨
      ∃ (a : Addr) (len cap : Nat) (ss : List ByteArray), (Value.cells (.slice s n c)).toList = [.slice (some a) len cap] ∧ 0 ≤ a.block ∧ len ≤ cap ∧ cap ≤ maxLen ∧ ss.length = (if spare a.block then cap else len) ∧
        (d, p) = (.slice (strs (ss.take len)) (strs (ss.drop len)), MemPlace.row a ss.length) ∧
        (∀ i, i < ss.length → X.cell? (a.add i) = some (.string (ss.getD i ByteArray.empty))) ∧ (∀ s ∈ ss, s.size ≤ maxLen)) : ∃ qs, n = List.length qs ∧ Row X s c qs ∧ ∀ q ∈ qs, q.length ≤ maxLen := by
  rcases ho with ⟨h1, h2⟩ | ⟨a, len, cap, ss, h1, _, hlc, _, hss, _, hcell, hmx⟩
  · simp [Value.cells] at h1
    obtain ⟨rfl, rfl, rfl⟩ := h1
    exact ⟨[], rfl, Row.nil _ _ _, by simp⟩
  · simp [Value.cells] at h1
    obtain ⟨rfl, rfl, rfl⟩ := h1
    have hlen : n ≤ ss.length := by rw [hss]; split <;> omega
    refine ⟨(ss.take n).map (·.data.toList), by simp; omega, ⟨by simp; omega, fun h0 => ?_⟩, fun q hq => ?_⟩
    · have hn : 0 < n := by simp at h0; omega
      have h00 := hcell 0 (by omega)
      have hadd0 : a.add 0 = a := by simp [Addr.add]
      rw [hadd0] at h00
      have hs := World.cell?_spot h00
      have hblk := World.block_lt_of_cell? X _ h00
      obtain ⟨bk, o, sp⟩ := a
      simp only at hs
      subst hs
      refine ⟨bk, o, rfl, hblk, fun j q hq => ?_⟩
      rw [List.getElem?_map] at hq
      cases hj : (ss.take n)[j]? with
      | none => rw [hj] at hq; cases hq
      | some y =>
        rw [hj] at hq
        cases hq
        have hjl := (List.getElem?_eq_some_iff.1 hj).1
        rw [List.length_take] at hjl
        have hjs : j < ss.length := by omega
        have e := hcell j hjs
        have hadd : (⟨bk, o, none⟩ : Addr).add j = ⟨bk, o + j, none⟩ := by unfold Addr.add; split <;> simp_all
        rw [hadd] at e
        rw [e]
        have hy : ss[j]? = some y := by
          rw [List.getElem?_take] at hj
          rw [if_pos (by omega)] at hj
          exact hj
        rw [List.getD, hy, bs_of]
        rfl
    · obtain ⟨s, hs, rfl⟩ := List.mem_map.1 hq
      rw [N.size_len]
      exact hmx s (List.mem_of_mem_take hs)

theorem path_keep {V V' : World} {bk o : Nat} {v : Value} (h : V.cell? ⟨bk, o, none⟩ = some v) (hl : bk < V.heap.size) (hb : Below V.heap.size V V') : V'.cell? ⟨bk, o, none⟩ = some v ∧ bk < V'.heap.size :=
  ⟨(hb.cell (p := ⟨bk, o, none⟩) hl).trans h, Nat.lt_of_lt_of_le hl hb.size⟩
/-- found by the program, boxed; found by the document, boxed -/
theorem dels_of {w1 w2 : World} {y : Br} {a1 a2 : Option Addr} {c1 c2 : Nat} (o1 : TRow w1 a1 c1 y.acl) (b2 : Below (w1.heap.size + 1) (w1.alloc (BrO y (.slice a1 y.acl.length c1))) w2) (o2 : TRow w2 a2 c2 y.acl) : DelS (w2.alloc (BmO y (.slice a2 y.acl.length c2))) w1.heap.size w2.heap.size y a1 a2 c1 c2 := by
  have b2' : Below (w1.alloc (BrO y (.slice a1 y.acl.length c1))).heap.size (w1.alloc (BrO y (.slice a1 y.acl.length c1))) w2 := by simpa using b2
  exact ⟨((BrAt.new w1 _ _).below b2').below (one_new _ _), heap_alloc_new _ _, ((o1.below (one_new _ _)).below b2').below (one_new _ _), o2.below (one_new _ _)⟩

section
variable {w0 V : World} {b bm : Nat} {K : List (Nat × Obj)} {c : Nat} {st : St} {m : Ms} {l : Txt}

theorem two_mdir (h : Two w0 V b bm K c st m) (hL : LinksM m) (hl : l.length ≤ maxLen) {D E : Int} (hR : wDir (lkM m) l = (D, E)) :
    Calls Tryd.prog 14 #[TP bm, .string (bs l)] V fun e w' => e = .returned (.tuple #[.int .i64 D, .int .i64 E]) ∧ Below V.heap.size V w' := by
  obtain ⟨F, Fm, h⟩ := h
  have := rDir_any h.r hL hl
  rw [hR] at this
  exact this
theorem two_mto (h : Two w0 V b bm K c st m) (hL : LinksM m) (hl : l.length ≤ maxLen) {D : Int} {z : Txt} {E : Int} (hR : wTo (lkM m) l = (D, z, E)) :
    Calls Tryd.prog 16 #[TP bm, .string (bs l)] V fun e w' => e = .returned (.tuple #[.int .i64 D, .string (bs z), .int .i64 E]) ∧ Below V.heap.size V w' := by
  obtain ⟨F, Fm, h⟩ := h
  have := rTo_any h.r hL hl
  rw [hR] at this
  exact this
theorem two_mfind (h : Two w0 V b bm K c st m) (hL : LinksM m) (hl : l.length ≤ maxLen) {E : Int} {y : Br} (hR : wFind (lkM m) l = (E, y)) :
    Calls Tryd.prog 18 #[TP bm, .string (bs l)] V fun e w' => ∃ a' c', e = .returned (.tuple #[BrV y (.slice a' y.acl.length c'), .int .i64 E]) ∧ TRow w' a' c' y.acl ∧ Below V.heap.size V w' := by
  obtain ⟨F, Fm, h⟩ := h
  have := rFind_any h.r hL hl
  rw [hR] at this
  exact this
theorem two_min (h : Two w0 V b bm K c st m) (hL : LinksM m) {d : Int} {E : Int} {y : Br} (hR : wIn (lkM m) d l = (E, y)) :
    Calls Tryd.prog 22 #[TP bm, .int .i64 d, .string (bs l)] V fun e w' => ∃ a' c', e = .returned (.tuple #[BrV y (.slice a' y.acl.length c'), .int .i64 E]) ∧ TRow w' a' c' y.acl ∧ Below V.heap.size V w' := by
  obtain ⟨F, Fm, h⟩ := h
  have := rIn_any h.r hL d l
  rw [hR] at this
  exact this

end

set_option maxRecDepth 20000 in
set_option maxHeartbeats 4000000 in
theorem walks_walk {w : World} (hg : Glob w) {a : Option Addr} {c : Nat} {l : List DD} (h : DRow w a c l) (hin : ∀ p ∈ l, DIn w p) {a' : Option Addr} {c' : Nat} {qs : List Txt} (hr : Row w a' c' qs) (hq : ∀ q ∈ qs, q.length ≤ maxLen) {dir : Int} (hdir : rng dir) :
    Calls Tryd.prog 3 #[.slice a l.length c, .slice a' qs.length c', .int .i64 dir] w fun e w' => e = .returned (.bool true) ∧ Below w.heap.size w w' := by
  have HG := Lib.hid hg
  have HR := Lib.hid h
  have HI := Lib.hid hin
  have HQ := Lib.hid hq
  have HRq := Lib.hid hr
  clear hg h hin hq hr
  cases hsm : smallB l with
  | false =>
    have HS := Lib.hid hsm
    clear hsm
    go_enter Tryd.func3, Tryd.ntmps3
    go_wp2_with (first
      | (go_at_call 8; ((refine (awake8_any HG.out).mono ?_); rintro e w1 ⟨rfl, b1⟩; have B1 := Lib.hid b1; clear b1))
      | (go_at_call 9; ((refine (small7_is (HR.out.below B1.out) HS.out).mono ?_); rintro e w2 ⟨rfl, rfl⟩)))
    go_ret
    exact ⟨rfl, B1.out⟩
  | true =>
    have HS := Lib.hid hsm
    obtain ⟨hl121, hsd⟩ := small_yes hsm
    have HD := Lib.hid hsd
    clear hsm hsd
    by_cases hlong : (60 : Int) < (qs.length : Int)
    · have e1 : decide ((60 : Int) < (qs.length : Int)) = true := by simpa using hlong
      go_enter Tryd.func3, Tryd.ntmps3
      go_wp2_with (first
        | (go_at_call 8; ((refine (awake8_any HG.out).mono ?_); rintro e w1 ⟨rfl, b1⟩; have B1 := Lib.hid b1; clear b1))
        | (go_at_call 9; ((refine (small7_is (HR.out.below B1.out) HS.out).mono ?_); rintro e w2 ⟨rfl, rfl⟩)))
      go_ret
      exact ⟨rfl, B1.out⟩
    · have e1 : decide ((60 : Int) < (qs.length : Int)) = false := by simpa using hlong
      have h60 : qs.length ≤ 60 := by omega
      clear hlong
      go_enter Tryd.func3, Tryd.ntmps3
      go_wp2_with (first
        | (go_at_call 8; ((refine (awake8_any HG.out).mono ?_); rintro e w1 ⟨rfl, b1⟩; have B1 := Lib.hid b1; clear b1))
        | (go_at_call 9; ((refine (small7_is (HR.out.below B1.out) HS.out).mono ?_); rintro e w2 ⟨rfl, rfl⟩))
        | (go_at_call 10; ((refine (new_at w1).mono ?_); rintro e w2 ⟨rfl, t2, b2, l2⟩; have T2 := Lib.hid t2; have B2 := Lib.hid b2; have L2 := Lib.hid l2; clear t2 b2 l2))
        | (go_at_call 11; ((refine (mnew_at w2).mono ?_); rintro e w3 ⟨bm, Fm, rfl, m3, b3, f3, l3⟩; have PL := Lib.hid (two_new T2.out B2.out L2.out m3 b3 f3); clear m3 b3 f3 l3)))
      have HR1 := Lib.hid (HR.out.below B1.out)
      have HG1 := Lib.hid (HG.out.below B1.out)
      clear HR T2 B2 L2
      have HRq1 := Lib.hid (HRq.out.below B1.out)
      clear HRq
      go_loopw [9] (fun i V => ∃ k : Nat, k ≤ l.length ∧ i = .int .i64 k ∧ Hid (Played w1 w1.heap.size bm k V)) (fun i _ => l.length - (intOf i).toNat)
      case atStart => exact ⟨0, Nat.zero_le _, rfl, PL⟩
      case round =>
        clear PL
        obtain ⟨k, hk, rfl, hP⟩ := hrel
        by_cases hlt : k < l.length
        · have hmem := List.getElem_mem hlt
          have OK := Lib.hid (ok_of (HI.out _ hmem) (HD.out _ hmem))
          have TR := Lib.hid ((HI.out _ hmem).1.below B1.out)
          obtain ⟨bk, o, rfl, hbk, hlc, c0, c1, c2, c3, c4, c5, c6, c7, c8, c9, c10, c11, c12, c13⟩ := (HR1.out.below hP.out.bel).at_ hlt
          go_wp2_with (go_at_call 12; ((refine (hP.out.do_ (by omega) HG1.out OK.out TR.out).mono ?_); rintro e w4 ⟨rfl, p4⟩; have P4 := Lib.hid p4; clear p4))
          go_roundw
          case rel => exact ⟨k + 1, by omega, by go_num, P4⟩
          case measure => simp [intOf]; omega
        · obtain rfl : k = l.length := by omega
          obtain ⟨c'', st, m, t, I⟩ := hP.out
          have T := Lib.hid t
          have LK := Lib.hid I.lt
          have LM := Lib.hid I.lm
          have BW := Lib.hid (bel2 B1.out t.bel)
          have LL : Hid (lk st = lkM m) := Lib.hid (by obtain ⟨f, R⟩ := I.rel; funext d s; exact R.looks d s)
          clear t hP I
          go_wp2
          go_loopw [10] (fun i V => ∃ k : Nat, k ≤ qs.length ∧ i = .int .i64 k ∧ Hid (Two w1 V w1.heap.size bm [] c'' st m)) (fun i _ => qs.length - (intOf i).toNat)
          case atStart => exact ⟨0, Nat.zero_le _, rfl, T⟩
          case round =>
            clear T BW
            obtain ⟨k, hk, rfl, T⟩ := hrel
            by_cases hlt : k < qs.length
            · obtain ⟨bk, o, rfl, hbk, hc⟩ := (HRq1.out.below T.out.bel).at_ hlt
              have hsz : qs[k].length ≤ maxLen := HQ.out _ (List.getElem_mem hlt)
              generalize qs[k] = path at hc hsz
              by_cases hlong : (1000 : Int) < ((bs path).size : Int)
              · have e2 : decide ((1000 : Int) < ((bs path).size : Int)) = true := by simpa using hlong
                clear hlong
                go_wp2
                go_ret
                exact ⟨rfl, bel2 B1.out T.out.bel⟩
              · have e2 : decide ((1000 : Int) < ((bs path).size : Int)) = false := by simpa using hlong
                clear hlong
                obtain ⟨D, E, hDi⟩ : ∃ D E, wDir (lk st) path = (D, E) := ⟨_, _, rfl⟩
                obtain ⟨D2, z, E2, hTo⟩ : ∃ D z E, wTo (lk st) path = (D, z, E) := ⟨_, _, _, rfl⟩
                obtain ⟨f, x, hFi⟩ : ∃ f x, wFind (lk st) path = (f, x) := ⟨_, _, rfl⟩
                obtain ⟨g, y, hIn⟩ : ∃ g y, wIn (lk st) dir z = (g, y) := ⟨_, _, rfl⟩
                obtain ⟨_, hz⟩ := to_facts (two_rng T.out) hTo
                have hz : z.length ≤ maxLen := by unfold maxLen; omega
                have hacl := two_acl T.out hFi
                have hacl2 := two_acl_in T.out hIn
                have HDi := Lib.hid hDi
                have HTo := Lib.hid hTo
                have HFi := Lib.hid hFi
                have HIn := Lib.hid hIn
                have MDi := Lib.hid (LL.out ▸ hDi)
                have MTo := Lib.hid (LL.out ▸ hTo)
                have MFi := Lib.hid (LL.out ▸ hFi)
                have MIn := Lib.hid (LL.out ▸ hIn)
                clear hDi hTo hFi hIn
                go_wp2_with (first
                  | (go_at_call 13; ((refine (two_dir T.out LK.out HG1.out hsz HDi.out).mono ?_); rintro e w5 ⟨rfl, b5⟩; have T5 := Lib.hid (T.out.below b5); obtain ⟨p5, l5⟩ := path_keep hc hbk b5; clear b5))
                  | (go_at_call 14; ((refine (two_mdir T5.out LM.out hsz MDi.out).mono ?_); rintro e w6 ⟨rfl, b6⟩; have T6 := Lib.hid (T5.out.below b6); obtain ⟨p6, l6⟩ := path_keep p5 l5 b6; clear b6))
                  | (go_at_call 15; ((refine (two_to T6.out LK.out HG1.out hsz HTo.out).mono ?_); rintro e w7 ⟨rfl, b7⟩; have T7 := Lib.hid (T6.out.below b7); obtain ⟨p7, l7⟩ := path_keep p6 l6 b7; clear b7))
                  | (go_at_call 16; ((refine (two_mto T7.out LM.out hsz MTo.out).mono ?_); rintro e w8 ⟨rfl, b8⟩; have T8 := Lib.hid (T7.out.below b8); obtain ⟨p8, l8⟩ := path_keep p7 l7 b8; clear b8))
                  | (go_at_call 17; ((refine (two_find T8.out LK.out HG1.out hsz HFi.out).mono ?_); rintro e w9 ⟨a9, c9', rfl, r9, b9⟩; have R9 := Lib.hid r9; have T9 := Lib.hid ((T8.out.below b9).below (one_new _ (BrO x (.slice a9 x.acl.length c9')))); obtain ⟨p9, l9⟩ := path_keep p8 l8 b9; clear r9 b9))
                  | (go_at_call 18; ((refine (two_mfind T9.out LM.out hsz MFi.out).mono ?_); rintro e w10 ⟨a10, c10', rfl, r10, b10⟩; have BS := Lib.hid (dels_of R9.out (by simpa using b10) r10); have T10 := Lib.hid ((T9.out.below b10).below (one_new _ (BmO x (.slice a10 x.acl.length c10')))); clear r10 b10)))
                clear p5 p6 p7 p8 p9 l5 l6 l7 l8 l9 T5 T6 T7 T8 T9 R9
                have BS := Lib.hid (BS.out.below (Below.refl _ _).drew)
                have TT := Lib.hid T10.out.drew
                clear T10
                go_region_held3 (fun W => (W.cell? ⟨w9.heap.size, 0, none⟩ = some (.int .i64 x.kind) ∧ W.cell? ⟨w9.heap.size, 1, none⟩ = some (.int .i64 x.uid) ∧ W.cell? ⟨w9.heap.size, 2, none⟩ = some (.int .i64 x.dir) ∧ W.cell? ⟨w9.heap.size, 3, none⟩ = some (.string (bs x.link)) ∧ W.cell? ⟨w9.heap.size, 4, none⟩ = some (.bool x.obj) ∧ W.cell? ⟨w9.heap.size, 5, none⟩ = some (.slice a9 x.acl.length c9') ∧ W.cell? ⟨w9.heap.size, 6, none⟩ = some (.int .i64 x.r1) ∧ W.cell? ⟨w9.heap.size, 7, none⟩ = some (.int .i64 x.r2) ∧ W.cell? ⟨w9.heap.size, 8, none⟩ = some (.int .i64 x.r3) ∧ W.cell? ⟨w9.heap.size, 9, none⟩ = some (.int .i64 x.gt)) ∧ (W.cell? ⟨w10.heap.size, 0, none⟩ = some (.int .i64 x.kind) ∧ W.cell? ⟨w10.heap.size, 1, none⟩ = some (.int .i64 x.uid) ∧ W.cell? ⟨w10.heap.size, 2, none⟩ = some (.int .i64 x.dir) ∧ W.cell? ⟨w10.heap.size, 3, none⟩ = some (.string (bs x.link)) ∧ W.cell? ⟨w10.heap.size, 4, none⟩ = some (.bool x.obj) ∧ W.cell? ⟨w10.heap.size, 5, none⟩ = some (.slice a10 x.acl.length c10') ∧ W.cell? ⟨w10.heap.size, 6, none⟩ = some (.int .i64 x.r1) ∧ W.cell? ⟨w10.heap.size, 7, none⟩ = some (.int .i64 x.r2) ∧ W.cell? ⟨w10.heap.size, 8, none⟩ = some (.int .i64 x.r3) ∧ W.cell? ⟨w10.heap.size, 9, none⟩ = some (.int .i64 x.gt)))
                  (exact BS.out.cells)
                  (first
                    | (go_at_call 20; ((refine (model_any x _ _ _).mono ?_); rintro e w11 ⟨rfl, b11⟩; have BS := Lib.hid (BS.out.below b11); have TT := Lib.hid (TT.out.below b11); clear b11))
                    | (go_at_call 19; ((refine (sameBr_yes x BS.out.q1 BS.out.q2 hacl).mono ?_); rintro e w12 ⟨rfl, b12⟩; have BS := Lib.hid (BS.out.below b12); have TT := Lib.hid (TT.out.below b12); clear b12)))
                clear BS
                go_wp2_with (first
                  | (go_at_call 21; ((refine (two_in TT.out LK.out HG1.out hdir hz HIn.out).mono ?_); rintro e w13 ⟨a13, c13', rfl, r13, b13⟩; have R13 := Lib.hid r13; have T13 := Lib.hid ((TT.out.below b13).below (one_new _ (BrO y (.slice a13 y.acl.length c13')))); clear r13 b13))
                  | (go_at_call 22; ((refine (two_min T13.out LM.out MIn.out).mono ?_); rintro e w14 ⟨a14, c14', rfl, r14, b14⟩; have BS := Lib.hid (dels_of R13.out (by simpa using b14) r14); have T14 := Lib.hid ((T13.out.below b14).below (one_new _ (BmO y (.slice a14 y.acl.length c14')))); clear r14 b14)))
                have BS := Lib.hid (BS.out.below (Below.refl _ _).drew)
                have TT := Lib.hid T14.out.drew
                clear T13 T14 R13
                go_region_held3 (fun W => (W.cell? ⟨w13.heap.size, 0, none⟩ = some (.int .i64 y.kind) ∧ W.cell? ⟨w13.heap.size, 1, none⟩ = some (.int .i64 y.uid) ∧ W.cell? ⟨w13.heap.size, 2, none⟩ = some (.int .i64 y.dir) ∧ W.cell? ⟨w13.heap.size, 3, none⟩ = some (.string (bs y.link)) ∧ W.cell? ⟨w13.heap.size, 4, none⟩ = some (.bool y.obj) ∧ W.cell? ⟨w13.heap.size, 5, none⟩ = some (.slice a13 y.acl.length c13') ∧ W.cell? ⟨w13.heap.size, 6, none⟩ = some (.int .i64 y.r1) ∧ W.cell? ⟨w13.heap.size, 7, none⟩ = some (.int .i64 y.r2) ∧ W.cell? ⟨w13.heap.size, 8, none⟩ = some (.int .i64 y.r3) ∧ W.cell? ⟨w13.heap.size, 9, none⟩ = some (.int .i64 y.gt)) ∧ (W.cell? ⟨w14.heap.size, 0, none⟩ = some (.int .i64 y.kind) ∧ W.cell? ⟨w14.heap.size, 1, none⟩ = some (.int .i64 y.uid) ∧ W.cell? ⟨w14.heap.size, 2, none⟩ = some (.int .i64 y.dir) ∧ W.cell? ⟨w14.heap.size, 3, none⟩ = some (.string (bs y.link)) ∧ W.cell? ⟨w14.heap.size, 4, none⟩ = some (.bool y.obj) ∧ W.cell? ⟨w14.heap.size, 5, none⟩ = some (.slice a14 y.acl.length c14') ∧ W.cell? ⟨w14.heap.size, 6, none⟩ = some (.int .i64 y.r1) ∧ W.cell? ⟨w14.heap.size, 7, none⟩ = some (.int .i64 y.r2) ∧ W.cell? ⟨w14.heap.size, 8, none⟩ = some (.int .i64 y.r3) ∧ W.cell? ⟨w14.heap.size, 9, none⟩ = some (.int .i64 y.gt)))
                  (exact BS.out.cells)
                  (first
                    | (go_at_call 20; ((refine (model_any y _ _ _).mono ?_); rintro e w15 ⟨rfl, b15⟩; have BS := Lib.hid (BS.out.below b15); have TT := Lib.hid (TT.out.below b15); clear b15))
                    | (go_at_call 19; ((refine (sameBr_yes y BS.out.q1 BS.out.q2 hacl2).mono ?_); rintro e w16 ⟨rfl, b16⟩; have BS := Lib.hid (BS.out.below b16); have TT := Lib.hid (TT.out.below b16); clear b16)))
                go_wp2
                go_roundw
                case rel => exact ⟨k + 1, by omega, by go_num, TT⟩
                case measure => simp [intOf]; omega
            · obtain rfl : k = qs.length := by omega
              go_wp2
              go_ret
              exact ⟨rfl, bel2 B1.out T.out.bel⟩

end Go.Proofs.YtdlgliajfmfngaaDoor.T
