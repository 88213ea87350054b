/-
  The law StoreApart answers true: what is written in one segment changes no word of another, and no other word of it.
-/
import Derived.Test.YtaffbjopckajnaaSSteps
import Derived.Test.YtaffbjopckajnaaQArr
import Derived.Deep.DeepCutAuto
import Derived.Deep.QuietTactic
import Derived.BigQuiet
import Derived.StillTailTactics
namespace Go.Proofs.Ytaffbjopckajnaa.W
open Go.ChangeShapes Go.WideShapes Go.ChangeAt Go.RowKit

/-- the law's own memory: a store of N segments of eight words, and a table of three rows of eight beside it -/
structure ApL (w0 : World) (b mb : Nat) (W : World) (N : Int) (T : Int → List Int) (F : Nat → Prop) (S : Int → Option (List Int)) (c : Nat) : Prop where
  st : StoreAt W b F 100 (8 * N) N c S
  cn : (c : Int) ≤ N
  young : Young w0 W F
  rows : ∀ a, 0 ≤ a → a < N → S (a + 1) = some (T a)
  tl : ∀ a, (T a).length = 8
  mem : ∃ cur, W.heap[mb]? = some (.cells cur 42 (0, 0)) ∧ cur.size = 24 ∧ ∀ a j : Nat, a < 3 → j < 8 → cur[a * 8 + j]? = some (.int .u64 ((T a).getD j 0))
  mge : w0.heap.size ≤ mb
  out : ¬ F mb
def ApAt (w0 : World) (b mb : Nat) (W : World) (N : Int) (T : Int → List Int) : Prop := ∃ F S c, ApL w0 b mb W N T F S c

theorem ApL.mlt {w0 : World} {b mb : Nat} {W : World} {N : Int} {T : Int → List Int} {F : Nat → Prop} {S : Int → Option (List Int)} {c : Nat} (H : ApL w0 b mb W N T F S c) : mb < W.heap.size := by
  obtain ⟨cur, h, _⟩ := H.mem
  exact (Array.getElem?_eq_some_iff.1 h).1

theorem ApL.more {w0 : World} {b mb : Nat} {W : World} {N : Int} {T : Int → List Int} {F : Nat → Prop} {S : Int → Option (List Int)} {c : Nat} (H : ApL w0 b mb W N T F S c) (N0 : 0 ≤ N) {w2 : World} {F2 : Nat → Prop} {S2 : Int → Option (List Int)}
    (h2 : StoreAt w2 b F2 100 (8 * (N + 1)) (N + 1) (c + 1) S2) (g : Chg S (N + 1) (some (T N)) S2) (hw : Went F W F2 w2) : ApL w0 b mb w2 (N + 1) T F2 S2 (c + 1) :=
  { st := h2, cn := by have := H.cn; omega, young := H.young.went hw
    rows := fun a h0 h1 => by
      by_cases e : a = N
      · subst e
        exact g.at_
      · rw [g.off (a + 1) (by omega)]
        exact H.rows a h0 (by omega)
    tl := H.tl
    mem := by
      obtain ⟨cur, h, r⟩ := H.mem
      exact ⟨cur, (hw.block mb H.mlt H.out).trans h, r⟩
    mge := H.mge
    out := hw.out H.mlt H.out }

theorem ApL.same {w0 : World} {b mb : Nat} {W W' : World} {N : Int} {T : Int → List Int} {F : Nat → Prop} {S : Int → Option (List Int)} {c : Nat} (H : ApL w0 b mb W N T F S c) (h : Same W W') : ApL w0 b mb W' N T F S c :=
  { st := by obtain ⟨m, loc, hs⟩ := H.st; exact ⟨m, loc, h.store hs⟩, cn := H.cn, young := H.young.went (h.went F), rows := H.rows, tl := H.tl
    mem := by rw [h.heap]; exact H.mem
    mge := H.mge, out := H.out }

theorem ApL.cell {w0 : World} {b mb : Nat} {W : World} {N : Int} {T : Int → List Int} {F : Nat → Prop} {S : Int → Option (List Int)} {c : Nat} (H : ApL w0 b mb W N T F S c) {w1 : World} {F1 : Nat → Prop} (hw : Went F W F1 w1) {u o : Int} (u0 : 0 ≤ u) (u3 : u < 3) (o0 : 0 ≤ o) (o8 : o < 8) :
    w1.cell? ⟨mb, u.toNat * 8 + o.toNat, none⟩ = some (.int .u64 ((T u).getD o.toNat 0)) ∧ w1.frozen? ⟨mb, u.toNat * 8 + o.toNat, none⟩ = false := by
  obtain ⟨cur, hm, hs, hc⟩ := H.mem
  have hm1 := (hw.block mb H.mlt H.out).trans hm
  refine ⟨?_, by simp [World.frozen?, hm1]⟩
  rw [cell_of_row w1 mb _ cur _ _ hm1, hc u.toNat o.toNat (by omega) (by omega), show ((u.toNat : Nat) : Int) = u by omega]

theorem ApL.wrote {w0 : World} {b mb : Nat} {W : World} {T : Int → List Int} {F : Nat → Prop} {S : Int → Option (List Int)} {c : Nat} (H : ApL w0 b mb W 3 T F S c) {w1 w2 : World} {S1 : Int → Option (List Int)} {u o z : Int} (u0 : 0 ≤ u) (u3 : u < 3) (o0 : 0 ≤ o) (o8 : o < 8) (hz : msk z = z)
    (h1 : StoreAt w1 b F 100 (8 * 3) 3 c S1) (g : Chg S (u + 1) (some ((T u).set o.toNat (msk z))) S1) (hw : Went F W F w1) (h2 : Same w1 w2) :
    ApL w0 b mb (w2.setCell ⟨mb, u.toNat * 8 + o.toNat, none⟩ (.int .u64 z)) 3 (upd T u ((T u).set o.toNat z)) F S1 c := by
  have hw2 := hw.trans (h2.went F)
  have y := H.young.went hw2
  rw [hz] at g
  obtain ⟨m, loc, h1'⟩ := h1
  have st2 : StoreAt w2 b F 100 (8 * 3) 3 c S1 := ⟨m, loc, h2.store h1'⟩
  obtain ⟨cur, hm, hs, hc⟩ := H.mem
  have hm2 := (hw2.block mb H.mlt H.out).trans hm
  exact {
    st := st2.set H.out
    cn := H.cn
    young := ⟨y.below.setCell H.mge _, y.ge⟩
    rows := fun a h0 h3 => by
      by_cases e : a = u
      · subst e
        rw [g.at_, upd_same]
      · rw [g.off (a + 1) (by omega), upd_other _ _ e]
        exact H.rows a h0 h3
    tl := fun a => by
      by_cases e : a = u
      · subst e
        rw [upd_same, List.length_set]
        exact H.tl a
      · rw [upd_other _ _ e]
        exact H.tl a
    mem := by
      refine ⟨_, head_set hm2 _ _, by simpa using hs, fun a j ha hj => ?_⟩
      by_cases e : a * 8 + j = u.toNat * 8 + o.toNat
      · obtain ⟨ea, ej⟩ : a = u.toNat ∧ j = o.toNat := by omega
        subst ea ej
        rw [show ((u.toNat : Nat) : Int) = u by omega, upd_same]
        have := H.tl u
        simp [show u.toNat * 8 + o.toNat < cur.size by omega, show o.toNat < (T u).length by omega]
      · rw [Array.getElem?_setIfInBounds_ne (Ne.symm e), hc a j ha hj]
        by_cases e' : (a : Int) = u
        · have ne : o.toNat ≠ j := fun h => e (by subst h; omega)
          rw [e', upd_same]
          simp [ne]
        · rw [upd_other _ _ e']
    mge := H.mge
    out := H.out }

theorem nums_at {k : IntKind} {w W : World} {b o : Nat} {zs : List Int} (hc : ∀ i, i < zs.length → w.cell? ⟨b, o + i, none⟩ = some (.int k (zs.getD i 0))) (hb : Below w.heap.size w W) {i : Nat} (hi : i < zs.length) : W.cell? ⟨b, o + i, none⟩ = some (.int k (zs.getD i 0)) :=
  (hb.cell (p := ⟨b, o + i, none⟩) (World.block_lt_of_cell? w _ (hc i hi))).trans (hc i hi)

set_option maxRecDepth 8000 in
set_option maxHeartbeats 4000000 in
theorem apart_walk (p : Option Addr) (len cap : Nat) (zs : List Int) (w : World) (hN : NumsIn .u16 w p zs) (hlen : zs.length = len * 3) (hm : len ≤ 9223372036854775807) (hz : ∀ n ∈ zs, 0 ≤ n ∧ n ≤ 65535) :
    Calls Try.prog 5 #[.slice p len cap] w fun e w' => e = .returned (.bool true) ∧ Below w.heap.size w w' := by
  have HN := Lib.hid hN
  have HZ := Lib.hid hz
  clear hN hz
  by_cases h100 : 200 < len
  · go_enter Try.func5, Try.ntmps5
    go_wp2_with (first
      | (go_at_call 7; ((with_reducible refine (awake_any w).mono ?_); rintro e wa ⟨rfl, ba⟩))
      | (go_at_call 8; ((with_reducible refine (new_at (q := 100) (by omega) wa).mono ?_); rintro e wb ⟨rfl, hs0, bb, sb⟩)))
    go_ret
    exact ⟨rfl, ba.trans (bb.mono ba.size)⟩
  go_enter Try.func5, Try.ntmps5
  go_wp2_with (first
    | (go_at_call 7; ((with_reducible refine (awake_any w).mono ?_); rintro e wa ⟨rfl, ba⟩))
    | (go_at_call 8; ((with_reducible refine (new_at (q := 100) (by omega) wa).mono ?_); rintro e wb ⟨rfl, hs0, bb, sb⟩)))
  have hstart : ApAt w wa.heap.size wb.heap.size (wb.alloc (.cells #[.int .u64 0, .int .u64 0, .int .u64 0, .int .u64 0, .int .u64 0, .int .u64 0, .int .u64 0, .int .u64 0, .int .u64 0, .int .u64 0, .int .u64 0, .int .u64 0, .int .u64 0, .int .u64 0, .int .u64 0, .int .u64 0, .int .u64 0, .int .u64 0, .int .u64 0, .int .u64 0, .int .u64 0, .int .u64 0, .int .u64 0, .int .u64 0] 42)) 0 (fun _ => List.replicate 8 0) := ⟨_, _, 0, {
    st := hs0.below ((Below.refl _ _).alloc (Nat.le_refl _) _)
    cn := by omega
    young := ⟨(ba.trans (bb.mono ba.size)).alloc (Nat.le_trans ba.size bb.size) _, fun i hi => hi ▸ ba.size⟩
    rows := fun a h0 h1 => by omega
    tl := fun _ => rfl
    mem := ⟨_, heap_alloc_new wb _, rfl, fun a j ha hj => by
      rw [show (#[.int .u64 0, .int .u64 0, .int .u64 0, .int .u64 0, .int .u64 0, .int .u64 0, .int .u64 0, .int .u64 0, .int .u64 0, .int .u64 0, .int .u64 0, .int .u64 0, .int .u64 0, .int .u64 0, .int .u64 0, .int .u64 0, .int .u64 0, .int .u64 0, .int .u64 0, .int .u64 0, .int .u64 0, .int .u64 0, .int .u64 0, .int .u64 0] : Array Value) = Array.replicate 24 (.int .u64 0) from rfl, Array.getElem?_replicate, if_pos (by omega)]
      rw [show (List.replicate 8 (0 : Int)).getD j 0 = 0 by simp only [List.getD, List.getElem?_replicate, if_pos hj, Option.getD_some]]⟩
    mge := Nat.le_trans ba.size bb.size
    out := fun h => by omega }⟩
  clear hs0 bb sb
  go_loopw [5] (fun i W => ∃ N : Int, 0 ≤ N ∧ N ≤ 3 ∧ i = .int .i64 N ∧ ApAt w wa.heap.size wb.heap.size W N (fun _ => List.replicate 8 0)) (fun i _ => 3 - (intOf i).toNat)
  case atStart => exact ⟨0, by omega, by omega, rfl, hstart⟩
  case round =>
    clear hstart
    obtain ⟨N, N0, N3, rfl, F, S, c, H⟩ := hrel
    by_cases hlt : N < 3
    · have hmk := make_is H.st (n := 8) (u' := 8 * (N + 1)) (l' := N + 1) (ws' := List.replicate 8 0) (by omega) (by omega) (by omega) (by have := H.cn; omega) N0 (by omega) (by omega) (by omega) (by omega) (by omega) rfl rfl
      go_wp2_with (first
        | (go_at_call 9; ((with_reducible refine hmk.mono ?_); rintro e w1 ⟨rfl, F1, S1, h1, g1, hw1⟩)))
      go_roundw
      case rel => exact ⟨N + 1, by omega, by omega, rfl, _, _, _, H.more N0 h1 g1 hw1⟩
      case measure => simp [intOf]; omega
    · obtain rfl : N = 3 := by omega
      have hstart : ApAt w wa.heap.size wb.heap.size wr 3 (fun _ => List.replicate 8 0) := ⟨_, _, _, H⟩
      clear H
      go_wp2
      go_loopw [8] (fun i W => ∃ (k : Nat) (T : Int → List Int), k ≤ len ∧ i = .int .i64 k ∧ ApAt w wa.heap.size wb.heap.size W 3 T) (fun i _ => len - (intOf i).toNat)
      case atStart => exact ⟨0, _, by omega, rfl, hstart⟩
      case round =>
        clear hstart
        obtain ⟨k, T, hk, rfl, F, S, c, H⟩ := hrel
        by_cases hlt : k < len
        · obtain ⟨b, o, rfl, hc⟩ := HN.out (by omega)
          have hc0 := nums_at hc H.young.below (i := k * 3) (by omega)
          have hc1 := nums_at hc H.young.below (i := k * 3 + 1) (by omega)
          have hc2 := nums_at hc H.young.below (i := k * 3 + 2) (by omega)
          obtain ⟨x0, x1⟩ := HZ.out (zs.getD (k * 3) 0) (by simp [List.getD, show k * 3 < zs.length by omega])
          obtain ⟨y0, y1⟩ := HZ.out (zs.getD (k * 3 + 1) 0) (by simp [List.getD, show k * 3 + 1 < zs.length by omega])
          obtain ⟨z0, z1⟩ := HZ.out (zs.getD (k * 3 + 2) 0) (by simp [List.getD, show k * 3 + 2 < zs.length by omega])
          generalize zs.getD (k * 3) 0 = x at *
          generalize zs.getD (k * 3 + 1) 0 = y at *
          generalize hzz : zs.getD (k * 3 + 2) 0 = z at *
          have HV := Lib.hid hzz
          clear hzz
          rw [← Nat.add_assoc] at hc1 hc2
          have i1 : (k : Int) < (len : Int) := by omega
          have i0 : (0 : Int) ≤ (k : Int) := by omega
          have HC := Lib.hid hc
          clear hc
          go_wp2
          go_quiet (fail)
          have H1 := H.same (Same.drewN wr nq)
          have hwr := write_is H1.st (k := x % 3 + 1) (o := y % 8) (x := z) (by omega) (by omega) (H1.rows (x % 3) (by omega) (by omega)) (by omega) (by rw [H1.tl]; omega) rfl
          clear H hc0 hc1
          go_wp2_with (first
            | (go_at_call 10; ((with_reducible refine hwr.mono ?_); rintro e w1 ⟨rfl, S1, h1, g1, hw1⟩; have hd2 := nums_at HC.out (H1.young.went hw1).below (i := k * 3 + 2) (by omega); rw [HV.out, ← Nat.add_assoc] at hd2)))
          have x3 : 0 ≤ x % 3 := by omega
          have x4 : x % 3 < 3 := by omega
          have y3 : 0 ≤ y % 8 := by omega
          have y4 : y % 8 < 8 := by omega
          go_still_tail 10, (by kernel_rfl)
          change wpList _ _ _ _ _ w1.drew
          have hsm : Same w1 w1.drew := ⟨rfl, rfl, rfl, rfl⟩
          obtain ⟨m1, m2⟩ := H1.cell (hw1.trans (hsm.went F)) x3 x4 y3 y4
          have hmz : msk z = z := by
            unfold msk
            rw [mask_int _ (by omega) (by omega)]
            omega
          have H2 := H1.wrote x3 x4 y3 y4 hmz h1 g1 hw1 hsm
          clear H1 h1 g1 hw1 hwr hmz hsm
          generalize w1.drew = w2 at *
          go_wp2
          clear m1 m2 hd2 hc2 HV HC
          generalize w2.setCell ⟨wb.heap.size, (x % 3).toNat * 8 + (y % 8).toNat, none⟩ (.int .u64 z) = w3 at *
          generalize upd T (x % 3) ((T (x % 3)).set (y % 8).toNat z) = T2 at *
          go_loopw [11] (fun i W => ∃ A : Int, 0 ≤ A ∧ A ≤ 3 ∧ i = .int .i64 A ∧ W = w3) (fun i _ => 3 - (intOf i).toNat)
          case atStart => exact ⟨0, by omega, by omega, rfl, rfl⟩
          case round =>
            obtain ⟨A, A0, A3, rfl, hW⟩ := hrel
            have hW' := hW.symm
            subst hW'
            by_cases hA : A < 3
            · go_wp2
              go_loopw [12] (fun i W => ∃ B : Int, 0 ≤ B ∧ B ≤ 8 ∧ i = .int .i64 B ∧ W = w3) (fun i _ => 8 - (intOf i).toNat)
              case atStart => exact ⟨0, by omega, by omega, rfl, rfl⟩
              case round =>
                obtain ⟨B, B0, B8, rfl, hW⟩ := hrel
                have hW' := hW.symm
                subst hW'
                by_cases hB : B < 8
                · obtain ⟨m1, _⟩ := H2.cell (Went.refl F _) A0 hA B0 hB
                  have hrd := read_is H2.st (k := A + 1) (o := B) (by omega) (by omega) (H2.rows A A0 hA) B0 (by rw [H2.tl]; omega) rfl
                  generalize (T2 A).getD B.toNat 0 = v at *
                  go_wp2_with (first
                    | (go_at_call 12; ((with_reducible refine hrd.mono ?_); rintro e w4 ⟨rfl, rfl⟩)))
                  go_roundw
                  case rel => exact ⟨B + 1, by omega, by omega, rfl, trivial⟩
                  case measure => simp [intOf]; omega
                · obtain rfl : B = 8 := by omega
                  go_wp2
                  go_roundw
                  case rel => exact ⟨A + 1, by omega, by omega, rfl, trivial⟩
                  case measure => simp [intOf]; omega
            · obtain rfl : A = 3 := by omega
              go_wp2
              go_roundw
              case rel => exact ⟨k + 1, T2, by omega, by go_num, _, _, _, H2⟩
              case measure => simp [intOf]; omega
        · have d : decide ((k : Int) < (len : Int)) = false := decide_eq_false (by omega)
          go_wp2
          go_ret
          exact ⟨rfl, H.young.below⟩

end Go.Proofs.Ytaffbjopckajnaa.W
