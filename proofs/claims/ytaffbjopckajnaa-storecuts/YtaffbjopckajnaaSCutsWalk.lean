/-
  The law StoreCuts answers true: cut and made longer: the words that stay are as they were, the others are noughts.
-/
import Derived.Test.YtaffbjopckajnaaSSteps
import Derived.Test.YtaffbjopckajnaaQCopy
import Derived.Deep.DeepCutAuto
import Derived.Deep.QuietTactic
import Derived.BigQuiet
namespace Go.Proofs.Ytaffbjopckajnaa.W
open Go.ChangeShapes Go.WideShapes Go.ChangeAt Go.RowKit

theorem nums_at {k : IntKind} {w W : World} {b o : Nat} {zs : List Int} (hc : ∀ i, i < zs.length → w.cell? ⟨b, o + i, none⟩ = some (.int k (zs.getD i 0))) (hb : Below w.heap.size w W) {i : Nat} (hi : i < zs.length) : W.cell? ⟨b, o + i, none⟩ = some (.int k (zs.getD i 0)) :=
  (hb.cell (p := ⟨b, o + i, none⟩) (World.block_lt_of_cell? w _ (hc i hi))).trans (hc i hi)

/-- the law's own memory: a store whose one segment holds ws, and a slice of its own that holds xs -/
structure CutL (w0 : World) (b : Nat) (W : World) (mv : Value) (xs ws : List Int) (F : Nat → Prop) (S : Int → Option (List Int)) (c : Nat) : Prop where
  st : StoreAt W b F 300 ws.length 1 c S
  at_ : S 1 = some ws
  short : ws.length ≤ 30
  young : Young w0 W F
  que : Que w0.heap.size 30 .u64 W mv xs
  nn : mv ≠ .slice none 0 0
  out : ∀ g, mv.ownBlock = some g → ¬ F g

section
variable {w0 : World} {b : Nat} {W : World} {mv : Value} {xs ws : List Int} {F : Nat → Prop} {S : Int → Option (List Int)} {c : Nat}

/-- the slice is changed, or another one takes its place -/
theorem CutL.grown (H : CutL w0 b W mv xs ws F S c) {w2 : World} {v2 : Value} {ys : List Int} (hgr : W.grownBy w2 mv.ownBlock) (hq : Que w0.heap.size 30 .u64 w2 v2 ys) (hn : v2 ≠ .slice none 0 0)
    (ho : v2.ownBlock = mv.ownBlock ∨ ∃ g, v2.ownBlock = some g ∧ W.heap.size ≤ g) : CutL w0 b w2 v2 ys ws F S c where
  st := H.st.keep hgr.size (fun i hi => hgr.block i (H.st.ltF i hi) (fun e => H.out i e.symm hi))
  at_ := H.at_
  short := H.short
  young := ⟨H.young.below.trans ⟨hgr.os, hgr.tape, hgr.output, hgr.size, fun i hi => hgr.block i (Nat.lt_of_lt_of_le hi H.young.below.size) (fun e => by have := (H.que.lt i e.symm).1; omega)⟩, H.young.ge⟩
  que := hq
  nn := hn
  out := fun g hg => by
    rcases ho with ho | ⟨g', hg', hle⟩
    · exact H.out g (ho ▸ hg)
    · rw [hg'] at hg
      cases hg
      intro hf
      have := H.st.ltF g hf
      omega

/-- the store is changed -/
theorem CutL.went (H : CutL w0 b W mv xs ws F S c) {w2 : World} {F2 : Nat → Prop} {S2 : Int → Option (List Int)} {ws2 : List Int} {c2 : Nat} (h2 : StoreAt w2 b F2 300 ws2.length 1 c2 S2) (g : Chg S 1 (some ws2) S2) (hs : ws2.length ≤ 30) (hw : Went F W F2 w2) : CutL w0 b w2 mv xs ws2 F2 S2 c2 where
  st := h2
  at_ := g.at_
  short := hs
  young := H.young.went hw
  que := H.que.keep (fun g hg => hw.block g (H.que.lt g hg).2 (H.out g hg))
  nn := H.nn
  out := fun g hg => hw.out (H.que.lt g hg).2 (H.out g hg)

theorem CutL.alloc (H : CutL w0 b W mv xs ws F S c) (O : Obj) : CutL w0 b (W.alloc O) mv xs ws F S c :=
  H.grown (World.grownBy_alloc W O _) (H.que.below ((Below.refl _ _).alloc (Nat.le_refl _) _)) H.nn (Or.inl rfl)

theorem CutL.val (H : CutL w0 b W mv xs ws F S c) : ∃ g off cap, mv = .slice (some ⟨g, off, none⟩) xs.length cap ∧ xs.length ≤ cap ∧ ∀ i, i < xs.length → W.cell? ⟨g, off + i, none⟩ = some (.int .u64 (xs.getD i 0)) := by
  rcases H.que with ⟨h, _⟩ | ⟨g, off, cap, cur, hv, hb, hh, hl, hs, hc⟩
  · exact absurd h H.nn
  · exact ⟨g, off, cap, hv, hl, fun i hi => by rw [cell_of_row W g _ cur _ (0, 0) hh]; exact hc i hi⟩

end

theorem grown_new {W w3 : World} {O : Obj} (h : (W.alloc O).grownBy w3 (some W.heap.size)) (row : Option Nat) : W.grownBy w3 row :=
  ⟨h.os, h.tape, h.output, Nat.le_trans (by simp) h.size, fun i hi _ => (h.block i (by simp; omega) (fun e => by cases e; omega)).trans (heap_alloc_old W O hi)⟩

theorem grown_set (w : World) (g i : Nat) (v : Value) : w.grownBy (w.setCell ⟨g, i, none⟩ v) (some g) := ⟨rfl, rfl, rfl, by simp, fun k _ hk => other_set _ _ (fun e => hk (by rw [e]))⟩

def vlen : Value → Nat
  | .slice _ n _ => n
  | _ => 0

theorem take_rez (ws : List Int) (j N : Nat) (h : ws.length + j ≤ max ws.length N) (h' : N ≤ ws.length + j) : (ws ++ List.replicate j 0).take N = rez ws N := by
  unfold rez
  by_cases hl : N ≤ ws.length
  · rw [List.take_append_of_le_length hl, show N - ws.length = 0 by omega]
    simp
  · obtain rfl : j = N - ws.length := by omega
    rw [List.take_append, List.take_of_length_le (show ws.length ≤ N by omega), List.take_of_length_le (by simp)]

theorem info_word' : (Try.prog.info? 30).map (fun i => (i.zero, i.size, i.bytes)) = some (some (.int .u64 0), 1, 8) := by kernel_rfl

/-- two rows of the same words -/
theorem same_words (w : World) (xs : List Int) {g1 o1 c1 g2 o2 c2 : Nat} (hl : xs.length ≤ 1024) (h1 : ∀ i, i < xs.length → w.cell? ⟨g1, o1 + i, none⟩ = some (.int .u64 (xs.getD i 0))) (h2 : ∀ i, i < xs.length → w.cell? ⟨g2, o2 + i, none⟩ = some (.int .u64 (xs.getD i 0))) :
    Calls Try.prog 17 #[.slice (some ⟨g1, o1, none⟩) xs.length c1, .slice (some ⟨g2, o2, none⟩) xs.length c2] w fun e w' => e = .returned (.bool true) ∧ Same w w' := by
  have H1 := Lib.hid h1
  have H2 := Lib.hid h2
  clear h1 h2
  go_enter Try.func17, Try.ntmps17
  go_wp2
  go_loopw [5] (fun i W => ∃ k : Nat, k ≤ xs.length ∧ i = .int .i64 k ∧ Same w W) (fun i _ => xs.length - (intOf i).toNat)
  case atStart => exact ⟨0, by omega, rfl, Same.refl w⟩
  case round =>
    obtain ⟨k, hk, rfl, hW⟩ := hrel
    by_cases hlt : k < xs.length
    · have a1 : wr.cell? ⟨g1, o1 + k, none⟩ = some (.int .u64 (xs.getD k 0)) := by rw [← H1.out k hlt]; simp only [World.cell?, hW.heap]
      have a2 : wr.cell? ⟨g2, o2 + k, none⟩ = some (.int .u64 (xs.getD k 0)) := by rw [← H2.out k hlt]; simp only [World.cell?, hW.heap]
      generalize xs.getD k 0 = v at *
      have i0 : (0 : Int) ≤ (k : Int) := by omega
      have i1 : (k : Int) < (xs.length : Int) := by omega
      go_wp2
      go_quiet (fail)
      go_wp2
      go_roundw
      case rel => exact ⟨k + 1, by omega, by go_num, ⟨hW.heap, hW.os, hW.tape, hW.output⟩⟩
      case measure => simp [intOf]; omega
    · have d : decide ((k : Int) < (xs.length : Int)) = false := decide_eq_false (by omega)
      go_wp2
      go_ret
      exact ⟨rfl, hW⟩

set_option maxRecDepth 8000 in
set_option maxHeartbeats 4000000 in
theorem cuts_walk (p : Option Addr) (cap : Nat) (zs : List Int) (x : Int) (w : World) (hN : NumsIn .u8 w p zs) (hm : zs.length ≤ 9223372036854775807) (hz : ∀ n ∈ zs, 0 ≤ n ∧ n ≤ 255) :
    Calls Try.prog 6 #[.slice p zs.length cap, .int .u64 x] w fun e w' => e = .returned (.bool true) ∧ Below w.heap.size w w' := by
  have HN := Lib.hid hN
  have HZ := Lib.hid hz
  clear hN hz
  by_cases h60 : 60 < zs.length
  · go_enter Try.func6, Try.ntmps6
    go_wp2_with (first
      | (go_at_call 7; ((with_reducible refine (awake_any w).mono ?_); rintro e wa ⟨rfl, ba⟩))
      | (go_at_call 8; ((with_reducible refine (new_at (q := 300) (by omega) wa).mono ?_); rintro e wb ⟨rfl, hs0, bb, sb⟩)))
    go_ret
    exact ⟨rfl, ba.trans (bb.mono ba.size)⟩
  have hmk := run_make_row' (P := Try.prog) 46 30 (.int .u64 0) 8 Try.underlying46 info_word' rfl .i64 .i64 10 (by omega) (by omega)
  rw [made_row] at hmk
  rw [show (((10 : Nat) : Int)) = 10 from rfl] at hmk
  go_enter Try.func6, Try.ntmps6
  go_wp2_with (first
    | (go_at_call 7; ((with_reducible refine (awake_any w).mono ?_); rintro e wa ⟨rfl, ba⟩))
    | (go_at_call 8; ((with_reducible refine (new_at (q := 300) (by omega) wa).mono ?_); rintro e wb ⟨rfl, hs0, bb, sb⟩))
    | (go_at_call 9; ((with_reducible refine (make_is hs0 (n := 10) (u' := 10) (l' := 1) (ws' := List.replicate 10 0) (by omega) (by omega) (by omega) (by omega) (by omega) (by omega) (by omega) (by omega) (by omega) rfl rfl rfl).mono ?_); rintro e wc ⟨rfl, F1, S1, hs1, g1, hw1⟩)))
  have hstart : CutL w wa.heap.size (wc.alloc (.cells (List.replicate 10 (.int .u64 0)).toArray 30)) (.slice (some ⟨wc.heap.size, 0, none⟩) 10 10) (List.replicate 10 0) (List.replicate 10 0) F1 S1 1 := by
    have hy : Young w wb (fun i => i = wa.heap.size) := ⟨ba.trans (bb.mono ba.size), fun i hi => hi ▸ ba.size⟩
    have hy1 := hy.went hw1
    exact {
      st := hs1.below ((Below.refl _ _).alloc (Nat.le_refl _) _)
      at_ := g1.at_
      short := by simp
      young := ⟨hy1.below.alloc hy1.below.size _, hy1.ge⟩
      que := Or.inr ⟨wc.heap.size, 0, 10, _, rfl, hy1.below.size, heap_alloc_new wc _, by simp, by simp, fun i hi => by
        simp only [List.length_replicate] at hi
        simp only [List.getElem?_toArray, List.getD, List.getElem?_replicate, Nat.zero_add, if_pos hi, Option.getD_some]⟩
      nn := by simp
      out := fun g hg hf => by
        have := hs1.ltF g hf
        simp [Value.ownBlock] at hg
        omega }
  clear hs0 bb sb hs1 g1 hw1 hmk
  go_loopw [8, 9] (fun mv i W => ∃ k : Nat, k ≤ zs.length ∧ i = .int .i64 k ∧ ∃ ws F S c, c ≤ k + 1 ∧ CutL w wa.heap.size W mv ws ws F S c) (fun _ i _ => zs.length - (intOf i).toNat)
  case atStart => exact ⟨0, by omega, rfl, _, _, _, 1, by omega, hstart⟩
  case round =>
    clear hstart
    obtain ⟨k, hk, rfl, ws, F, S, c, hck, H⟩ := hrel
    by_cases hlt : k < zs.length
    · obtain ⟨b, o, rfl, hc⟩ := HN.out (by omega)
      have hcell := nums_at hc H.young.below hlt
      obtain ⟨z0, z1⟩ := HZ.out (zs.getD k 0) (by simp [List.getD, hlt])
      generalize zs.getD k 0 = z at *
      clear hc
      have n0 : 0 ≤ z / 2 % 30 := by omega
      have n1 : z / 2 % 30 < 30 := by omega
      have hsh := H.short
      obtain ⟨g, off, cp, hmv, hcp, hcells⟩ := H.val
      obtain ⟨i0, hi, hz0, hz1, hz2⟩ := info_parts info_word'
      by_cases hev : bits .and .u8 z 1 = 0
      · have hrs := resize_is H.st (k := 1) (n := z / 2 % 30) (u' := ((rez ws (z / 2 % 30).toNat).length : Int)) (by omega) (by omega) H.at_ n0 (by omega) (by omega) (by omega) (by omega) (by omega) (by omega) (by rw [rez_len]; omega) rfl
        subst hmv
        go_wp2_with (first
          | (go_at_call 11; ((with_reducible refine hrs.mono ?_); rintro e w1 ⟨rfl, F1, S1, h1, g1, hw1⟩; have H1 := H.went h1 g1 (by rw [rez_len]; omega) hw1)))
        clear H h1 g1 hw1 hrs hcells
        have H1' : CutL w wa.heap.size w1 (.slice (some ⟨g, off, none⟩) ws.length cp) (ws ++ List.replicate 0 0) (rez ws (z / 2 % 30).toNat) F1 S1 (c + 1) := by simpa using H1
        go_loopw [8] (fun mv W => ∃ j : Nat, ws.length + j ≤ max ws.length (z / 2 % 30).toNat ∧ CutL w wa.heap.size W mv (ws ++ List.replicate j 0) (rez ws (z / 2 % 30).toNat) F1 S1 (c + 1)) (fun mv _ => (z / 2 % 30).toNat - vlen mv)
        case atStart => exact ⟨0, by omega, H1'⟩
        case round =>
          clear H1 H1' hcell
          obtain ⟨j, hj, H2⟩ := hrel
          obtain ⟨g2, off2, cp2, hmv2, hcp2, hcells2⟩ := H2.val
          have hxl : (ws ++ List.replicate j 0).length = ws.length + j := by simp
          rw [hxl] at hmv2 hcp2 hcells2
          subst hmv2
          by_cases hl : ((ws.length + j : Nat) : Int) < z / 2 % 30
          · have HA := H2.alloc (.cells #[.int .u64 0] 30)
            go_wp2_with (at_builtin; refine wpList_que rfl _ _ rfl Try.underlying46 hi hz0 hz1 hz2 (by omega) rfl HA.que (by simp; omega) (by simp; have := H2.young.below.size; omega) ⟨wr.heap.size, 0, none⟩ 1 rfl 0 (by simp [Addr.add_lit, World.cell?_alloc_new]) ?_; intro v3 w3 hv3 hgr3 ho3)
            go_roundw
            case rel =>
              rw [List.append_assoc, ← List.replicate_succ'] at hv3
              refine ⟨j + 1, by omega, HA.grown hgr3 hv3 (fun e => ?_) (ho3.imp id (fun h => ⟨_, h, Nat.le_refl _⟩))⟩
              obtain ⟨p3, cp3, h3, _⟩ := hv3.val
              rw [e] at h3
              simp at h3
            case measure =>
              obtain ⟨p3, cp3, h3, _⟩ := hv3.val
              rw [h3]
              simp [vlen]
              omega
          · have d : decide (((ws.length + j : Nat) : Int) < z / 2 % 30) = false := decide_eq_false hl
            have hbl : Below wr.heap.size wr (wr.alloc (.cells #[] 30)) := (Below.refl _ _).alloc (Nat.le_refl _) _
            have hcl : ∀ i, i < (z / 2 % 30).toNat → (wr.alloc (.cells #[] 30)).cell? ⟨g2, off2 + i, none⟩ = some (.int .u64 ((ws ++ List.replicate j 0).getD i 0)) := fun i hi' =>
              (hbl.cell (p := ⟨g2, off2 + i, none⟩) (World.block_lt_of_cell? wr _ (hcells2 i (by omega)))).trans (hcells2 i (by omega))
            have HC := Lib.hid hcl
            have hby := H2.young.below.size
            clear hcells2 hcl hbl
            go_wp2_with (at_builtin; refine wpList_que_copy rfl _ _ rfl Try.underlying46 hi hz0 hz1 hz2 (by omega) wr.heap.size rfl (heap_alloc_new wr _) hby g2 off2 (z / 2 % 30).toNat cp2 rfl (ws ++ List.replicate j 0) HC.out (by rw [hxl]; omega) (by omega) (by simp; omega) ?_; intro v3 w3 hv3 hn3 hgr3 ho3)
            go_roundw
            case rel =>
              rw [take_rez ws j _ hj (by omega)] at hv3
              exact ⟨k + 1, by omega, by go_num, _, _, _, c + 1, by omega, H2.grown (grown_new hgr3 _) hv3 hn3 (Or.inr (ho3.elim (fun h => ⟨_, h, Nat.le_refl _⟩) (fun h => ⟨_, h, by simp⟩)))⟩
            case measure => simp [intOf]; omega
      · have hev' : (bits .and .u8 z 1 == 0) = false := by simpa using hev
        by_cases hin : z / 2 % 30 < (ws.length : Int)
        · have hwr := write_is H.st (k := 1) (o := z / 2 % 30) (x := IntKind.u64.wrap (x + k)) (by omega) (by omega) H.at_ n0 hin rfl
          have d : decide (z / 2 % 30 < (ws.length : Int)) = true := decide_eq_true hin
          subst hmv
          go_wp2_with (first
            | (go_at_call 10; ((with_reducible refine hwr.mono ?_); rintro e w1 ⟨rfl, S1, h1, g1, hw1⟩; have H1 := H.went (by rw [List.length_set]; exact h1) g1 (by rw [List.length_set]; exact hsh) hw1; obtain ⟨g', off', hgo, hbg, ⟨uu, hcu⟩, hfu, hq⟩ := H1.que.set rfl (j := (z / 2 % 30).toNat) (by omega) (msk (IntKind.u64.wrap (x + k))); simp only [Option.some.injEq, Addr.mk.injEq, and_true] at hgo; obtain ⟨rfl, rfl⟩ := hgo)))
          go_roundw
          case rel => exact ⟨k + 1, by omega, by go_num, _, _, _, c, by omega, H1.grown (grown_set _ _ _ _) hq H1.nn (Or.inl rfl)⟩
          case measure => simp [intOf]; omega
        · have hwr := write_out H.st (k := 1) (o := z / 2 % 30) (x := IntKind.u64.wrap (x + k)) (by omega) (by omega) H.at_ (by omega)
          have d : decide (z / 2 % 30 < (ws.length : Int)) = false := decide_eq_false hin
          subst hmv
          go_wp2_with (first
            | (go_at_call 10; ((with_reducible refine hwr.mono ?_); rintro e w1 ⟨rfl, rfl⟩)))
          go_roundw
          case rel => exact ⟨k + 1, by omega, by go_num, _, _, _, c, by omega, H⟩
          case measure => simp [intOf]; omega
    · have d : decide ((k : Int) < (zs.length : Int)) = false := decide_eq_false (by omega)
      have hwo := words_yes H.st (k := 1) (by omega) (by omega) H.at_
      obtain ⟨g, off, cp, hmv, hcp, hcells⟩ := H.val
      have hsh := H.short
      have hsw : ∀ w1 : World, w1.heap[wr.heap.size]? = some (row ws) → Below wr.heap.size wr w1 → Calls Try.prog 17 #[.slice (some ⟨wr.heap.size, 0, none⟩) ws.length ws.length, .slice (some ⟨g, off, none⟩) ws.length cp] w1 fun e w' => e = .returned (.bool true) ∧ Same w1 w' := fun w1 hr hb =>
        same_words w1 ws (by omega) (fun i hi => by rw [Nat.zero_add]; exact row_cell hr hi) (fun i hi => (hb.cell (p := ⟨g, off + i, none⟩) (World.block_lt_of_cell? wr _ (hcells i hi))).trans (hcells i hi))
      have HS := Lib.hid hsw
      clear hsw hcells
      subst hmv
      go_wp2_with (first
        | (go_at_call 16; ((with_reducible refine hwo.mono ?_); rintro e w1 ⟨rfl, hr1, hb1⟩; have HR := Lib.hid hr1; clear hr1))
        | (go_at_call 17; ((with_reducible refine (HS.out w1 HR.out hb1).mono ?_); rintro e w2 ⟨rfl, hs2⟩; have hst := (H.st.below hb1).below hs2.below))
        | (go_at_call 14; ((with_reducible refine (used_at hst).mono ?_); rintro e w3 ⟨rfl, rfl⟩)))
      go_ret
      exact ⟨rfl, (H.young.below.trans (hb1.mono H.young.below.size)).trans (hs2.below.mono (Nat.le_trans H.young.below.size hb1.size))⟩

end Go.Proofs.Ytaffbjopckajnaa.W
