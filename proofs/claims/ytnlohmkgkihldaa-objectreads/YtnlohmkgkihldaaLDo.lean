/-
  What Words answers for a text, and what length and emptyBehind answer.
-/
import Derived.Test.YtnlohmkgkihldaaLCalls
import Derived.Deep.RegionHeld3
import Derived.Deep.DeepCutAuto
import Derived.StillTailTactics
import Derived.Deep.OwnRows
namespace Go.Proofs.Ytnlohmkgkihldaa.W
open Go.ChangeShapes Go.WideShapes Go.ChangeAt Go.RowKit
open Go.Proofs.Ytnlohmkgkihldaa.N (bs bs_data bs_of bs_size)

@[reducible] def row (ws : List Int) : Obj := .cells (ws.map (Value.int .u64)).toArray 37 (0, 0)
theorem row_lie {w : World} {g : Nat} {ws : List Int} (h : w.heap[g]? = some (row ws)) : Lie w g 0 ws := fun i hi => by
  rw [Nat.zero_add, cell_of_row w g i _ _ _ h]
  simp [hi]
theorem row_set {w : World} {g j : Nat} {ws : List Int} (h : w.heap[g]? = some (row ws)) (x : Int) : (w.setCell ⟨g, j, none⟩ (.int .u64 x)).heap[g]? = some (row (ws.set j x)) := by
  rw [setCell_eq_setRow w g _ _ _ (0, 0) _ h]
  rw [setRow_heap _ _ _ _ _ _ h]
  simp [row]
theorem row_frozen {w : World} {g j : Nat} {ws : List Int} (h : w.heap[g]? = some (row ws)) : w.frozen? ⟨g, j, none⟩ = false := by simp [World.frozen?, h]
theorem made_row (n : Nat) : madeCells #[Value.int .u64 0] n = (List.replicate n (Value.int .u64 0)).toArray := by
  apply Array.toList_inj.1
  rw [toList_madeCells_one]
theorem info_word : (Try.prog.info? 37).map (fun i => (i.zero, i.size, i.bytes)) = some (some (.int .u64 0), 1, 8) := by kernel_rfl

theorem length_none (a : Option Addr) (c : Nat) (w : World) : Calls Try.prog 49 #[.slice a 0 c] w fun e w' => e = .returned (.tuple #[.int .i64 0, .bool false]) ∧ w' = w := by
  go_enter Try.func49, Try.ntmps49
  go_wp2
  go_ret2
  exact ⟨rfl, rfl⟩

theorem rl_int {zs : List Int} (hz : ∀ z ∈ zs, U64 z) (h : 0 < zs.length) : bits .and .u64 (zs.getD 0 0) 68719476735 = ((rl zs : Nat) : Int) := by
  have hb : U64 (zs.getD 0 0) := by
    have : zs.getD 0 0 = zs[0] := by simp [List.getD, h]
    rw [this]; exact hz _ (List.getElem_mem _)
  obtain ⟨h0, h1⟩ := hb
  rw [mask_int _ h0 h1]
  unfold rl
  omega

theorem length_big {w : World} {b o c : Nat} {zs : List Int} (hl : Lie w b o zs) (hz : ∀ z ∈ zs, U64 z) (h : 0 < zs.length) (hr : 255 < rl zs) :
    Calls Try.prog 49 #[.slice (some ⟨b, o, none⟩) zs.length c] w fun e w' => e = .returned (.tuple #[.int .i64 0, .bool false]) ∧ w' = w := by
  have hc := hl 0 h
  rw [Nat.add_zero] at hc
  have hv := rl_int hz h
  have t1 : ((zs.length : Int) == 0) = false := beq_eq_false_iff_ne.2 (by omega)
  have i1 : (0 : Int) < (zs.length : Int) := by omega
  generalize zs.getD 0 0 = v at *
  have hd : decide (bits .and .u64 v 68719476735 > 255) = true := by rw [hv]; exact decide_eq_true (by omega)
  clear hv hl hz
  go_enter Try.func49, Try.ntmps49
  go_wp2
  go_ret2
  exact ⟨rfl, rfl⟩

theorem length_ok {w : World} {b o c : Nat} {zs : List Int} (hl : Lie w b o zs) (hz : ∀ z ∈ zs, U64 z) (h : 0 < zs.length) (hr : rl zs ≤ 255) :
    Calls Try.prog 49 #[.slice (some ⟨b, o, none⟩) zs.length c] w fun e w' => e = .returned (.tuple #[.int .i64 (rl zs), .bool true]) ∧ w' = w := by
  have hc := hl 0 h
  rw [Nat.add_zero] at hc
  have hv := rl_int hz h
  have t1 : ((zs.length : Int) == 0) = false := beq_eq_false_iff_ne.2 (by omega)
  have i1 : (0 : Int) < (zs.length : Int) := by omega
  generalize zs.getD 0 0 = v at *
  have hd : decide (bits .and .u64 v 68719476735 > 255) = false := by rw [hv]; exact decide_eq_false (by omega)
  have HV := Lib.hid hv
  clear hv hl hz
  go_enter Try.func49, Try.ntmps49
  go_wp2
  go_ret2
  refine ⟨?_, rfl⟩
  rw [HV.out, show wrap64 ((rl zs : Nat) : Int) = ((rl zs : Nat) : Int) by unfold wrap64; omega]
  rfl

set_option maxHeartbeats 400000 in
theorem empty_yes {w : World} {b o c : Nat} {zs : List Int} (hl : Lie w b o zs) (hz : ∀ z ∈ zs, U64 z) (n : Nat) (hn : n ≤ 255) (hw : nw n ≤ zs.length) (hcl : Clear zs n) :
    Calls Try.prog 51 #[.slice (some ⟨b, o, none⟩) zs.length c, .int .i64 n] w fun e w' => e = .returned (.bool true) ∧ ∃ n, w' = w.drewN n := by
  have HL := Lib.hid hl
  have HZ := Lib.hid hz
  have HC := Lib.hid hcl
  unfold nw at hw
  clear hl hz hcl
  go_enter Try.func51, Try.ntmps51
  go_wp2
  go_loopw [5] (fun i W => ∃ k m : Nat, n ≤ k ∧ k ≤ 4 * ((n + 3) / 4) ∧ i = .int .i64 k ∧ W = w.drewN m) (fun i _ => 4 * ((n + 3) / 4) - (intOf i).toNat)
  case atStart => exact ⟨n, 0, by omega, by omega, rfl, rfl⟩
  case round =>
    obtain ⟨k, m, h1, h2, rfl, rfl⟩ := hrel
    by_cases hk : k % 4 = 0
    · have t1 : ((k : Int) % 4 == 0) = true := beq_iff_eq.2 (by omega)
      go_wp2
      go_ret
      exact ⟨rfl, m, rfl⟩
    · have t1 : ((k : Int) % 4 == 0) = false := beq_eq_false_iff_ne.2 (by omega)
      have hv : vl zs k = 0 := HC.out k h1 (by omega)
      have hcall := value_any (c := c) (HL.out.drewN m) HZ.out k (by omega) (by omega)
      rw [hv] at hcall
      go_wp2_with (go_at_call 52; ((with_reducible refine hcall.mono ?_); rintro e w1 ⟨rfl, m1, rfl⟩))
      go_roundw
      case rel => exact ⟨k + 1, m + m1, by omega, by omega, by go_num, by first | rfl | rw [World.drewN_drewN]⟩
      case measure => simp [intOf]; omega

set_option maxHeartbeats 400000 in
theorem empty_no {w : World} {b o c : Nat} {zs : List Int} (hl : Lie w b o zs) (hz : ∀ z ∈ zs, U64 z) (n : Nat) (hn : n ≤ 255) (hw : nw n ≤ zs.length) (hcl : ¬ Clear zs n) :
    Calls Try.prog 51 #[.slice (some ⟨b, o, none⟩) zs.length c, .int .i64 n] w fun e w' => e = .returned (.bool false) ∧ ∃ n, w' = w.drewN n := by
  have HL := Lib.hid hl
  have HZ := Lib.hid hz
  have HC := Lib.hid hcl
  unfold nw at hw
  clear hl hz hcl
  go_enter Try.func51, Try.ntmps51
  go_wp2
  go_loopw [5] (fun i W => ∃ k m : Nat, n ≤ k ∧ k ≤ 4 * ((n + 3) / 4) ∧ i = .int .i64 k ∧ W = w.drewN m ∧ Hid (∀ j, n ≤ j → j < k → vl zs j = 0)) (fun i _ => 4 * ((n + 3) / 4) - (intOf i).toNat)
  case atStart => exact ⟨n, 0, by omega, by omega, rfl, rfl, Lib.hid (fun j h1 h2 => by omega)⟩
  case round =>
    obtain ⟨k, m, h1, h2, rfl, rfl, HK⟩ := hrel
    by_cases hk : k % 4 = 0
    · exact absurd (fun j h3 h4 => HK.out j h3 (by omega)) HC.out
    · have t1 : ((k : Int) % 4 == 0) = false := beq_eq_false_iff_ne.2 (by omega)
      have hcall := value_any (c := c) (HL.out.drewN m) HZ.out k (by omega) (by omega)
      by_cases hv : vl zs k = 0
      · rw [hv] at hcall
        go_wp2_with (go_at_call 52; ((with_reducible refine hcall.mono ?_); rintro e w1 ⟨rfl, m1, rfl⟩))
        go_roundw
        case rel => exact ⟨k + 1, m + m1, by omega, by omega, by go_num, by first | rfl | rw [World.drewN_drewN], Lib.hid (fun j h3 h4 => by
          by_cases hj : j = k
          · rw [hj]; exact hv
          · exact HK.out j h3 (by omega))⟩
        case measure => simp [intOf]; omega
      · have t2 : ((vl zs k : Int) == 0) = false := beq_eq_false_iff_ne.2 (by omega)
        go_wp2_with (go_at_call 52; ((with_reducible refine hcall.mono ?_); rintro e w1 ⟨rfl, m1, rfl⟩))
        go_ret
        exact ⟨rfl, m + m1, by first | rfl | rw [World.drewN_drewN]⟩

theorem words_long (s : ByteArray) (w : World) (h : 255 < s.size) (hs : s.size ≤ maxLen) :
    Calls Try.prog 47 #[.string s] w fun e w' => e = .returned (.tuple #[.slice none 0 0, .int .i64 1]) ∧ w' = w := by
  unfold maxLen at hs
  go_enter Try.func47, Try.ntmps47
  go_wp2
  go_ret2
  exact ⟨rfl, rfl⟩

theorem bt_of (s : ByteArray) {k : Nat} (h : k < s.size) : (s[k].toNat : Int) = ((bt s.data.toList k : Nat) : Int) := by
  rw [bt_in (by simpa using h)]
  rfl

set_option maxRecDepth 8000 in
set_option maxHeartbeats 1000000 in
theorem words_any (s : ByteArray) (w : World) (h : s.size ≤ 255) :
    Calls Try.prog 47 #[.string s] w fun e w' => e = .returned (.tuple #[.slice (some ⟨w.heap.size, 0, none⟩) (nw s.size) (nw s.size), .int .i64 0]) ∧ w'.heap[w.heap.size]? = some (row (wds s.data.toList)) ∧ Below w.heap.size w w' := by
  have hsz : s.data.toList.length = s.size := Array.length_toList
  have hn := nw_le h
  have hp := nw_pos s.size
  have hmk := run_make_row' (P := Try.prog) 22 37 (.int .u64 0) 8 Try.underlying22 info_word rfl .i64 .i64 (nw s.size) (by omega) (by omega)
  rw [made_row] at hmk
  have hwo := wordsOf_any s.size w (by omega)
  go_enter Try.func47, Try.ntmps47
  go_wp2_with (go_at_call 50; ((with_reducible refine hwo.mono ?_); rintro e w1 ⟨rfl, rfl⟩))
  have h0 : Hid ((w1.alloc (.cells ((Array.replicate (nw s.size) (Value.int .u64 0)).setIfInBounds 0 (.int .u64 s.size)) 37)).heap[w1.heap.size]? = some (row (prt s.data.toList 0))) := Lib.hid (by
    rw [prt_none, hsz, heap_alloc_new]
    simp only [row, List.map_set, List.map_replicate]
    exact congrArg (fun a => some (Obj.cells a 37 (0, 0))) (Array.toList_inj.1 (by simp)))
  clear hmk hwo
  go_loopw [20] (fun i W => ∃ k : Nat, k ≤ s.size ∧ i = .int .i64 k ∧ Hid (W.heap[w1.heap.size]? = some (row (prt s.data.toList k))) ∧ Below w1.heap.size w1 W) (fun i _ => s.size - (intOf i).toNat)
  case atStart => exact ⟨0, by omega, rfl, h0, (Below.refl _ _).alloc (Nat.le_refl _) _⟩
  case round =>
    clear h0
    obtain ⟨k, hk, rfl, HR, hB⟩ := hrel
    by_cases hlt : k < s.size
    · have hj : 1 + k / 4 < nw s.size := by unfold nw; omega
      have hlen := prt_len s.data.toList k
      rw [hsz] at hlen
      have hc := row_lie HR.out (1 + k / 4) (by rw [hlen]; exact hj)
      rw [Nat.zero_add] at hc
      have hf := row_frozen (j := 1 + k / 4) HR.out
      have HS := Lib.hid (prt_step (l := s.data.toList) (k := k) (by omega))
      rw [← bt_of s hlt] at HS
      generalize (prt s.data.toList k).getD (1 + k / 4) 0 = v at *
      change wr.cell? ⟨w1.heap.size, wat k, none⟩ = _ at hc
      change wr.frozen? ⟨w1.heap.size, wat k, none⟩ = _ at hf
      have i0 : (0 : Int) ≤ (wat k : Int) := by omega
      have i1 : (wat k : Int) < (nw s.size : Int) := by unfold wat; omega
      have b1 : bel k < 64 := by unfold bel; omega
      go_wp2
      refine wp_region_still_tail 14 (by kernel_rfl) (by kernel_rfl) ?_
      simp only [List.take_succ_cons, List.take_zero, List.drop_succ_cons, List.drop_zero]
      repeat still_step
      still_call (wordAt_any k _ (by omega))
      repeat still_step
      still_call (below_any k _ (by omega))
      repeat still_step
      try refine wpStill_nil ?_
      change wpList _ _ _ _ _ wr.drew
      have HR2 : Hid (wr.drew.heap[w1.heap.size]? = some (row (prt s.data.toList k))) := HR
      have hc2 : wr.drew.cell? ⟨w1.heap.size, wat k, none⟩ = some (.int .u64 v) := hc
      have hf2 : wr.drew.frozen? ⟨w1.heap.size, wat k, none⟩ = false := hf
      have hB2 := hB.drew
      clear HR hc hf hB
      generalize wr.drew = w2 at *
      go_wp2
      go_roundw
      case rel =>
        refine ⟨k + 1, by omega, by go_num, Lib.hid ?_, hB2.setCell (Nat.le_refl _) _⟩
        have e : IntKind.u64.wrap (s[k].toNat : Int) = (s[k].toNat : Int) := by
          rw [IntKind.wrap_u64]
          have := s[k].toNat_lt
          omega
        rw [← HS.out, e]
        exact row_set HR2.out _
      case measure => simp [intOf]; omega
    · obtain rfl : k = s.size := by omega
      go_wp2
      go_ret2
      refine ⟨rfl, ?_, hB⟩
      have := HR.out
      rw [← hsz, prt_all] at this
      exact this

end Go.Proofs.Ytnlohmkgkihldaa.W
