/-
  What Read answers for any words: the text and its words, or ErrForm.
-/
import Derived.Test.YtnlohmkgkihldaaLDo
import Derived.Laws.BytesArg
namespace Go.Proofs.Ytnlohmkgkihldaa.W
open Go.ChangeShapes Go.WideShapes Go.ChangeAt Go.RowKit
open Go.Proofs.Ytnlohmkgkihldaa.N (bs bs_data bs_of bs_size)

/-- the bytes read so far, noughts behind them -/
def rd (zs : List Int) (k : Nat) : List Int := (List.range (rl zs)).map fun i => if i < k then ((vl zs i : Nat) : Int) else 0
@[reducible] def rowB (ws : List Int) : Obj := .cells (ws.map (Value.int .u8)).toArray 5 (0, 0)
theorem rd_len (zs : List Int) (k : Nat) : (rd zs k).length = rl zs := by simp [rd]
theorem rd_none (zs : List Int) : rd zs 0 = List.replicate (rl zs) 0 := by
  apply List.ext_getElem?
  intro i
  by_cases h : i < rl zs
  · simp [rd, h]
  · simp [rd, h]
theorem rd_step {zs : List Int} {k : Nat} (h : k < rl zs) : (rd zs k).set k ((vl zs k : Nat) : Int) = rd zs (k + 1) := by
  apply List.ext_getElem?
  intro i
  by_cases hi : i < rl zs
  · by_cases he : i = k
    · subst he; simp [rd, hi]
    · rw [List.getElem?_set_ne (Ne.symm he)]
      by_cases hk : i < k
      · simp [rd, hi, hk, show i < k + 1 by omega]
      · simp [rd, hi, hk, show ¬ i < k + 1 by omega]
  · simp [rd, hi]
theorem rd_all (zs : List Int) : strOfNums (rd zs (rl zs)) = bs (txt zs) := by
  unfold strOfNums bs txt rd
  congr 2
  apply List.ext_getElem?
  intro i
  by_cases hi : i < rl zs
  · simp [hi]
  · simp [hi]
theorem rowB_lie {w : World} {g : Nat} {ws : List Int} (h : w.heap[g]? = some (rowB ws)) (i : Nat) (hi : i < ws.length) : w.cell? ⟨g, 0 + i, none⟩ = some (.int .u8 (ws.getD i 0)) := by
  rw [Nat.zero_add, cell_of_row w g i _ _ _ h]
  simp [hi]
theorem rowB_set {w : World} {g j : Nat} {ws : List Int} (h : w.heap[g]? = some (rowB ws)) (x : Int) : (w.setCell ⟨g, j, none⟩ (.int .u8 x)).heap[g]? = some (rowB (ws.set j x)) := by
  rw [setCell_eq_setRow w g _ _ _ (0, 0) _ h]
  rw [setRow_heap _ _ _ _ _ _ h]
  simp [rowB]
theorem rowB_frozen {w : World} {g j : Nat} {ws : List Int} (h : w.heap[g]? = some (rowB ws)) : w.frozen? ⟨g, j, none⟩ = false := by simp [World.frozen?, h]
theorem made_rowB (n : Nat) : madeCells #[Value.int .u8 0] n = (List.replicate n (Value.int .u8 0)).toArray := by
  apply Array.toList_inj.1
  rw [toList_madeCells_one]
theorem info_byte : (Try.prog.info? 5).map (fun i => (i.zero, i.size, i.bytes)) = some (some (.int .u8 0), 1, 1) := by kernel_rfl

/-- Read's two answers -/
@[reducible] def rdYes (zs : List Int) : Ending := .returned (.tuple #[.string (bs (txt zs)), .int .i64 (nw (rl zs)), .int .i64 0])
@[reducible] def rdNo : Ending := .returned (.tuple #[.string ByteArray.empty, .int .i64 0, .int .i64 2])

theorem read_none (a : Option Addr) (c : Nat) (w : World) : Calls Try.prog 39 #[.slice a 0 c] w fun e w' => e = rdNo ∧ Below w.heap.size w w' := by
  have hlen := length_none a c w
  go_enter Try.func39, Try.ntmps39
  go_wp2_with (go_at_call 49; ((with_reducible refine hlen.mono ?_); rintro e w1 ⟨rfl, rfl⟩))
  go_ret3
  exact ⟨rfl, Below.refl _ _⟩

section
variable {w : World} {b o c : Nat} {zs : List Int}

theorem read_big (hl : Lie w b o zs) (hz : ∀ z ∈ zs, U64 z) (h : 0 < zs.length) (hr : 255 < rl zs) :
    Calls Try.prog 39 #[.slice (some ⟨b, o, none⟩) zs.length c] w fun e w' => e = rdNo ∧ Below w.heap.size w w' := by
  have hlen := length_big (c := c) hl hz h hr
  clear hl hz
  go_enter Try.func39, Try.ntmps39
  go_wp2_with (go_at_call 49; ((with_reducible refine hlen.mono ?_); rintro e w1 ⟨rfl, rfl⟩))
  go_ret3
  exact ⟨rfl, Below.refl _ _⟩

theorem read_short (hl : Lie w b o zs) (hz : ∀ z ∈ zs, U64 z) (h : 0 < zs.length) (hr : rl zs ≤ 255) (hn : zs.length < nw (rl zs)) :
    Calls Try.prog 39 #[.slice (some ⟨b, o, none⟩) zs.length c] w fun e w' => e = rdNo ∧ Below w.heap.size w w' := by
  have hlen := length_ok (c := c) hl hz h hr
  have hwo := wordsOf_any (rl zs) w (by omega)
  have t1 : decide ((zs.length : Int) < (nw (rl zs) : Int)) = true := decide_eq_true (by omega)
  clear hl hz
  go_enter Try.func39, Try.ntmps39
  go_wp2_with (first
    | (go_at_call 49; ((with_reducible refine hlen.mono ?_); rintro e w1 ⟨rfl, e1⟩; obtain rfl := e1.symm))
    | (go_at_call 50; ((with_reducible refine hwo.mono ?_); rintro e w2 ⟨rfl, e2⟩; obtain rfl := e2.symm)))
  go_ret3
  exact ⟨rfl, Below.refl _ _⟩

theorem read_unclear (hl : Lie w b o zs) (hz : ∀ z ∈ zs, U64 z) (h : 0 < zs.length) (hr : rl zs ≤ 255) (hn : nw (rl zs) ≤ zs.length) (hc : ¬ Clear zs (rl zs)) :
    Calls Try.prog 39 #[.slice (some ⟨b, o, none⟩) zs.length c] w fun e w' => e = rdNo ∧ Below w.heap.size w w' := by
  have hlen := length_ok (c := c) hl hz h hr
  have hwo := wordsOf_any (rl zs) w (by omega)
  have hem := empty_no (c := c) hl hz (rl zs) hr hn hc
  have t1 : decide ((zs.length : Int) < (nw (rl zs) : Int)) = false := decide_eq_false (by omega)
  clear hl hz hc
  go_enter Try.func39, Try.ntmps39
  go_wp2_with (first
    | (go_at_call 49; ((with_reducible refine hlen.mono ?_); rintro e w1 ⟨rfl, e1⟩; obtain rfl := e1.symm))
    | (go_at_call 50; ((with_reducible refine hwo.mono ?_); rintro e w2 ⟨rfl, e2⟩; obtain rfl := e2.symm))
    | (go_at_call 51; ((with_reducible refine hem.mono ?_); rintro e w3 ⟨rfl, m3, e3⟩; obtain rfl := e3.symm)))
  go_ret3
  exact ⟨rfl, ⟨rfl, rfl, rfl, Nat.le_refl _, fun _ _ => rfl⟩⟩

set_option maxRecDepth 8000 in
set_option maxHeartbeats 1000000 in
theorem read_clear (hl : Lie w b o zs) (hz : ∀ z ∈ zs, U64 z) (h : 0 < zs.length) (hr : rl zs ≤ 255) (hn : nw (rl zs) ≤ zs.length) (hcl : Clear zs (rl zs)) :
    Calls Try.prog 39 #[.slice (some ⟨b, o, none⟩) zs.length c] w fun e w' => (Good zs ∧ e = rdYes zs ∨ ¬ Good zs ∧ e = rdNo) ∧ Below w.heap.size w w' := by
  have hlen := length_ok (c := c) hl hz h hr
  have hwo := wordsOf_any (rl zs) w (by omega)
  have hem := empty_yes (c := c) hl hz (rl zs) hr hn hcl
  have t1 : decide (zs.length < nw (rl zs)) = false := decide_eq_false (by omega)
  have hmk := run_make_row' (P := Try.prog) 52 5 (.int .u8 0) 1 Try.underlying52 info_byte rfl .i64 .i64 (rl zs) (by omega) (by omega)
  rw [made_rowB] at hmk
  have HL := Lib.hid hl
  have HZ := Lib.hid hz
  have HC := Lib.hid hcl
  clear hl hz hcl
  go_enter Try.func39, Try.ntmps39
  go_wp2_with (first
    | (go_at_call 49; ((with_reducible refine hlen.mono ?_); rintro e w1 ⟨rfl, e1⟩; obtain rfl := e1.symm))
    | (go_at_call 50; ((with_reducible refine hwo.mono ?_); rintro e w2 ⟨rfl, e2⟩; obtain rfl := e2.symm))
    | (go_at_call 51; ((with_reducible refine hem.mono ?_); rintro e w3 ⟨rfl, m3, e3⟩; obtain rfl := e3.symm)))
  have h0 : Hid (((w.drewN m3).alloc (.cells (List.replicate (rl zs) (.int .u8 0)).toArray 5)).heap[w.heap.size]? = some (rowB (rd zs 0))) := Lib.hid (by
    rw [rd_none]
    refine (heap_alloc_new (w.drewN m3) _).trans ?_
    simp [rowB])
  clear hmk hem hlen
  go_loopw [34] (fun i W => ∃ k : Nat, k ≤ rl zs ∧ i = .int .i64 k ∧ Hid (W.heap[w.heap.size]? = some (rowB (rd zs k))) ∧ Hid (∀ j, j < k → vl zs j ≤ 255) ∧ Below w.heap.size w W) (fun i _ => rl zs - (intOf i).toNat)
  case atStart => exact ⟨0, by omega, rfl, h0, Lib.hid (fun j hj => by omega), (show Below w.heap.size w (w.drewN m3) from ⟨rfl, rfl, rfl, Nat.le_refl _, fun _ _ => rfl⟩).alloc (Nat.le_refl _) _⟩
  case round =>
    clear h0
    obtain ⟨k, hk, rfl, HR, HV, hB⟩ := hrel
    by_cases hlt : k < rl zs
    · have hva := value_any (c := c) (HL.out.below hB) HZ.out k (by unfold nw at hn; omega) (by omega)
      by_cases hv : vl zs k ≤ 255
      · have hf := rowB_frozen (j := k) HR.out
        have hc := rowB_lie HR.out k (by rw [rd_len]; exact hlt)
        rw [Nat.zero_add] at hc
        have HS := Lib.hid (rd_step hlt)
        have t2 : decide ((vl zs k : Int) > 255) = false := decide_eq_false (by omega)
        have e8 : IntKind.u8.wrap (vl zs k : Int) = (vl zs k : Int) := by rw [IntKind.wrap_u8]; omega
        generalize (rd zs k).getD k 0 = u at *
        go_wp2_with (go_at_call 52; ((with_reducible refine hva.mono ?_); rintro e w4 ⟨rfl, m4, e4⟩; obtain rfl := e4.symm))
        go_roundw
        case rel =>
          refine ⟨k + 1, by omega, by go_num, Lib.hid ?_, Lib.hid (fun j hj => ?_), Below.setCell (show Below w.heap.size w (wr.drewN m4) from ⟨hB.os, hB.tape, hB.output, hB.size, hB.block⟩) (Nat.le_refl _) _⟩
          · rw [← HS.out]
            exact rowB_set (w := wr.drewN m4) HR.out _
          · by_cases e : j = k
            · rw [e]; exact hv
            · exact HV.out j (by omega)
        case measure => simp [intOf]; omega
      · have t2 : decide ((vl zs k : Int) > 255) = true := decide_eq_true (by omega)
        have ng : ¬ Good zs := fun g => hv (g.2.2.2.2 k hlt)
        have HN := Lib.hid ng
        clear ng
        go_wp2_with (go_at_call 52; ((with_reducible refine hva.mono ?_); rintro e w4 ⟨rfl, m4, e4⟩; obtain rfl := e4.symm))
        go_ret3
        exact ⟨Or.inr ⟨HN.out, rfl⟩, ⟨hB.os, hB.tape, hB.output, hB.size, hB.block⟩⟩
    · obtain rfl : k = rl zs := by omega
      have hg : Hid (Good zs) := Lib.hid ⟨h, hr, hn, HC.out, HV.out⟩
      have hcv : ∀ n, (convert 52 9 (.slice (some ⟨w.heap.size, 0, none⟩) (rl zs) (rl zs))).run Try.prog (wr.drewN n) = .ok (.string (strOfNums (rd zs (rl zs)))) (wr.drewN n) := fun n =>
        run_convert_bytes_arg (wr.drewN n) 52 5 Try.underlying52 Try.underlying5 w.heap.size 0 (rl zs) (rl zs) (rd zs (rl zs)) (rd_len _ _) (fun i hi => rowB_lie (w := wr.drewN n) HR.out i (by rw [rd_len]; exact hi)) 9 Try.underlying9
      go_wp2
      go_quiet (first
        | (go_at_call 50; exact Calls.quiet_of_same (wordsOf_any (rl zs) _ (by omega))))
      go_wp2
      go_ret3
      rw [rd_all]
      exact ⟨Or.inl ⟨hg.out, rfl⟩, ⟨hB.os, hB.tape, hB.output, hB.size, hB.block⟩⟩

/-- Read of any words -/
theorem read_any {a : Option Addr} (hl : NumsIn .u64 w a zs) (hz : ∀ z ∈ zs, U64 z) :
    Calls Try.prog 39 #[.slice a zs.length c] w fun e w' => (Good zs ∧ e = rdYes zs ∨ ¬ Good zs ∧ e = rdNo) ∧ Below w.heap.size w w' := by
  by_cases h : 0 < zs.length
  case neg =>
    obtain rfl : zs = [] := List.length_eq_zero_iff.1 (by omega)
    exact (read_none a c w).mono fun e w' ⟨h1, h2⟩ => ⟨Or.inr ⟨fun g => absurd g.1 (by simp), h1⟩, h2⟩
  obtain ⟨b, o, rfl, hL⟩ := hl h
  have hL' : Lie w b o zs := hL
  by_cases hr : rl zs ≤ 255
  case neg => exact (read_big hL' hz h (by omega)).mono fun e w' ⟨h1, h2⟩ => ⟨Or.inr ⟨fun g => hr g.2.1, h1⟩, h2⟩
  by_cases hn : nw (rl zs) ≤ zs.length
  case neg => exact (read_short hL' hz h hr (by omega)).mono fun e w' ⟨h1, h2⟩ => ⟨Or.inr ⟨fun g => hn g.2.2.1, h1⟩, h2⟩
  by_cases hc : Clear zs (rl zs)
  case neg => exact (read_unclear hL' hz h hr hn hc).mono fun e w' ⟨h1, h2⟩ => ⟨Or.inr ⟨fun g => hc g.2.2.2.1, h1⟩, h2⟩
  exact read_clear hL' hz h hr hn hc

theorem read_yes {a : Option Addr} (hl : NumsIn .u64 w a zs) (hz : ∀ z ∈ zs, U64 z) (hg : Good zs) {l : List UInt8} {n : Nat} (ht : txt zs = l) (hn : rl zs = n) :
    Calls Try.prog 39 #[.slice a zs.length c] w fun e w' => e = .returned (.tuple #[.string (bs l), .int .i64 (nw n), .int .i64 0]) ∧ Below w.heap.size w w' := by
  subst ht hn
  exact (read_any hl hz).mono fun e w' ⟨h1, h2⟩ => ⟨h1.elim (fun h => h.2) (fun h => absurd hg h.1), h2⟩

theorem read_no {a : Option Addr} (hl : NumsIn .u64 w a zs) (hz : ∀ z ∈ zs, U64 z) (hg : ¬ Good zs) :
    Calls Try.prog 39 #[.slice a zs.length c] w fun e w' => e = rdNo ∧ Below w.heap.size w w' :=
  (read_any hl hz).mono fun _ _ ⟨h1, h2⟩ => ⟨h1.elim (fun h => absurd h.1 hg) (fun h => h.2), h2⟩

end

end Go.Proofs.Ytnlohmkgkihldaa.W
