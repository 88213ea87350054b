/-
  slices.Grow and slices.Concat at words: what they return; spelt and number.
-/
import Derived.Test.YtnlohmkgkihldaaOParts
import Derived.Lib.AppendZeros
namespace Go.Proofs.Ytnlohmkgkihldaa.W
open Go.ChangeShapes Go.WideShapes Go.ChangeAt Go.RowKit
open Go.Proofs.Ytnlohmkgkihldaa.N (bs bs_data bs_of bs_size may may_pos retB)

set_option maxHeartbeats 1000000 in
theorem growW_none (w : World) :
    Calls Try.prog 46 #[.slice none 0 0, .int .i64 0] w fun e w' => e = .returned (.slice none 0 0) ∧ w' = w := by
  go_enter Try.func46, Try.ntmps46
  go_wp2
  go_ret
  exact ⟨rfl, rfl⟩

set_option maxHeartbeats 1000000 in
theorem growW_some (n : Nat) (w : World) (h0 : 0 < n) (hn : n ≤ 1000000) :
    Calls Try.prog 46 #[.slice none 0 0, .int .i64 n] w fun e w' => ∃ v, e = .returned v ∧ OwnW w.heap.size w' v [] ∧ Below w.heap.size w w' := by
  obtain ⟨i0, hi, hz0, hz1, hz2⟩ := info_parts info_word
  have hrz : ∀ ty, (Builtin.append_ #[22, 3] ty #[.slice none 0 0, .int .i64 n]).run Try.prog w =
      .ok (.slice (some ⟨w.heap.size, 0, none⟩) n (grownCap w n 0 37)) (w.drew.alloc (.cells (Builtin.zeroCells (Value.int .u64 0).cells n ++ Builtin.zeroCells (Value.int .u64 0).cells (grownCap w n 0 37 - n)) 37)) := fun ty =>
    Lib.run_append_nil_zeros w 22 3 ty 37 i0 _ .i64 .i64 Try.underlying22 Try.underlying3 hi hz0 n h0 (by omega) (by omega) (by rw [hz2]; omega)
  obtain ⟨G, hG⟩ : ∃ G, G = grownCap w n 0 37 := ⟨_, rfl⟩
  have hge : n ≤ G := hG ▸ grownCap_ge w n 0 37
  have hle : G ≤ maxLen := hG ▸ grownCap_le_maxLen w n 0 37 (by unfold maxLen; omega)
  rw [← hG] at hrz
  clear hG
  have hsz : (Builtin.zeroCells #[Value.int .u64 0] n ++ Builtin.zeroCells #[Value.int .u64 0] (G - n)).size = G * 1 := by
    rw [Array.size_append, size_zeroCells, size_zeroCells]
    simp
    omega
  have HS := Lib.hid (World.ownsRow_made (base := w.heap.size) (e := 37) w _ G (Nat.le_refl _) hle hsz)
  clear hsz
  unfold maxLen at hle
  go_enter Try.func46, Try.ntmps46
  go_wp2_with (at_builtin; refine Lib.wpList_append_run _ rfl _ _ _ _ rfl _ _ rfl rfl _ _ (hrz _) ?_)
  go_ret
  exact ⟨_, rfl, HS.out, (one_new _ _).drew⟩

theorem growW_any (n : Nat) (w : World) (hn : n ≤ 1000000) :
    Calls Try.prog 46 #[.slice none 0 0, .int .i64 n] w fun e w' => ∃ v, e = .returned v ∧ OwnW w.heap.size w' v [] ∧ Below w.heap.size w w' := by
  by_cases h0 : 0 < n
  · exact growW_some n w h0 hn
  · obtain rfl : n = 0 := by omega
    exact (growW_none w).mono fun e w' h => ⟨_, h.1, ownW_nil, h.2 ▸ Below.refl _ _⟩

/-- slices of words in a row: where each lies -/
abbrev PtW := Option Addr × Nat × List Int
def allW (ps : List PtW) : List Int := ps.flatMap (fun p => p.2.2)
theorem allW_snoc {ps : List PtW} {k : Nat} (hk : k < ps.length) : allW (ps.take (k + 1)) = allW (ps.take k) ++ ps[k].2.2 := by
  unfold allW
  rw [List.take_succ_eq_append_getElem hk, List.flatMap_append]
  simp
theorem allW_le (ps : List PtW) (k : Nat) : (allW (ps.take k)).length ≤ (allW ps).length := by
  have e : ps = ps.take k ++ ps.drop k := (List.take_append_drop k ps).symm
  have : allW ps = allW (ps.take k) ++ allW (ps.drop k) := by
    unfold allW
    rw [← List.flatMap_append, ← e]
  rw [this]; simp

set_option maxHeartbeats 2000000 in
theorem concatW_any (sb : Nat) (ps : List PtW) (w : World) (hsb : sb < w.heap.size) (hn : ps.length ≤ 1000) (hc : ∀ j (h : j < ps.length), w.cell? ⟨sb, j, none⟩ = some (.slice ps[j].1 ps[j].2.2.length ps[j].2.1)) (hr : ∀ j (h : j < ps.length), NumsIn .u64 w ps[j].1 ps[j].2.2) (hl : (allW ps).length ≤ 100000) :
    Calls Try.prog 36 #[.slice (some ⟨sb, 0, none⟩) ps.length ps.length] w fun e w' => ∃ v, e = .returned v ∧ OwnW w.heap.size w' v (allW ps) ∧ Below w.heap.size w w' := by
  obtain ⟨i0, hi, hz0, hz1, hz2⟩ := info_parts info_word
  have HC := Lib.hid hc
  have HR := Lib.hid hr
  clear hc hr
  go_enter Try.func36, Try.ntmps36
  go_wp2
  go_loop [3, 11] (fun s i => ∃ k : Nat, k ≤ ps.length ∧ i = .int .i64 k ∧ s = .int .i64 ((allW (ps.take k)).length : Nat)) (fun _ i => ps.length - (intOf i).toNat)
  case atStart => exact ⟨0, Nat.zero_le _, rfl, rfl⟩
  case round =>
    obtain ⟨k, hk, rfl, rfl⟩ := hrel
    by_cases hlt : k < ps.length
    · have hcell := HC.out k hlt
      have hs : (allW (ps.take (k + 1))).length = (allW (ps.take k)).length + ps[k].2.2.length := by rw [allW_snoc hlt]; simp
      have hs1 := allW_le ps (k + 1)
      have hs2 : (allW (ps.take k)).length + ps[k].2.2.length ≤ 100000 := by omega
      have HS := Lib.hid hs
      clear hs hs1
      go_wp2
      go_round
      case rel => exact ⟨k + 1, by omega, by go_num, by rw [HS.out]; go_num⟩
      case measure => simp [intOf]; omega
    · obtain rfl : k = ps.length := by omega
      rw [List.take_length]
      go_wp2_with (go_at_call 46; refine (growW_any _ _ (by omega)).mono ?_; rintro e w1 ⟨v, rfl, hown, hb1⟩)
      have HO := Lib.hid hown
      have HB := Lib.hid hb1
      clear hown hb1
      go_loopw [6, 27] (fun s i W => ∃ k : Nat, k ≤ ps.length ∧ i = .int .i64 k ∧ Hid (OwnW w.heap.size W s (allW (ps.take k))) ∧ Hid (Below w.heap.size w W)) (fun _ i _ => ps.length - (intOf i).toNat)
      case atStart => exact ⟨0, Nat.zero_le _, rfl, HO, HB⟩
      case round =>
        clear HO HB
        obtain ⟨k, hk, rfl, hO, hB⟩ := hrel
        by_cases hlt : k < ps.length
        · have hcell := (hB.out.cell (p := ⟨sb, k, none⟩) hsb).trans (HC.out k hlt)
          have hrow := Lib.hid ((HR.out k hlt).below hB.out)
          have hs := allW_snoc hlt
          have hs1 : (allW (ps.take (k + 1))).length ≤ 100000 := Nat.le_trans (allW_le ps (k + 1)) hl
          have HS := Lib.hid hs
          have HS1 := Lib.hid hs1
          clear hs hs1
          have hsz := hB.out.size
          go_wp2_with (at_builtin; refine wpList_nums rfl (.tmp 31) (.tmp 32) rfl Try.underlying22 hi hz0 hz1 hz2 rfl hO.out _ _ _ rfl _ rfl hrow.out _ _ HS.out.symm rfl HS1.out hsz ?_; intro p2 c2 w2 ho2 _ hg2)
          go_roundw
          case rel => exact ⟨k + 1, by omega, by go_num, Lib.hid ho2, Lib.hid (hB.out.trans (below_grown hg2 hsz (fun g hg => (hO.out.que.lt g hg).1)))⟩
          case measure => simp [intOf]; omega
        · obtain rfl : k = ps.length := by omega
          rw [List.take_length] at hO
          go_wp2
          go_ret
          exact ⟨_, rfl, hO.out, hB.out⟩

theorem spelt_any (s : ByteArray) (w : World) (h : s.size ≤ 255) {l : Txt} {n : Nat} (hl : s.data.toList = l) (hn : nw s.size = n) :
    Calls Try.prog 37 #[.string s] w fun e w' => e = .returned (.slice (some ⟨w.heap.size, 0, none⟩) n n) ∧ w'.heap[w.heap.size]? = some (row (wds l)) ∧ Below w.heap.size w w' := by
  have hcall := words_is s w h hl hn
  go_enter Try.func37, Try.ntmps37
  go_wp2_with (go_at_call 47; ((with_reducible refine hcall.mono ?_); rintro e w1 ⟨rfl, h1, b1⟩))
  go_ret
  exact ⟨rfl, h1, b1⟩

theorem number_any (n : Int) (w : World) (h0 : 0 ≤ n) (h1 : n ≤ 68719476735) : Calls Try.prog 38 #[.int .i64 n] w fun e w' => e = .returned (.int .u64 n) ∧ w' = w := by
  have hc := of_any n w
  rw [show cutv n = n by unfold cutv; omega] at hc
  go_enter Try.func38, Try.ntmps38
  go_wp2_with (go_at_call 48; ((with_reducible refine hc.mono ?_); rintro e w1 ⟨rfl, rfl⟩))
  go_ret
  exact ⟨rfl, rfl⟩

/-- a row of its own, where it lies -/
theorem own_val {base : Nat} {w : World} {v : Value} {xs : List Int} (h : OwnW base w v xs) (h0 : 0 < xs.length) : ∃ g cap, v = .slice (some ⟨g, 0, none⟩) xs.length cap ∧ base ≤ g ∧ g < w.heap.size ∧ xs.length ≤ cap ∧ cap ≤ maxLen ∧ Lie w g 0 xs := by
  obtain ⟨hl, h⟩ := h
  rcases h with ⟨_, h⟩ | ⟨g, cap, cur, e, hg, hh, hn, hm, hc, ht⟩
  · omega
  · refine ⟨g, cap, e, hg, (Array.getElem?_eq_some_iff.1 hh).1, hn, hm, fun i hi => ?_⟩
    have h1 : (cur.toList.take (xs.length * 1))[i]? = (xs.map (Value.int .u64))[i]? := by rw [ht]
    rw [List.getElem?_take_of_lt (by omega)] at h1
    rw [Nat.zero_add, cell_of_row w g _ cur _ (0, 0) hh]
    simpa [hi] using h1
theorem own_lt {base : Nat} {w : World} {v : Value} {xs : List Int} (h : OwnW base w v xs) {B : Nat} (hB : w.heap.size ≤ B) : v.ownBlock ≠ some B := fun e => by
  have := (h.que.lt B e).2
  omega
theorem grown_cell {w w' : World} {r : Option Nat} (h : w.grownBy w' r) {i j : Nat} (hi : i < w.heap.size) (hr : r ≠ some i) : w'.cell? ⟨i, j, none⟩ = w.cell? ⟨i, j, none⟩ := by
  exact World.cell?_of_block (a := ⟨i, j, none⟩) (h.block i hi (fun e => hr e.symm))

section
variable {base : Nat} {w : World} {v : Value} {xs : List Int}
theorem run_nums2 {P : Program} {t ty : TypeId} {i : TypeInfo} (ht : P.underlying t = some (.slice 37)) (hi : P.info? 37 = some i) (hz : i.zero = some (.int .u64 0)) (hsz : i.size = 1) (hby : i.bytes = 8)
    (h : OwnW base w v xs) (p : Option Addr) (c : Nat) (zs : List Int) (hN : NumsIn .u64 w p zs) (hlen : xs.length + zs.length ≤ 100000) (hbase : base ≤ w.heap.size) :
    ∃ v' w', (Builtin.append_ #[t, t] ty #[v, .slice p zs.length c]).run P w = .ok v' w' ∧ OwnW base w' v' (xs ++ zs) ∧ w.grownBy w' v.ownBlock ∧ (v'.ownBlock = v.ownBlock ∨ v'.ownBlock = some w.heap.size) := by
  cases p with
  | none =>
    have hz0 : zs = [] := by
      cases zs with
      | nil => rfl
      | cons z r => obtain ⟨b, o, e, _⟩ := hN (by simp); cases e
    subst hz0
    refine ⟨v, w, ?_, by simpa using h, ⟨rfl, rfl, rfl, Nat.le_refl _, fun _ _ _ => rfl⟩, Or.inl rfl⟩
    rcases h.2 with ⟨rfl, hn⟩ | ⟨g, cap, cur, rfl, _, _, hnc, _⟩
    · simp [Builtin.append_, run_underlying ht, sizeOf, typeInfo, hi, Builtin.lenOf, Builtin.firstCells]
    · simp [Builtin.append_, run_underlying ht, sizeOf, typeInfo, hi, Builtin.lenOf, Builtin.firstCells, hnc, storeCells]
  | some ad =>
    obtain ⟨v', w', h1, h2, h3, _, h5⟩ := run_append_own_at (P := P) w base t ty 37 i (.int .u64 0) 1 8 ht hi hz hsz hby rfl (by omega) v xs.length (xs.map (Value.int .u64)) h ad zs.length c (zs.map (Value.int .u64)) (by simp) (fun j u hj => by
        have hjl : j < zs.length := by simpa using (List.getElem?_eq_some_iff.1 hj).1
        obtain ⟨b, o, e, hc⟩ := hN (by omega)
        cases e
        rw [Addr.add_lit, hc j hjl]
        simpa [hjl] using hj) (fun u hu => by obtain ⟨_, _, rfl⟩ := List.mem_map.1 hu; rfl) (by unfold maxLen; omega) (by omega) hbase
    refine ⟨v', w', h1, ?_, h3, h5⟩
    unfold OwnW
    rw [List.map_append, List.length_append]
    exact h2

theorem wpList_nums2 {P : Program} {t : TypeId} {i : TypeInfo} {ops : Array Oper} {rest : List Oper} {o : Oper} {a : Act} {Q : Exit → Act → World → Prop} (hgd : o.guard = none) (s y : Operand)
    (ho : o.op = .call { callee := .builtin .append, args := #[s, y], argTypes := #[t, t] }) (ht : P.underlying t = some (.slice 37)) (hi : P.info? 37 = some i) (hz : i.zero = some (.int .u64 0)) (hsz : i.size = 1) (hby : i.bytes = 8)
    (hs : a.eval s = v) (h : OwnW base w v xs) (p : Option Addr) (m c : Nat) (hy : a.eval y = .slice p m c) (zs : List Int) (hm : zs.length = m) (hN : NumsIn .u64 w p zs) (N : Nat) (ys : List Int) (hys : xs ++ zs = ys) (hyl : ys.length = N) (hlen : N ≤ 100000) (hbase : base ≤ w.heap.size)
    (hK : ∀ p' c' w', OwnW base w' (.slice p' N c') ys → NumsIn .u64 w' p' ys → w.grownBy w' v.ownBlock → (Value.ownBlock (.slice p' N c') = v.ownBlock ∨ Value.ownBlock (.slice p' N c') = some w.heap.size) → wpList P ops Q rest (a.put o.dst (.slice p' N c')) w') : wpList P ops Q (o :: rest) a w := by
  subst hm hys hyl
  rw [List.length_append] at hlen
  refine wpList_plain hgd fun K hK' => ?_
  obtain ⟨v', w', hr, h2, h3, h5⟩ := run_nums2 (P := P) (ty := o.type) ht hi hz hsz hby h p c zs hN hlen hbase
  unfold Oper.wp execOp
  simp only [ho, resolve, invoke, builtin, Sem.run_bind, Sem.run_pure, Result.andThen_ok, List.map_toArray, List.map_cons, List.map_nil, hs, hy, hr]
  obtain ⟨p', c', e, hp⟩ := h2.que.val
  subst e
  exact hK' _ _ (hK p' c' w' h2 (fun h0 => hp h0) h3 h5)

/-- words appended at a step of a region that draws its order -/
theorem step_nums {P : Program} {t : TypeId} {i : TypeInfo} {ops : Array Oper} {o : Oper} {a : Act} {K : Act → World → Prop} {Q : Exit → Act → World → Prop} {E : Prop} (hgd : o.guard = none) (s y : Operand)
    (ho : o.op = .call { callee := .builtin .append, args := #[s, y], argTypes := #[t, t] }) (ht : P.underlying t = some (.slice 37)) (hi : P.info? 37 = some i) (hz : i.zero = some (.int .u64 0)) (hsz : i.size = 1) (hby : i.bytes = 8)
    (hs : a.eval s = v) (h : OwnW base w v xs) (p : Option Addr) (m c : Nat) (hy : a.eval y = .slice p m c) (zs : List Int) (hm : zs.length = m) (hN : NumsIn .u64 w p zs) (N : Nat) (ys : List Int) (hys : xs ++ zs = ys) (hyl : ys.length = N) (hlen : N ≤ 100000) (hbase : base ≤ w.heap.size)
    (hK : ∀ p' c' w', OwnW base w' (.slice p' N c') ys → w.grownBy w' v.ownBlock → K (a.put o.dst (.slice p' N c')) w') : if Region.wanted o (yielded ops a.tmps) = true then Oper.wp P o a w K Q else E := by
  subst hm hys hyl
  rw [List.length_append] at hlen
  have hw : Region.wanted o (yielded ops a.tmps) = true := by simp [Region.wanted, hgd]
  rw [if_pos hw]
  obtain ⟨v', w', hr, h2, h3, -⟩ := run_nums2 (P := P) (ty := o.type) ht hi hz hsz hby h p c zs hN hlen hbase
  unfold Oper.wp execOp
  simp only [ho, resolve, invoke, builtin, Sem.run_bind, Sem.run_pure, Result.andThen_ok, List.map_toArray, List.map_cons, List.map_nil, hs, hy, hr]
  obtain ⟨p', c', e, -⟩ := h2.que.val
  subst e
  exact hK p' c' w' h2 h3
end

end Go.Proofs.Ytnlohmkgkihldaa.W
