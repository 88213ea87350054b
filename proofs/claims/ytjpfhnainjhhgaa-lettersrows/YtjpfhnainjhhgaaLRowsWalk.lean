/-
  The law LettersRows answers true.
-/
import Derived.Test.YtjpfhnainjhhgaaLRow
namespace Go.Proofs.Ytjpfhnainjhhgaa.W
open Go.ChangeShapes Go.WideShapes Go.ChangeAt Go.RowKit
open Go.Proofs.Ytjpfhnainjhhgaa.N (bs bs_data bs_of bs_size)

/-- the words of texts one behind another -/
def wall : List (List UInt8) → List Int
  | [] => []
  | t :: r => wds t ++ wall r
theorem wall_app (a : List (List UInt8)) (t : List UInt8) : wall (a ++ [t]) = wall a ++ wds t := by
  induction a with
  | nil => simp [wall]
  | cons x r ih => simp [wall, ih]
theorem wall_take {ts : List (List UInt8)} {k : Nat} (hk : k < ts.length) : wall (ts.take k) ++ wds ts[k] = wall (ts.take (k + 1)) := by
  rw [List.take_succ_eq_append_getElem hk, wall_app]
theorem wall_drop {ts : List (List UInt8)} {k : Nat} (hk : k < ts.length) : wall (ts.drop k) = wds ts[k] ++ wall (ts.drop (k + 1)) := by
  rw [List.drop_eq_getElem_cons hk, wall]
theorem wall_len {ts : List (List UInt8)} (h : ∀ t ∈ ts, t.length ≤ 255) : (wall ts).length ≤ 65 * ts.length := by
  induction ts with
  | nil => simp [wall]
  | cons t r ih =>
    have := ih (fun x hx => h x (by simp [hx]))
    have := nw_le (h t (by simp))
    rw [wall, List.length_append, wds_len, List.length_cons]
    omega
theorem wall_u64 {ts : List (List UInt8)} (h : ∀ t ∈ ts, t.length ≤ 255) : ∀ z ∈ wall ts, U64 z := by
  induction ts with
  | nil => simp [wall]
  | cons t r ih =>
    intro z hz
    rcases List.mem_append.1 hz with hz | hz
    · exact wds_u64 (h t (by simp)) z hz
    · exact ih (fun x hx => h x (by simp [hx])) z hz

theorem txt_same (x : List UInt8) : ((bs x).toList == (bs x).toList) = true := beq_self_eq_true _

/-- what is left behind a cut of its first words -/
theorem Que.cutN {base : Nat} {e : TypeId} {k : IntKind} {w : World} {v : Value} {xs ys : List Int} (h : Que base e k w v (xs ++ ys)) (hx : 0 < xs.length) :
    ∃ g off cap, v = .slice (some ⟨g, off, none⟩) (xs.length + ys.length) cap ∧ xs.length + ys.length ≤ cap ∧
      (cap = xs.length → Que base e k w (.slice (some ⟨g, off, none⟩) ys.length (cap - xs.length)) ys) ∧ (cap ≠ xs.length → Que base e k w (.slice (some ⟨g, off + xs.length, none⟩) ys.length (cap - xs.length)) ys) := by
  rcases h with ⟨_, h⟩ | ⟨g, off, cap, cur, rfl, hb, hh, hl, hs, hc⟩
  · have := congrArg List.length h
    rw [List.length_append, List.length_nil] at this
    omega
  · rw [List.length_append] at hl hc
    refine ⟨g, off, cap, by rw [List.length_append], hl, fun h1 => ?_, fun _ => ?_⟩
    · exact Or.inr ⟨g, off, cap - xs.length, cur, rfl, hb, hh, by omega, by omega, fun i hi => by omega⟩
    · refine Or.inr ⟨g, off + xs.length, cap - xs.length, cur, rfl, hb, hh, by omega, by omega, fun i hi => ?_⟩
      have := hc (xs.length + i) (by omega)
      rw [show off + xs.length + i = off + (xs.length + i) by omega, this]
      simp only [List.getD]
      rw [List.getElem?_append_right (by omega), show xs.length + i - xs.length = i by omega]

set_option maxRecDepth 8000 in
set_option maxHeartbeats 4000000 in
theorem rows_walk (p : Option Addr) (cap : Nat) (ts : List (List UInt8)) (w : World) (hR : Row w p cap ts) (hm : ∀ t ∈ ts, t.length ≤ maxLen) :
    Calls Try.prog 5 #[.slice p ts.length cap] w fun e w' => e = .returned (.bool true) ∧ Below w.heap.size w w' := by
  obtain ⟨i0, hi, hz0, hz1, hz2⟩ := info_parts info_word
  have HR := Lib.hid hR
  have HM := Lib.hid hm
  clear hR hm
  go_enter Try.func5, Try.ntmps5
  go_wp2_with (go_at_call 7; ((with_reducible refine (awake_any w).mono ?_); rintro e wa ⟨rfl, ba⟩))
  go_loopw [3, 4] (fun v i W => ∃ k : Nat, k ≤ ts.length ∧ k ≤ 41 ∧ i = .int .i64 k ∧ Hid (∀ t ∈ ts.take k, t.length ≤ 255) ∧ Hid (OwnW w.heap.size W v (wall (ts.take k))) ∧ Below w.heap.size w W) (fun _ i _ => 41 - (intOf i).toNat)
  case atStart => exact ⟨0, by omega, by omega, rfl, Lib.hid (by simp), Lib.hid (by simpa [wall] using ownW_nil), ba⟩
  case round =>
    obtain ⟨k, hk, h41, rfl, HT, HO, hB⟩ := hrel
    by_cases hlt : k < ts.length
    · by_cases h40 : 40 < k
      · go_wp2
        go_ret
        exact ⟨rfl, hB⟩
      obtain ⟨bk, o, rfl, hbk, hc⟩ := (HR.out.below hB).at_ hlt
      have hml := HM.out ts[k] (List.getElem_mem _)
      unfold maxLen at hml
      have HK := Lib.hid (wall_take hlt)
      have hmem : ∀ t ∈ ts.take (k + 1), t ∈ ts.take k ∨ t = ts[k] := fun t ht => by
        rw [List.take_succ_eq_append_getElem hlt] at ht
        rcases List.mem_append.1 ht with h | h
        · exact Or.inl h
        · exact Or.inr (List.mem_singleton.1 h)
      have HE := Lib.hid hmem
      clear hmem
      generalize ts[k] = t at *
      have hsz := bs_size t
      by_cases h255 : 255 < t.length
      · have t1 : decide (((bs t).size : Int) > 255) = true := decide_eq_true (by omega)
        go_wp2
        go_ret
        exact ⟨rfl, hB⟩
      have t1 : decide (((bs t).size : Int) > 255) = false := decide_eq_false (by omega)
      have hw := words_is (bs t) wr (l := t) (n := nw t.length) (by omega) (bs_data t) (by rw [hsz])
      have t2 : (((nw t.length : Nat) : Int) == 1 + (((bs t).size : Int) + 3) / 4) = true := beq_iff_eq.2 (by rw [hsz]; unfold nw; omega)
      have hlw : (wds t).length = nw t.length := wds_len t
      have hall : ∀ u ∈ ts.take (k + 1), u.length ≤ 255 := fun u hu => (HE.out u hu).elim (HT.out u) (fun e => by rw [e]; omega)
      have hN : (wall (ts.take (k + 1))).length ≤ 100000 := by
        have := wall_len hall
        have : (ts.take (k + 1)).length ≤ k + 1 := by simp; omega
        omega
      have HA := Lib.hid hall
      have HN := Lib.hid hN
      have HLw := Lib.hid hlw
      clear hall hN hlw
      have hbs := hB.size
      go_wp2_with (first
        | (go_at_call 8; ((with_reducible refine hw.mono ?_); rintro e w1 ⟨rfl, h1, b1⟩; have HL := Lib.hid (row_lie h1); have HO1 := Lib.hid (HO.out.below b1); clear h1; have hc1 := (b1.cell (p := ⟨bk, o + k, none⟩) hbk).trans hc))
        | (at_builtin; refine wpList_nums rfl _ _ rfl Try.underlying22 hi hz0 hz1 hz2 rfl HO1.out (some ⟨wr.heap.size, 0, none⟩) (nw t.length) (nw t.length) rfl (wds t) HLw.out (nums_of HL.out) (wall (ts.take (k + 1))).length (wall (ts.take (k + 1))) HK.out rfl HN.out (Nat.le_trans hbs b1.size) ?_; intro p2 c2 w2 ho2 _ hg2))
      go_roundw
      case rel => exact ⟨k + 1, by omega, by omega, by go_num, HA, Lib.hid ho2, (hB.trans (b1.mono hbs)).trans (below_grown hg2 (Nat.le_trans hbs b1.size) (fun g hg => (HO1.out.que.lt g hg).1))⟩
      case measure => simp [intOf]; omega
    · obtain rfl : k = ts.length := by omega
      have d : decide ((ts.length : Int) < (ts.length : Int)) = false := decide_eq_false (by omega)
      have hall := HT.out
      have hown := HO.out
      rw [List.take_length] at hall hown
      have HA := Lib.hid hall
      have HQ := Lib.hid hown.que
      clear hall hown HT HO
      go_wp2
      go_loopw [3, 7] (fun v i W => ∃ k : Nat, k ≤ ts.length ∧ i = .int .i64 k ∧ Hid (Que w.heap.size 33 .u64 W v (wall (ts.drop k))) ∧ Below w.heap.size w W) (fun _ i _ => ts.length - (intOf i).toNat)
      case atStart => exact ⟨0, by omega, rfl, HQ, hB⟩
      case round =>
        clear HQ hB
        obtain ⟨k, hk, rfl, HQ, hB⟩ := hrel
        by_cases hlt : k < ts.length
        · obtain ⟨bk, o, rfl, hbk, hc⟩ := (HR.out.below hB).at_ hlt
          have htl := HA.out ts[k] (List.getElem_mem _)
          have hq := HQ.out
          rw [wall_drop hlt] at hq
          have hU : ∀ z ∈ wds ts[k] ++ wall (ts.drop (k + 1)), U64 z := fun z hz => by
            rcases List.mem_append.1 hz with h | h
            · exact wds_u64 htl z h
            · exact wall_u64 (fun t ht => HA.out t (List.mem_of_mem_drop ht)) z h
          generalize ts[k] = t at *
          generalize hRR : wall (ts.drop (k + 1)) = R at *
          have HRR := Lib.hid hRR
          clear hRR
          have HS := txt_same t
          obtain ⟨pv, cp0, hv0, hn0⟩ := hq.val
          have hlw : (wds t).length = nw t.length := wds_len t
          have hp0 := nw_pos t.length
          have hr := read_yes (c := cp0) (a := pv) (w := wr) (fun h0 => hn0 h0) hU (pre_good htl) (pre_txt htl) (pre_rl htl)
          rw [List.length_append, hlw] at hr hv0
          obtain ⟨g, off, cp, hv, hcp, hc1, hc2⟩ := Que.cutN hq (by omega)
          rw [hlw] at hv hcp hc1 hc2
          rw [hv] at hv0
          cases hv0
          subst hv
          have HQ' := Lib.hid hq
          have H1 := Lib.hid hc1
          have H2 := Lib.hid hc2
          clear hq hc1 hc2 HQ hU hn0 hlw
          go_wp2_with (go_at_call 9; ((with_reducible refine hr.mono ?_); rintro e w1 ⟨rfl, b1⟩; have hc1 := (b1.cell (p := ⟨bk, o + k, none⟩) hbk).trans hc))
          go_roundw
          case rel =>
            refine ⟨k + 1, by omega, by go_num, Lib.hid ?_, hB.trans (b1.mono hB.size)⟩
            rw [HRR.out]
            by_cases h1c : cp0 = nw t.length
            · rw [if_pos h1c]
              exact (H1.out h1c).below b1
            · rw [if_neg h1c]
              exact (H2.out h1c).below b1
          case measure => simp [intOf]; omega
        · have d2 : decide ((k : Int) < (ts.length : Int)) = false := decide_eq_false (by omega)
          have hq := HQ.out
          rw [List.drop_eq_nil_of_le (by omega)] at hq
          obtain ⟨pv, cp0, hv0, _⟩ := hq.val
          simp only [wall, List.length_nil] at hv0
          subst hv0
          clear hq
          go_wp2
          go_ret
          exact ⟨rfl, hB⟩

end Go.Proofs.Ytjpfhnainjhhgaa.W
