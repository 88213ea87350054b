/-
  The document's own reader in memory: what word, number and text do to it.
-/
import Derived.Test.YtnlohmkgkihldaaORefWords
namespace Go.Proofs.Ytnlohmkgkihldaa.W
open Go.ChangeShapes Go.WideShapes Go.ChangeAt Go.RowKit
open Go.Proofs.Ytnlohmkgkihldaa.N (bs bs_data bs_of bs_size may may_pos retB)

@[reducible] def RfO (a : Option Addr) (n c p : Nat) (s : Bool) : Obj := .cells #[.slice a n c, .int .i64 (p : Nat), .bool s] 71
/-- the document's reader at b, its words in a block below B -/
def RfAt (B : Nat) (w : World) (b : Nat) (zs : List Int) (s : St) : Prop := ∃ a c, w.heap[b]? = some (RfO a zs.length c s.1 s.2) ∧ NumsIn .u64 w a zs ∧ s.1 ≤ zs.length ∧ (0 < zs.length → ∀ g o, a = some ⟨g, o, none⟩ → g < B)
theorem rf_apart {w : World} {a : Option Addr} {n c p : Nat} {s : Bool} {b : Nat} {zs : List Int} (hh : w.heap[b]? = some (RfO a n c p s)) (hn : NumsIn .u64 w a zs) (h0 : 0 < zs.length) : ∀ o, a ≠ some ⟨b, o, none⟩ := by
  intro o e
  obtain ⟨g, o', e', hc⟩ := hn h0
  rw [e'] at e
  cases e
  have := hc 0 h0
  rw [cell_of_row _ _ _ _ _ _ hh] at this
  match o, this with
  | 0, h => cases h
  | 1, h => cases h
  | 2, h => cases h
  | k + 3, h => simp at h
theorem RfAt.below {B : Nat} {w w' : World} {b : Nat} {zs : List Int} {s : St} (h : RfAt B w b zs s) (hb : Below w.heap.size w w') : RfAt B w' b zs s := by
  obtain ⟨a, c, hh, hn, hs, hB⟩ := h
  exact ⟨a, c, (hb.block b (Array.getElem?_eq_some_iff.1 hh).1).trans hh, hn.below hb, hs, hB⟩
theorem rf_set {w : World} {a : Option Addr} {n c p : Nat} {s : Bool} {b j : Nat} {v : Value} {zs : List Int} (hh : w.heap[b]? = some (RfO a n c p s)) (hn : NumsIn .u64 w a zs) : NumsIn .u64 (w.setCell ⟨b, j, none⟩ v) a zs := fun h0 =>
  (hn.set (rf_apart hh hn h0)) h0
/-- bad, or not, from here on -/
theorem rf_bad {B : Nat} {w : World} {b p : Nat} {s : Bool} {zs : List Int} (h : RfAt B w b zs (p, s)) (t : Bool) : RfAt B (w.setCell ⟨b, 2, none⟩ (.bool t)) b zs (p, t) := by
  obtain ⟨a, c, hh, hn, hs, hB⟩ := h
  exact ⟨a, c, set_row hh 2 _, rf_set hh hn, hs, hB⟩
/-- one further on -/
theorem rf_next {B : Nat} {w : World} {b p : Nat} {s : Bool} {zs : List Int} (h : RfAt B w b zs (p, s)) (hp : p < zs.length) : RfAt B (w.setCell ⟨b, 1, none⟩ (.int .i64 ((p + 1 : Nat) : Int))) b zs (p + 1, s) := by
  obtain ⟨a, c, hh, hn, hs, hB⟩ := h
  exact ⟨a, c, set_row hh 1 _, rf_set hh hn, hp, hB⟩
theorem rf_cells {B : Nat} {w : World} {b p : Nat} {s : Bool} {zs : List Int} (h : RfAt B w b zs (p, s)) : ∃ a c, w.cell? ⟨b, 0, none⟩ = some (.slice a zs.length c) ∧ w.cell? ⟨b, 1, none⟩ = some (.int .i64 (p : Nat)) ∧ w.cell? ⟨b, 2, none⟩ = some (.bool s) ∧ w.frozen? ⟨b, 1, none⟩ = false ∧ w.frozen? ⟨b, 2, none⟩ = false ∧ NumsIn .u64 w a zs ∧ p ≤ zs.length := by
  obtain ⟨a, c, hh, hn, hs, hB⟩ := h
  exact ⟨a, c, by rw [cell_of_row _ _ _ _ _ _ hh]; rfl, by rw [cell_of_row _ _ _ _ _ _ hh]; rfl, by rw [cell_of_row _ _ _ _ _ _ hh]; rfl, by simp [World.frozen?, hh], by simp [World.frozen?, hh], hn, hs⟩
theorem lw_bad (zs : List Int) (p : Nat) : lw zs (p, true) = (0, (p, true)) := rfl
theorem lw_end {zs : List Int} {p : Nat} (h : zs.length ≤ p) : lw zs (p, false) = (0, (p, true)) := by simp [lw, h]
theorem lw_go {zs : List Int} {p : Nat} (h : p < zs.length) : lw zs (p, false) = (zs.getD p 0, (p + 1, false)) := by
  unfold lw
  rw [if_neg (by simp; omega)]

set_option maxHeartbeats 1000000 in
theorem word_rf {B : Nat} {w : World} {b : Nat} {zs : List Int} {s : St} (h : RfAt B w b zs s) (hl : zs.length ≤ 2000) : Calls Try.prog 44 #[RdP b] w fun e w' => e = .returned (.int .u64 (lw zs s).1) ∧ RfAt B w' b zs (lw zs s).2 ∧ w.grownBy w' (some b) := by
  obtain ⟨p, bad⟩ := s
  have H := Lib.hid (fun n => h.below (below_drewN w n))
  obtain ⟨a, c, c0, c1, c2, f1, f2, hn, hp⟩ := rf_cells h
  have HN := Lib.hid hn
  have G := Lib.hid (fun n (v : Value) j => grown_trans (grown_of (below_drewN w n) (some b)) (grown_set (w.drewN n) b j v))
  clear h hn
  cases bad with
  | true =>
    rw [lw_bad]
    go_enter Try.func44, Try.ntmps44
    go_wp2
    go_quiet (fail)
    go_wp2
    go_ret
    exact ⟨rfl, rf_bad (H.out nq) true, G.out nq _ _⟩
  | false =>
    by_cases hlt : p < zs.length
    · rw [lw_go hlt]
      have hd : decide ((p : Int) ≥ (zs.length : Int)) = false := decide_eq_false (by omega)
      have hd2 : decide ((zs.length : Int) ≤ (p : Int)) = false := decide_eq_false (by omega)
      have HX := Lib.hid (fun n => rf_next (H.out n) hlt)
      go_enter Try.func44, Try.ntmps44
      go_wp2
      go_quiet (fail)
      go_wp2
      have X := HX.out nq
      rw [show ((p + 1 : Nat) : Int) = (p : Int) + 1 from rfl] at X
      have GX := Lib.hid (G.out nq (.int .i64 ((p : Int) + 1)) 1)
      obtain ⟨a2, d2, k0, k1, k2, -, -, hn2, -⟩ := rf_cells X
      obtain ⟨g, o, rfl, hcell⟩ := hn2 (by omega)
      have hc := hcell p hlt
      have XX := Lib.hid X
      clear hcell hn2 X c0 c1 c2 f1 f2 HX H G HN
      generalize (w.drewN nq).setCell ⟨b, 1, none⟩ (.int .i64 ((p : Int) + 1)) = W at *
      have i0 : (0 : Int) ≤ (p : Int) := by omega
      have i1 : (p : Int) < (zs.length : Int) := by omega
      rw [show ((p + 1 : Nat) : Int) = (p : Int) + 1 from rfl] at k1
      obtain ⟨x, hx⟩ : ∃ x, zs.getD p 0 = x := ⟨_, rfl⟩
      rw [hx] at hc
      have HXX := Lib.hid hx
      clear hx
      go_quiet (fail)
      go_wp2
      go_ret
      rw [HXX.out]
      exact ⟨rfl, XX.out.below (below_drewN _ _), grown_trans GX.out (grown_of (below_drewN _ _) _)⟩
    · rw [lw_end (by omega)]
      have hd : decide ((p : Int) ≥ (zs.length : Int)) = true := decide_eq_true (by omega)
      have hd2 : decide ((zs.length : Int) ≤ (p : Int)) = true := decide_eq_true (by omega)
      go_enter Try.func44, Try.ntmps44
      go_wp2
      go_quiet (fail)
      go_wp2
      go_ret
      exact ⟨rfl, rf_bad (H.out nq) true, G.out nq _ _⟩

theorem lw_36 {zs : List Int} (hz : W36 zs) (s : St) : 0 ≤ (lw zs s).1 ∧ (lw zs s).1 ≤ 68719476735 := by
  unfold lw
  split
  · exact ⟨Int.le_refl 0, by show (0 : Int) ≤ 68719476735; omega⟩
  · rename_i h
    simp only [Bool.or_eq_true, decide_eq_true_eq, not_or] at h
    have e : zs.getD s.1 0 = zs[s.1]'(by omega) := by simp [List.getD, show s.1 < zs.length by omega]
    simp only [e]
    exact hz _ (List.getElem_mem _)
theorem and18 (x : Int) : bits .and .u64 x 262143 = x % 262144 := by
  have e1 : (BitVec.ofInt 64 x).toNat = (x % 18446744073709551616).toNat := by
    rw [BitVec.toNat_ofInt]; rfl
  have e2 : (BitVec.ofInt 64 (262143 : Int)).toNat = 262143 := by decide
  have e3 : (BitVec.ofInt 64 x &&& BitVec.ofInt 64 (262143 : Int)).toNat = (x % 18446744073709551616).toNat % 262144 := by
    rw [BitVec.toNat_and, e1, e2]
    exact Nat.and_two_pow_sub_one_eq_mod _ 18
  show IntKind.u64.wrap ((BitVec.ofInt 64 x &&& BitVec.ofInt 64 (262143 : Int)).toNat : Int) = _
  rw [e3, IntKind.wrap_u64]
  omega

set_option maxHeartbeats 1000000 in
theorem number_rf {B : Nat} {w : World} {b : Nat} {zs : List Int} {s : St} (h : RfAt B w b zs s) (hl : zs.length ≤ 2000) (hz : W36 zs) : Calls Try.prog 33 #[RdP b] w fun e w' => e = .returned (.int .i64 (ln zs s).1) ∧ RfAt B w' b zs (ln zs s).2 ∧ w.grownBy w' (some b) := by
  have hw := word_rf h hl
  have hx := lw_36 hz s
  have e : ln zs s = ((lw zs s).1 % 262144, ((lw zs s).2.1, (lw zs s).2.2 || decide ((lw zs s).1 > 262143))) := rfl
  rw [e]
  clear e h
  generalize lw zs s = L at *
  obtain ⟨x, p, bad⟩ := L
  simp only at hx hw ⊢
  have hand := and18 x
  have hwr : wrap64 (x % 262144) = x % 262144 := by unfold wrap64; omega
  have HH := Lib.hid hw
  clear hw
  cases bad with
  | true =>
    go_enter Try.func33, Try.ntmps33
    go_wp2_with (go_at_call 44; (refine HH.out.mono ?_); rintro e w1 ⟨rfl, h1, g1⟩; obtain ⟨a, c, c0, c1, c2, f1, f2, -, -⟩ := rf_cells h1; have H1 := Lib.hid h1; clear h1)
    go_ret
    exact ⟨rfl, rf_bad H1.out true, grown_trans g1 (grown_set _ _ _ _)⟩
  | false =>
    by_cases hg : x > 262143
    · have d1 : decide (x > 262143) = true := decide_eq_true hg
      go_enter Try.func33, Try.ntmps33
      go_wp2_with (go_at_call 44; (refine HH.out.mono ?_); rintro e w1 ⟨rfl, h1, g1⟩; obtain ⟨a, c, c0, c1, c2, f1, f2, -, -⟩ := rf_cells h1; have H1 := Lib.hid h1; clear h1)
      go_ret
      rw [d1]
      exact ⟨rfl, rf_bad H1.out true, grown_trans g1 (grown_set _ _ _ _)⟩
    · have d1 : decide (x > 262143) = false := decide_eq_false hg
      go_enter Try.func33, Try.ntmps33
      go_wp2_with (go_at_call 44; (refine HH.out.mono ?_); rintro e w1 ⟨rfl, h1, g1⟩; obtain ⟨a, c, c0, c1, c2, f1, f2, -, -⟩ := rf_cells h1; have H1 := Lib.hid h1; clear h1)
      go_ret
      rw [d1]
      exact ⟨rfl, rf_bad H1.out false, grown_trans g1 (grown_set _ _ _ _)⟩

theorem ln_bd (zs : List Int) (s : St) : 0 ≤ (ln zs s).1 ∧ (ln zs s).1 ≤ 262143 := by
  have e : (ln zs s).1 = (lw zs s).1 % 262144 := rfl
  rw [e]
  omega
theorem lt_long {zs : List Int} {s : St} (h : (ln zs s).1 > 255) : lt zs s = ([], ((ln zs s).2.1, true)) := by unfold lt; rw [if_pos h]
theorem lt_short {zs : List Int} {s : St} {m : Nat} (h : (ln zs s).1 = (m : Int)) (hm : m ≤ 255) : lt zs s = ltK zs m (ln zs s).2 ((m + 3) / 4) := by
  unfold lt
  rw [if_neg (by omega), h, Int.toNat_natCast]
/-- one byte, as the text that it makes -/
theorem byt_str {x : Int} (h0 : 0 ≤ x) {k : Nat} {u : Int} (hu : u = x / 2 ^ (27 - 9 * k) % 256) : strOfNums [u] = bs [byt x k] := by
  obtain ⟨n, rfl⟩ := Int.eq_ofNat_of_zero_le h0
  subst hu
  unfold strOfNums bs byt
  have e : ((n : Int) / 2 ^ (27 - 9 * k) % 256).toNat = n / 2 ^ (27 - 9 * k) % 256 := by
    have : ((n : Int) / 2 ^ (27 - 9 * k) % 256) = ((n / 2 ^ (27 - 9 * k) % 256 : Nat) : Int) := by simp
    rw [this, Int.toNat_natCast]
  simp only [List.map_cons, List.map_nil, e, Int.toNat_natCast]
theorem bs_plus (x y : List UInt8) : bs x ++ bs y = bs (x ++ y) := by
  rw [← bs_of (bs x ++ bs y)]
  congr 1
theorem fourK_in {n i : Nat} {x : Int} {k : Nat} (h : i + k < n) : fourK n i x (k + 1) = fourK n i x k ++ [byt x k] := by rw [fourK, if_pos h]
theorem fourK_out {n i : Nat} {x : Int} {k : Nat} (h : ¬ i + k < n) : fourK n i x (k + 1) = fourK n i x k := by rw [fourK, if_neg h, List.append_nil]
theorem fourK_len (n i : Nat) (x : Int) : ∀ k, (fourK n i x k).length ≤ k
  | 0 => Nat.le_refl _
  | k + 1 => by
    have := fourK_len n i x k
    rw [fourK, List.length_append]
    split <;> simp <;> omega
theorem ltK_len (zs : List Int) (n : Nat) (s : St) : ∀ j, (ltK zs n s j).1.length ≤ 4 * j
  | 0 => Nat.le_refl _
  | j + 1 => by
    have h1 := ltK_len zs n s j
    have h2 := fourK_len n (4 * j) (lw zs (ltK zs n s j).2).1 4
    rw [ltK, List.length_append]
    omega
theorem lt_len (zs : List Int) (s : St) : (lt zs s).1.length ≤ 260 := by
  unfold lt
  split
  · simp
  · have h1 := ltK_len zs (ln zs s).1.toNat (ln zs s).2 (((ln zs s).1.toNat + 3) / 4)
    have h2 := (ln_bd zs s).1
    omega
theorem byt_conv (w : World) (u : Int) : (convert 52 9 (.slice (some ⟨w.heap.size, 0, none⟩) 1 1)).run Try.prog (w.alloc (.cells #[.int .u8 u] 5)) = .ok (.string (strOfNums [u])) (w.alloc (.cells #[.int .u8 u] 5)) := by
  refine run_convert_bytes_arg _ 52 5 Try.underlying52 Try.underlying5 w.heap.size 0 1 1 [u] rfl (fun i hi => ?_) 9 Try.underlying9
  rw [cell_of_row _ _ _ _ _ _ (heap_alloc_new w _)]
  obtain rfl : i = 0 := by omega
  rfl

set_option maxRecDepth 8000 in
set_option maxHeartbeats 2000000 in
theorem text_rf {B : Nat} {w : World} {b : Nat} {zs : List Int} {s : St} (h : RfAt B w b zs s) (hl : zs.length ≤ 2000) (hz : W36 zs) : Calls Try.prog 32 #[RdP b] w fun e w' => e = .returned (.string (bs (lt zs s).1)) ∧ RfAt B w' b zs (lt zs s).2 ∧ w.grownBy w' (some b) := by
  have hn := Lib.hid (number_rf h hl hz)
  have HL := Lib.hid hl
  have HZ := Lib.hid hz
  obtain ⟨b0, b1⟩ := ln_bd zs s
  clear h hl hz
  by_cases hg : (ln zs s).1 > 255
  · rw [lt_long hg]
    have d1 : decide ((ln zs s).1 > 255) = true := decide_eq_true hg
    generalize ln zs s = L at *
    obtain ⟨n, p, bad⟩ := L
    simp only at hn d1 b0 b1
    go_enter Try.func32, Try.ntmps32
    go_wp2_with (go_at_call 33; (refine hn.out.mono ?_); rintro e w1 ⟨rfl, h1, g1⟩; obtain ⟨a, c, c0, c1, c2, f1, f2, -, -⟩ := rf_cells h1; have H1 := Lib.hid h1; clear h1)
    go_ret
    exact ⟨rfl, rf_bad H1.out true, grown_trans g1 (grown_set _ _ _ _)⟩
  · obtain ⟨m, hm⟩ := Int.eq_ofNat_of_zero_le b0
    have hm2 : m ≤ 255 := by omega
    rw [lt_short hm hm2]
    rw [hm] at hn
    have d1 : decide ((m : Int) > 255) = false := decide_eq_false (by omega)
    generalize (ln zs s).2 = S at *
    clear hm b0 b1 hg
    go_enter Try.func32, Try.ntmps32
    go_wp2_with (go_at_call 33; (refine hn.out.mono ?_); rintro e w1 ⟨rfl, h1, g1⟩; have H1 := Lib.hid h1; have G1 := Lib.hid g1; clear h1 g1)
    go_loopw [4, 5] (fun v i W => ∃ j : Nat, j ≤ (m + 3) / 4 ∧ i = .int .i64 ((4 * j : Nat) : Int) ∧ v = .string (bs (ltK zs m S j).1) ∧ Hid (RfAt B W b zs (ltK zs m S j).2) ∧ Hid (w.grownBy W (some b))) (fun _ i _ => 260 - (intOf i).toNat)
    case atStart => exact ⟨0, Nat.zero_le _, rfl, rfl, H1, G1⟩
    case round =>
      clear H1 G1
      obtain ⟨j, hj, rfl, rfl, H1, G1⟩ := hrel
      by_cases hlt : 4 * j < m
      · have hw := Lib.hid (word_rf H1.out HL.out)
        have hx := lw_36 HZ.out (ltK zs m S j).2
        have HT := Lib.hid (show ltK zs m S (j + 1) = ((ltK zs m S j).1 ++ fourK m (4 * j) (lw zs (ltK zs m S j).2).1 4, (lw zs (ltK zs m S j).2).2) from rfl)
        have d2 : decide (((4 * j : Nat) : Int) < (m : Int)) = true := decide_eq_true (by omega)
        have hpre := Lib.hid (Nat.le_trans (ltK_len zs m S j) (show 4 * j ≤ 260 by omega))
        generalize (ltK zs m S j).1 = pre at *
        generalize lw zs (ltK zs m S j).2 = X at *
        obtain ⟨x, T⟩ := X
        simp only at hw hx HT
        obtain ⟨i, hi⟩ : ∃ i : Nat, 4 * j = i := ⟨_, rfl⟩
        rw [hi] at hlt HT
        simp only [hi] at d2 ⊢
        have HI := Lib.hid hi
        clear hi
        go_wp2_with (go_at_call 44; (refine hw.out.mono ?_); rintro e w2 ⟨rfl, h2, g2⟩; have H2 := Lib.hid h2; have G2 := Lib.hid (grown_trans G1.out g2); clear h2 g2)
        go_loopw [4, 7] (fun v q W => ∃ k : Nat, k ≤ 4 ∧ q = .int .i64 (k : Nat) ∧ v = .string (bs (pre ++ fourK m i x k)) ∧ Hid (RfAt B W b zs T) ∧ Hid (w.grownBy W (some b))) (fun _ q _ => 4 - (intOf q).toNat)
        case atStart => exact ⟨0, Nat.zero_le _, rfl, by simp [fourK], H2, G2⟩
        case round =>
          clear H2 G2
          obtain ⟨k, hk, rfl, rfl, H2, G2⟩ := hrel
          by_cases h4 : k < 4
          · by_cases hin : i + k < m
            · have hstr := fourK_in (n := m) (i := i) (x := x) (k := k) hin
              have d3 : decide (((i : Int) + (k : Int)) < (m : Int)) = true := decide_eq_true (by omega)
              have HS := Lib.hid hstr
              clear hstr
              have hsz : ¬ (9223372036854775807 < (bs (pre ++ fourK m i x k)).size + (bs [byt x k]).size) := by
                have h1 := hpre.out
                have h2 := fourK_len m i x k
                rw [bs_size, bs_size, List.length_append, List.length_singleton]
                omega
              have W2 := Lib.hid (fun u => one_new wr (.cells #[.int .u8 u] 5))
              obtain rfl | rfl | rfl | rfl : k = 0 ∨ k = 1 ∨ k = 2 ∨ k = 3 := by omega
              · have hcv := byt_conv wr (x / 134217728 % 256)
                rw [byt_str hx.1 (k := 0) (by rw [show (2 : Int) ^ (27 - 9 * 0) = 134217728 from rfl])] at hcv
                rw [show ((0 : Nat) : Int) = 0 from rfl] at d3
                try rw [show ((0 : Nat) : Int) = 0 from rfl]
                go_wp2
                go_roundw
                case rel => exact ⟨1, by omega, by go_num, by rw [HS.out, ← List.append_assoc, bs_plus], H2.out.below (W2.out _) |> Lib.hid, Lib.hid (grown_trans G2.out (grown_of (W2.out _) _))⟩
                case measure => simp [intOf]
              · have hcv := byt_conv wr (x / 262144 % 256)
                rw [byt_str hx.1 (k := 1) (by rw [show (2 : Int) ^ (27 - 9 * 1) = 262144 from rfl])] at hcv
                rw [show ((1 : Nat) : Int) = 1 from rfl] at d3
                try rw [show ((1 : Nat) : Int) = 1 from rfl]
                go_wp2
                go_roundw
                case rel => exact ⟨2, by omega, by go_num, by rw [HS.out, ← List.append_assoc, bs_plus], H2.out.below (W2.out _) |> Lib.hid, Lib.hid (grown_trans G2.out (grown_of (W2.out _) _))⟩
                case measure => simp [intOf]
              · have hcv := byt_conv wr (x / 512 % 256)
                rw [byt_str hx.1 (k := 2) (by rw [show (2 : Int) ^ (27 - 9 * 2) = 512 from rfl])] at hcv
                rw [show ((2 : Nat) : Int) = 2 from rfl] at d3
                try rw [show ((2 : Nat) : Int) = 2 from rfl]
                go_wp2
                go_roundw
                case rel => exact ⟨3, by omega, by go_num, by rw [HS.out, ← List.append_assoc, bs_plus], H2.out.below (W2.out _) |> Lib.hid, Lib.hid (grown_trans G2.out (grown_of (W2.out _) _))⟩
                case measure => simp [intOf]
              · have hcv := byt_conv wr (x % 256)
                rw [byt_str hx.1 (k := 3) (by rw [show (2 : Int) ^ (27 - 9 * 3) = 1 from rfl, Int.ediv_one])] at hcv
                rw [show ((3 : Nat) : Int) = 3 from rfl] at d3
                try rw [show ((3 : Nat) : Int) = 3 from rfl]
                go_wp2
                go_roundw
                case rel => exact ⟨4, by omega, by go_num, by rw [HS.out, ← List.append_assoc, bs_plus], H2.out.below (W2.out _) |> Lib.hid, Lib.hid (grown_trans G2.out (grown_of (W2.out _) _))⟩
                case measure => simp [intOf]
            · have hstr := fourK_out (n := m) (i := i) (x := x) (k := k) hin
              have HS := Lib.hid hstr
              have d3 : decide (((i : Int) + (k : Int)) < (m : Int)) = false := decide_eq_false (by omega)
              clear hstr
              go_wp2
              go_roundw
              case rel => exact ⟨k + 1, by omega, by go_num, by rw [HS.out], H2, G2⟩
              case measure => simp [intOf]; omega
          · obtain rfl : k = 4 := by omega
            rw [show ((4 : Nat) : Int) = 4 from rfl]
            go_wp2
            go_roundw
            case rel => exact ⟨j + 1, by have := HI.out; omega, by have := HI.out; go_num, by rw [HT.out], by rw [HT.out]; exact H2, G2⟩
            case measure => simp [intOf]; omega
      · have hje : j = (m + 3) / 4 := by omega
        have d2 : decide (((4 * j : Nat) : Int) < (m : Int)) = false := decide_eq_false (by omega)
        subst hje
        go_wp2
        go_ret
        exact ⟨rfl, H1.out, G1.out⟩

end Go.Proofs.Ytnlohmkgkihldaa.W
