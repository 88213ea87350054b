/-
  The law RulesKinds answers true.
-/
import Derived.Test.YtpcdcmoapenbdaaDoorRuAwake
import Derived.Test.YtpcdcmoapenbdaaDoorTKept
namespace Go.Proofs.YtpcdcmoapenbdaaDoor.T
open Go.ChangeShapes Go.WideShapes Go.ChangeAt Go.RowKit
open Go.Proofs.YtpcdcmoapenbdaaDoor.N (bs bs_data bs_size bs_inj bs_of Glob)
open Go.Proofs.YtpcdcmoapenbdaaDoor.A (Tm TRow)

/-! ### the hierarchy, directory by directory -/

def inB (x y z : Bool) (k : Nat) : Bool := match k with
  | 0 => x
  | 1 => y
  | _ => z
def nmP (k : Nat) : Txt := [112 + UInt8.ofNat k]
def LK (p : Nat → Bool) : Nat → Int → Txt → Option Br
  | 0 => noL
  | k + 1 => if p k then updL (updL (LK p k) 0 (nmP k) (dirN ((k : Int) + 1))) ((k : Int) + 1) [115] (litB 1 (10 + (k : Int)) ⟨#[]⟩) else updL (LK p k) 0 (nmP k) (dirN ((k : Int) + 1))
def DK : Nat → Int → Bool
  | 0 => rootD
  | k + 1 => fun d' => decide (d' = (k : Int) + 1) || DK k d'
def UK (p : Nat → Bool) : Nat → Int → Bool
  | 0 => fun _ => false
  | k + 1 => if p k then fun u' => decide (u' = 10 + (k : Int)) || UK p k u' else UK p k

theorem k_facts (x y z : Bool) {k : Nat} (hk : k < 3) : N.may 32 (nmP k) = true ∧ LK (inB x y z) k 0 (nmP k) = none ∧ DK k 0 = true ∧ updL (LK (inB x y z) k) 0 (nmP k) (dirN ((k : Int) + 1)) ((k : Int) + 1) [115] = none ∧ UK (inB x y z) k (10 + (k : Int)) = false := by
  obtain rfl | rfl | rfl : k = 0 ∨ k = 1 ∨ k = 2 := by omega
  · exact ⟨by decide, rfl, rfl, rfl, rfl⟩
  · cases x <;> exact ⟨by decide, rfl, rfl, rfl, rfl⟩
  · cases x <;> cases y <;> exact ⟨by decide, rfl, rfl, rfl, rfl⟩

theorem p_val {k : Nat} (hk : k < 3) : ((112 + UInt8.ofNat k : UInt8).toNat : Int) = 112 + (k : Int) := by
  obtain rfl | rfl | rfl : k = 0 ∨ k = 1 ∨ k = 2 := by omega
  all_goals rfl
theorem conv_p (w : World) {k : Nat} (hk : k < 3) : (convert 56 9 (.slice (some ⟨w.heap.size, 0, none⟩) 1 1)).run Tryd.prog (w.alloc (.cells #[.int .u8 (112 + (k : Int))] 5)) = .ok (.string (bs (nmP k))) (w.alloc (.cells #[.int .u8 (112 + (k : Int))] 5)) := by
  refine run_convert_bytes_back _ 56 9 5 ⟨w.heap.size, 0, none⟩ 1 [112 + UInt8.ofNat k] Tryd.underlying56 Tryd.underlying5 Tryd.underlying9 (fun j hj => ?_)
  obtain rfl : j = 0 := by simp at hj; omega
  rw [Addr.add_lit, cell_of_row _ _ _ _ _ _ (heap_alloc_new w _)]
  have := p_val hk
  simp only [List.getElem_cons_zero, this]
  rfl

/-! ### the rules, in some order -/

def kin (k : Nat) : Ru := match k with
  | 0 => ⟨1, []⟩
  | 1 => ⟨2, []⟩
  | _ => ⟨3, [62, 114]⟩
def kins : List Ru := [⟨1, []⟩, ⟨2, []⟩, ⟨3, [62, 114]⟩]
theorem kin_row (w : World) : G.Row kR (w.alloc (.cells #[.int .i64 1, .string ⟨#[]⟩, .int .i64 2, .string ⟨#[]⟩, .int .i64 3, .string ⟨#[62, 114]⟩] 40)) (some ⟨w.heap.size, 0, none⟩) 3 kins := row_lit w kins
def idx (o k : Nat) : Nat := (k * 2 + o) % 3
theorem idx_lt (o k : Nat) : idx o k < 3 := Nat.mod_lt _ (by omega)
def lstO (o : Nat) : Nat → List Ru
  | 0 => []
  | k + 1 => lstO o k ++ [kin (idx o k)]
def wantO (p : Nat → Bool) (o : Nat) : Nat → Int
  | 0 => 0
  | k + 1 => if wantO p o k = 0 ∧ p (idx o k) = true then 10 + (idx o k : Int) else wantO p o k
theorem lstO_len (o : Nat) : ∀ k, (lstO o k).length = k
  | 0 => rfl
  | k + 1 => by rw [lstO, List.length_append, lstO_len o k]; rfl
theorem kins_at {j : Nat} (hj : j < 3) : kins[j]'hj = kin j := by
  obtain rfl | rfl | rfl : j = 0 ∨ j = 1 ∨ j = 2 := by omega
  all_goals rfl
theorem idx_mod (o k : Nat) : idx o k = idx (o % 3) k := by unfold idx; omega
theorem lst_mod (o : Nat) : ∀ k, lstO o k = lstO (o % 3) k
  | 0 => rfl
  | k + 1 => by rw [lstO, lstO, lst_mod o k, idx_mod]
theorem want_mod (p : Nat → Bool) (o : Nat) : ∀ k, wantO p o k = wantO p (o % 3) k
  | 0 => rfl
  | k + 1 => by rw [wantO, wantO, want_mod p o k, idx_mod]
theorem lst_ok (o : Nat) : ∀ r ∈ lstO o 3, r.Ok := by
  have h3 : o % 3 < 3 := Nat.mod_lt _ (by omega)
  rw [lst_mod]
  generalize o % 3 = r at h3
  obtain rfl | rfl | rfl : r = 0 ∨ r = 1 ∨ r = 2 := by omega
  all_goals exact okL _ rfl
theorem fin_find (x y z : Bool) (o : Nat) :
    findR (LK (inB x y z) 3) (lstO o 3) (⟨#[62, 113]⟩ : ByteArray).data.toList 1 (⟨#[115]⟩ : ByteArray).data.toList = (if wantO (inB x y z) o 3 = 0 then (4, noBr) else (0, litB 1 (wantO (inB x y z) o 3) ⟨#[]⟩)) ∧
    findR (LK (inB x y z) 3) (lstO o 3) (⟨#[62, 110, 111, 110, 101]⟩ : ByteArray).data.toList (-1) (⟨#[115]⟩ : ByteArray).data.toList = (if z = true then (0, litB 1 12 ⟨#[]⟩) else (4, noBr)) := by
  have h3 : o % 3 < 3 := Nat.mod_lt _ (by omega)
  rw [lst_mod, want_mod]
  generalize o % 3 = r at h3
  obtain rfl | rfl | rfl : r = 0 ∨ r = 1 ∨ r = 2 := by omega
  all_goals
    cases x <;> cases y <;> cases z <;> exact ⟨by rfl, by rfl⟩

theorem one_rule (w : World) (r : Ru) : G.Row kR (w.alloc (RuO r)) (some ⟨w.heap.size, 0, none⟩) 1 [r] := row_lit w [r]
theorem kin_at {V : World} {q : Nat} (h : G.Row kR V (some ⟨q, 0, none⟩) 3 kins) {j : Nat} (hj : j < 3) : q < V.heap.size ∧ V.cell? ⟨q, j * 2, none⟩ = some (.int .i64 (kin j).kind) ∧ V.cell? ⟨q, j * 2 + 1, none⟩ = some (.string (bs (kin j).path)) := by
  obtain ⟨bk, o, e, hl, c0, c1⟩ := row_rule h (k := j) hj
  cases e
  rw [Nat.zero_add] at c0 c1
  rw [kins_at hj] at c0 c1
  exact ⟨hl, c0, c1⟩
theorem want_in {p : Nat → Bool} {o k : Nat} (h0 : wantO p o k = 0) (hp : p (idx o k) = true) : wantO p o (k + 1) = 10 + (idx o k : Int) := by rw [wantO, if_pos ⟨h0, hp⟩]
theorem want_out {p : Nat → Bool} {o k : Nat} (h : ¬ (wantO p o k = 0 ∧ p (idx o k) = true)) : wantO p o (k + 1) = wantO p o k := by rw [wantO, if_neg h]
theorem idx_rem (o k : Nat) : ((k : Int) * 2 + (o : Int)).tmod 3 = ((idx o k : Nat) : Int) := by
  unfold idx
  rw [show ((k : Int) * 2 + (o : Int)) = ((k * 2 + o : Nat) : Int) by omega]
  rfl

@[reducible] def iv (n : Int) : Value := .int .i64 n
/-- the tree behind k directories, with the law's own array -/
def KD (p : Nat → Bool) (w1 V : World) (b bd k : Nat) : Prop := ∃ M : Nat → Int, (0 < k → M 0 = 1) ∧ HasA iv 55 3 w1 V b bd M (9 * k) (Sees (LK p k) (DK k) k (UK p k))
theorem KD.below {p : Nat → Bool} {w1 V V' : World} {b bd k : Nat} (h : KD p w1 V b bd k) (hb : Below V.heap.size V V') : KD p w1 V' b bd k := by
  obtain ⟨M, h1, h2⟩ := h
  exact ⟨M, h1, h2.below hb⟩

theorem LK_yes {p : Nat → Bool} {k : Nat} (h : p k = true) : LK p (k + 1) = updL (updL (LK p k) 0 (nmP k) (dirN ((k : Int) + 1))) ((k : Int) + 1) [115] (litB 1 (10 + (k : Int)) ⟨#[]⟩) ∧ UK p (k + 1) = fun u' => decide (u' = 10 + (k : Int)) || UK p k u' := by simp [LK, UK, h]
theorem LK_no {p : Nat → Bool} {k : Nat} (h : p k = false) : LK p (k + 1) = updL (LK p k) 0 (nmP k) (dirN ((k : Int) + 1)) ∧ UK p (k + 1) = UK p k := by simp [LK, UK, h]
theorem up_zero {M : Nat → Int} {k : Nat} (h : 0 < k → M 0 = 1) : 0 < k + 1 → upA M k ((k : Int) + 1) 0 = 1 := fun _ => by
  by_cases e : k = 0
  · subst e; exact upA_same _ _ _
  · rw [upA_other _ _ (fun h => e h.symm)]; exact h (by omega)
theorem KD.yes {p : Nat → Bool} {w1 V : World} {b bd k : Nat} {M : Nat → Int} (hM : 0 < k → M 0 = 1) (h : p k = true) (hA : HasA iv 55 3 w1 V b bd (upA M k ((k : Int) + 1)) (9 * k + 5 + 4) (Sees (updL (updL (LK p k) 0 (nmP k) (dirN ((k : Int) + 1))) ((k : Int) + 1) [115] (litB 1 (10 + (k : Int)) ⟨#[]⟩)) (fun d' => decide (d' = (k : Int) + 1) || DK k d') ((k : Int) + 1) (fun u' => decide (u' = 10 + (k : Int)) || UK p k u'))) : KD p w1 V b bd (k + 1) := by
  refine ⟨_, up_zero hM, ?_⟩
  rw [(LK_yes h).1, (LK_yes h).2]
  exact hA.mono (by omega)
theorem KD.no {p : Nat → Bool} {w1 V : World} {b bd k : Nat} {M : Nat → Int} (hM : 0 < k → M 0 = 1) (h : p k = false) (hA : HasA iv 55 3 w1 V b bd (upA M k ((k : Int) + 1)) (9 * k + 5) (Sees (updL (LK p k) 0 (nmP k) (dirN ((k : Int) + 1))) (fun d' => decide (d' = (k : Int) + 1) || DK k d') ((k : Int) + 1) (UK p k))) : KD p w1 V b bd (k + 1) := by
  refine ⟨_, up_zero hM, ?_⟩
  rw [(LK_no h).1, (LK_no h).2]
  exact hA.mono (by omega)

theorem DK_s (k : Nat) : (fun d' => decide (d' = (k : Int) + 1) || DK k d') ((k : Int) + 1) = true := by simp
theorem seg_s {w0 V : World} {b bd c : Nat} {M : Nat → Int} {L : Int → Txt → Option Br} {D : Int → Bool} {la : Int} {U : Int → Bool} (h : HasA iv 55 3 w0 V b bd M c (Sees L D la U)) (d u : Int) (hd : rng d) (hD : D d = true) (hn : L d [115] = none) (hu : 1 ≤ u) (hu' : u ≤ 9223372036854775807) (hU : U u = false) (hc : c < 10000) :
    Calls Tryd.prog 18 #[TP b, .int .i64 d, .string ⟨#[115]⟩, LitV 1 u ⟨#[]⟩] V fun e w' => e = .returned (.tuple #[.int .i64 0, .int .i64 0]) ∧ HasA iv 55 3 w0 w' b bd M (c + 4) (Sees (updL L d [115] (litB 1 u ⟨#[]⟩)) D la (fun u' => decide (u' = u) || U u')) :=
  hasA_seg h d [115] u hd hD (by decide) hn hu hu' hU hc

set_option maxHeartbeats 4000000 in
set_option maxRecDepth 20000 in
theorem rulesKinds_walk {w : World} (hg : Glob w) (x y z : Bool) (o : Nat) (ho : o ≤ 255) : Calls Tryd.prog 6 #[.agg #[.bool x, .bool y, .bool z], .int .u8 o] w fun e w' => e = .returned (.bool true) ∧ Below w.heap.size w w' := by
  have HG := Lib.hid hg
  clear hg
  have HX : Hid (∀ k, k < 3 → (w.alloc (.cells #[.bool x, .bool y, .bool z] 54)).cell? ⟨w.heap.size, k, none⟩ = some (.bool (inB x y z k))) := Lib.hid (fun k hk => by
    rw [cell_of_row _ _ _ _ _ _ (heap_alloc_new w _)]
    obtain rfl | rfl | rfl : k = 0 ∨ k = 1 ∨ k = 2 := by omega
    all_goals rfl)
  go_enter Tryd.func6, Tryd.ntmps6
  go_wp2_with (first
    | (go_at_call 7; ((refine (awake14_any (HG.out.below (one_new w (.cells #[.bool x, .bool y, .bool z] 54)))).mono ?_); rintro e w1 ⟨rfl, b1⟩; have B1 := Lib.hid b1; clear b1))
    | (go_at_call 9; ((refine (has_new w1).mono ?_); rintro e w2 ⟨rfl, h2, l2⟩; have H2 := Lib.hid (HasA.new h2 iv 55 3 0 #[.int .i64 0, .int .i64 0, .int .i64 0] rfl); clear h2)))
  have HB : Hid (Below w.heap.size w w1) := Lib.hid (bel2 (one_new _ _) B1.out)
  have HX1 : Hid (∀ k, k < 3 → w1.cell? ⟨w.heap.size, k, none⟩ = some (.bool (inB x y z k))) := Lib.hid (fun k hk => (B1.out.cell (p := ⟨w.heap.size, k, none⟩) (by simp)).trans (HX.out k hk))
  have HL : Hid (w.heap.size < w1.heap.size) := Lib.hid (Nat.lt_of_lt_of_le (by simp) B1.out.size)
  have HG1 := Lib.hid (HG.out.below HB.out)
  clear HX B1 HG
  have K2 : Hid (KD (inB x y z) w1 (w2.alloc (.cells #[.int .i64 0, .int .i64 0, .int .i64 0] 55)) w1.heap.size w2.heap.size 0) := Lib.hid ⟨_, fun h => absurd h (by omega), H2.out⟩
  clear H2
  go_loopw [7] (fun i V => ∃ k : Nat, k ≤ 3 ∧ i = .int .i64 k ∧ Hid (KD (inB x y z) w1 V w1.heap.size w2.heap.size k)) (fun i _ => 3 - (intOf i).toNat)
  case atStart => exact ⟨0, by omega, rfl, K2⟩
  case round =>
    clear K2
    obtain ⟨k, hk, rfl, hK⟩ := hrel
    by_cases hlt : k < 3
    · obtain ⟨M, hM, hA⟩ := hK.out
      have HM := Lib.hid hM
      have HA := Lib.hid hA
      clear hM hA
      obtain ⟨q1, q2, q3, q4, q5⟩ := k_facts x y z hlt
      have Q1 := Lib.hid q1
      have Q2 := Lib.hid q2
      have Q3 := Lib.hid q3
      have Q4 := Lib.hid q4
      have Q5 := Lib.hid q5
      have hc := conv_p wr hlt
      have RK : Hid (rng ((k : Int) + 1)) := Lib.hid ⟨by omega, by omega⟩
      clear q1 q2 q3 q4 q5
      cases hp : inB x y z k with
      | true =>
        have HP := Lib.hid hp
        clear hp
        go_wp2_with (first
          | (go_at_call 18; ((with_reducible refine (hasA_dir (HA.out.below (one_new _ _)) 0 (nmP k) rng0 Q3.out Q1.out Q2.out (lb := (k : Int) + 1) rfl (by omega)).mono ?_); rintro e w3 ⟨rfl, h3⟩; have f3 := h3.arr.fz k; have q3 := h3.arr.cell hlt; have l3 := h3.arr.lt; have H3 := Lib.hid (h3.put k ((k : Int) + 1)); have c0 : (w3.setCell ⟨w2.heap.size, k, none⟩ (iv ((k : Int) + 1))).cell? ⟨w.heap.size, k, none⟩ = some (.bool true) := (H3.out.bel.cell (p := ⟨w.heap.size, k, none⟩) HL.out).trans ((HX1.out k hlt).trans (by rw [HP.out])); have c1 : w3.cell? ⟨w.heap.size, k, none⟩ = some (.bool true) := (h3.bel.cell (p := ⟨w.heap.size, k, none⟩) HL.out).trans ((HX1.out k hlt).trans (by rw [HP.out])); clear h3))
          | (go_at_call 18; ((with_reducible refine (seg_s H3.out ((k : Int) + 1) (10 + (k : Int)) RK.out (DK_s k) Q4.out (by omega) (by omega) Q5.out (by omega)).mono ?_); rintro e w5 ⟨rfl, h5⟩; have K5 := Lib.hid (KD.yes HM.out HP.out h5); clear h5)))
        go_roundw
        case rel => exact ⟨k + 1, by omega, by go_num, K5⟩
        case measure => simp [intOf]; omega
      | false =>
        have HP := Lib.hid hp
        clear hp
        go_wp2_with (first
          | (go_at_call 18; ((with_reducible refine (hasA_dir (HA.out.below (one_new _ _)) 0 (nmP k) rng0 Q3.out Q1.out Q2.out (lb := (k : Int) + 1) rfl (by omega)).mono ?_); rintro e w3 ⟨rfl, h3⟩; have f3 := h3.arr.fz k; have q3 := h3.arr.cell hlt; have l3 := h3.arr.lt; have H3 := Lib.hid (h3.put k ((k : Int) + 1)); have c0 : (w3.setCell ⟨w2.heap.size, k, none⟩ (iv ((k : Int) + 1))).cell? ⟨w.heap.size, k, none⟩ = some (.bool false) := (H3.out.bel.cell (p := ⟨w.heap.size, k, none⟩) HL.out).trans ((HX1.out k hlt).trans (by rw [HP.out])); have c1 : w3.cell? ⟨w.heap.size, k, none⟩ = some (.bool false) := (h3.bel.cell (p := ⟨w.heap.size, k, none⟩) HL.out).trans ((HX1.out k hlt).trans (by rw [HP.out])); have K5 := Lib.hid (KD.no HM.out HP.out H3.out); clear h3)))
        go_roundw
        case rel => exact ⟨k + 1, by omega, by go_num, K5⟩
        case measure => simp [intOf]; omega
    · obtain rfl : k = 3 := by omega
      clear hk hlt
      have hkr := kin_row wr
      rw [show ((3 : Nat) : Int) = 3 from rfl]
      have KW := Lib.hid (hK.out.below (one_new wr (.cells #[.int .i64 1, .string ⟨#[]⟩, .int .i64 2, .string ⟨#[]⟩, .int .i64 3, .string ⟨#[62, 114]⟩] 40)))
      have HKR := Lib.hid hkr
      clear hK hkr
      go_upto_region 17 with (fail)
      generalize wr.alloc (.cells #[.int .i64 1, .string ⟨#[]⟩, .int .i64 2, .string ⟨#[]⟩, .int .i64 3, .string ⟨#[62, 114]⟩] 40) = W at KW HKR ⊢
      generalize wr.heap.size = q at HKR ⊢
      obtain ⟨M, hM, hA⟩ := KW.out
      have HM := hM (by omega)
      have HA := Lib.hid hA
      clear KW hM hA
      have HXW : Hid (∀ k, k < 3 → W.cell? ⟨w.heap.size, k, none⟩ = some (.bool (inB x y z k))) := Lib.hid (fun k hk => (HA.out.bel.cell (p := ⟨w.heap.size, k, none⟩) HL.out).trans (HX1.out k hk))
      have HLW : Hid (w.heap.size < W.heap.size) := Lib.hid (Nat.lt_of_lt_of_le HL.out HA.out.bel.size)
      have HBW : Hid (Below w.heap.size w W) := Lib.hid (bel2 HB.out HA.out.bel)
      clear HX1 HL HB
      go_wp2
      go_loopw [11, 12, 13] (fun v n i V => ∃ k : Nat, k ≤ 3 ∧ i = .int .i64 k ∧ n = .int .i64 (wantO (inB x y z) o k) ∧ Hid (G.Own kR W.heap.size V v (lstO o k)) ∧ Hid (Below W.heap.size W V)) (fun _ _ i _ => 3 - (intOf i).toNat)
      case atStart => exact ⟨0, by omega, rfl, rfl, Lib.hid (G.Own.nil _ _), Lib.hid (Below.refl _ _)⟩
      case round =>
        obtain ⟨k, hk, rfl, rfl, hO, hB⟩ := hrel
        by_cases hlt : k < 3
        · have hidx := idx_rem o k
          have hj := idx_lt o k
          obtain ⟨hq, c0, c1⟩ := kin_at (HKR.out.below hB.out) hj
          have HY : Hid (lstO o k ++ [kin (idx o k)] = lstO o (k + 1)) := Lib.hid rfl
          have HN := Lib.hid (lstO_len o (k + 1))
          have HBS : Hid (W.heap.size ≤ wr.heap.size) := Lib.hid hB.out.size
          by_cases h0 : wantO (inB x y z) o k = 0
          · have e1 : (wantO (inB x y z) o k == 0) = true := by simpa using h0
            cases hp : inB x y z (idx o k) with
            | true =>
              have WN := Lib.hid (want_in h0 hp)
              have CI := Lib.hid ((HXW.out _ hj).trans (by rw [hp]))
              clear h0 hp
              go_wp2_with (at_builtin; refine G.wpList_g (s := kR) goodR rfl (.tmp 67) (.tmp 72) rfl rfl (hO.out.alloc _) (some ⟨wr.heap.size, 0, none⟩) 1 1 [kin (idx o k)] rfl rfl (one_rule wr (kin (idx o k))) (k + 1) (lstO o (k + 1)) HY.out HN.out (by omega) (by have := HBS.out; simp; omega) ?_; intro a5 c5 w5 o5 g5 _; have O5 := Lib.hid o5; have B5 := Lib.hid (G.Own.grown (hO.out.alloc _) (bel2 hB.out (one_new _ _)) (Nat.le_refl _) g5); have ci := (B5.out.cell (p := ⟨w.heap.size, idx o k, none⟩) HLW.out).trans CI.out; have li := Nat.lt_of_lt_of_le HLW.out B5.out.size; clear o5 g5)
              go_roundw
              case rel => exact ⟨k + 1, by omega, by go_num, by rw [WN.out], O5, B5⟩
              case measure => simp [intOf]; omega
            | false =>
              have WN := Lib.hid (want_out (p := inB x y z) (o := o) (k := k) (fun h => by rw [hp] at h; cases h.2))
              have CI := Lib.hid ((HXW.out _ hj).trans (by rw [hp]))
              clear h0 hp
              go_wp2_with (at_builtin; refine G.wpList_g (s := kR) goodR rfl (.tmp 67) (.tmp 72) rfl rfl (hO.out.alloc _) (some ⟨wr.heap.size, 0, none⟩) 1 1 [kin (idx o k)] rfl rfl (one_rule wr (kin (idx o k))) (k + 1) (lstO o (k + 1)) HY.out HN.out (by omega) (by have := HBS.out; simp; omega) ?_; intro a5 c5 w5 o5 g5 _; have O5 := Lib.hid o5; have B5 := Lib.hid (G.Own.grown (hO.out.alloc _) (bel2 hB.out (one_new _ _)) (Nat.le_refl _) g5); have ci := (B5.out.cell (p := ⟨w.heap.size, idx o k, none⟩) HLW.out).trans CI.out; have li := Nat.lt_of_lt_of_le HLW.out B5.out.size; clear o5 g5)
              go_roundw
              case rel => exact ⟨k + 1, by omega, by go_num, by rw [WN.out], O5, B5⟩
              case measure => simp [intOf]; omega
          · have e1 : (wantO (inB x y z) o k == 0) = false := by simpa using h0
            have WN := Lib.hid (want_out (p := inB x y z) (o := o) (k := k) (fun h => h0 h.1))
            have CI := Lib.hid (HXW.out _ hj)
            clear h0
            go_wp2_with (at_builtin; refine G.wpList_g (s := kR) goodR rfl (.tmp 67) (.tmp 72) rfl rfl (hO.out.alloc _) (some ⟨wr.heap.size, 0, none⟩) 1 1 [kin (idx o k)] rfl rfl (one_rule wr (kin (idx o k))) (k + 1) (lstO o (k + 1)) HY.out HN.out (by omega) (by have := HBS.out; simp; omega) ?_; intro a5 c5 w5 o5 g5 _; have O5 := Lib.hid o5; have B5 := Lib.hid (G.Own.grown (hO.out.alloc _) (bel2 hB.out (one_new _ _)) (Nat.le_refl _) g5); have ci := (B5.out.cell (p := ⟨w.heap.size, idx o k, none⟩) HLW.out).trans CI.out; have li := Nat.lt_of_lt_of_le HLW.out B5.out.size; clear o5 g5)
            go_roundw
            case rel => exact ⟨k + 1, by omega, by go_num, by rw [WN.out], O5, B5⟩
            case measure => simp [intOf]; omega
        · obtain rfl : k = 3 := by omega
          obtain ⟨av, cv, rfl, hrow, _⟩ := G.Own.row goodR hO.out
          have RV := Lib.hid hrow
          have HLO := Lib.hid (lst_ok o)
          have H3 := Lib.hid (lstO_len o 3)
          rw [lstO_len o 3, show ((3 : Nat) : Int) = 3 from rfl]
          have TV := Lib.hid (HA.out.below hB.out)
          have m0 := TV.out.arr.cell (k := 0) (by omega)
          have ml := TV.out.arr.lt
          rw [HM] at m0
          have CI := Lib.hid (HXW.out 2 (by omega))
          have BV := Lib.hid (bel2 HBW.out hB.out)
          have LV := Lib.hid (Nat.lt_of_lt_of_le HLW.out hB.out.size)
          have CV : Hid (wr.cell? ⟨w.heap.size, 2, none⟩ = some (.bool z)) := Lib.hid ((hB.out.cell (p := ⟨w.heap.size, 2, none⟩) HLW.out).trans CI.out)
          obtain ⟨hf1, hf2⟩ := fin_find x y z o
          clear hO hB HA HXW HLW HBW HKR HM hk hlt hrow CI
          generalize lstO o 3 = ls at hf1 hf2 RV HLO H3
          generalize wantO (inB x y z) o 3 = wn at hf1 ⊢
          by_cases h0 : wn = 0
          · rw [if_pos h0] at hf1
            obtain ⟨E2, y2, h2⟩ : ∃ E2 y2, findR (LK (inB x y z) 3) ls (⟨#[62, 110, 111, 110, 101]⟩ : ByteArray).data.toList (-1) (⟨#[115]⟩ : ByteArray).data.toList = (E2, y2) := ⟨_, _, rfl⟩
            have F1 := Lib.hid hf1
            have F2 := Lib.hid h2
            have e1 : (wn == 0) = true := by simpa using h0
            clear hf1 hf2 h2 h0
            go_wp2_with (first
              | (go_at_call 14; ((with_reducible refine (has_rules TV.out.has HG1.out RV.out HLO.out H3.out ⟨#[62, 113]⟩ 1 ⟨#[115]⟩ (by decide) rng_1 (by decide) F1.out).mono ?_); rintro e w6 ⟨a6, c6, rfl, r6, b6⟩; have T6 := Lib.hid ((TV.out.below b6).below (one_new _ (BrO noBr (.slice a6 noBr.acl.length c6)))); have R6 := Lib.hid ((RV.out.below b6).below (one_new _ (BrO noBr (.slice a6 noBr.acl.length c6)))); have B6 := Lib.hid (bel2 (bel2 BV.out b6) (one_new _ (BrO noBr (.slice a6 noBr.acl.length c6)))); clear r6 b6))
              | (go_at_call 14; ((with_reducible refine (has_rules T6.out.has HG1.out R6.out HLO.out H3.out ⟨#[62, 110, 111, 110, 101]⟩ (-1) ⟨#[115]⟩ (by decide) rngm1 (by decide) F2.out).mono ?_); rintro e w7 ⟨a7, c7, rfl, r7, b7⟩; have B7 := Lib.hid (bel2 (bel2 B6.out b7) (one_new _ (BrO y2 (.slice a7 y2.acl.length c7)))); clear r7 b7)))
            go_ret
            exact ⟨rfl, B7.out⟩
          · rw [if_neg h0] at hf1
            obtain ⟨y1, h1, u1⟩ : ∃ y1 : Br, findR (LK (inB x y z) 3) ls (⟨#[62, 113]⟩ : ByteArray).data.toList 1 (⟨#[115]⟩ : ByteArray).data.toList = (0, y1) ∧ y1.uid = wn := ⟨_, hf1, rfl⟩
            have F1 := Lib.hid h1
            have e1 : (wn == 0) = false := by simpa using h0
            have e2 : (y1.uid == wn) = true := by simpa using u1
            clear hf1 h1 h0 u1
            cases z with
            | true =>
              rw [if_pos rfl] at hf2
              obtain ⟨y2, h2, u2⟩ : ∃ y2 : Br, findR (LK (inB x y true) 3) ls (⟨#[62, 110, 111, 110, 101]⟩ : ByteArray).data.toList (-1) (⟨#[115]⟩ : ByteArray).data.toList = (0, y2) ∧ y2.uid = 12 := ⟨_, hf2, rfl⟩
              have F2 := Lib.hid h2
              have e3 : (y2.uid == 12) = true := by simpa using u2
              clear hf2 h2 u2
              go_wp2_with (first
                | (go_at_call 14; ((with_reducible refine (has_rules TV.out.has HG1.out RV.out HLO.out H3.out ⟨#[62, 113]⟩ 1 ⟨#[115]⟩ (by decide) rng_1 (by decide) F1.out).mono ?_); rintro e w6 ⟨a6, c6, rfl, r6, b6⟩; have T6 := Lib.hid ((TV.out.below b6).below (one_new _ (BrO y1 (.slice a6 y1.acl.length c6)))); have R6 := Lib.hid ((RV.out.below b6).below (one_new _ (BrO y1 (.slice a6 y1.acl.length c6)))); have D6 := Lib.hid (b6.trans ((one_new w6 (BrO y1 (.slice a6 y1.acl.length c6))).mono b6.size)); have X6 := Lib.hid (BrAt.new w6 y1 (.slice a6 y1.acl.length c6)); clear r6 b6))
                | (go_at_call 14; ((with_reducible refine (has_rules T6.out.has HG1.out R6.out HLO.out H3.out ⟨#[62, 110, 111, 110, 101]⟩ (-1) ⟨#[115]⟩ (by decide) rngm1 (by decide) F2.out).mono ?_); rintro e w7 ⟨a7, c7, rfl, r7, b7⟩; have D7 := Lib.hid (bel2 D6.out b7); have B7 := Lib.hid (bel2 (bel2 BV.out D7.out) (one_new _ (BrO y2 (.slice a7 y2.acl.length c7)))); have c2 := (D7.out.cell (p := ⟨w.heap.size, 2, none⟩) LV.out).trans CV.out; have l2' := Nat.lt_of_lt_of_le LV.out D7.out.size; have X7 := X6.out.below b7; obtain ⟨_, x1, _⟩ := X7.cell; have xl := X7.lt; clear r7 b7 X7)))
              go_ret
              exact ⟨rfl, B7.out⟩
            | false =>
              rw [if_neg (by simp)] at hf2
              have F2 := Lib.hid hf2
              clear hf2
              go_wp2_with (first
                | (go_at_call 14; ((with_reducible refine (has_rules TV.out.has HG1.out RV.out HLO.out H3.out ⟨#[62, 113]⟩ 1 ⟨#[115]⟩ (by decide) rng_1 (by decide) F1.out).mono ?_); rintro e w6 ⟨a6, c6, rfl, r6, b6⟩; have T6 := Lib.hid ((TV.out.below b6).below (one_new _ (BrO y1 (.slice a6 y1.acl.length c6)))); have R6 := Lib.hid ((RV.out.below b6).below (one_new _ (BrO y1 (.slice a6 y1.acl.length c6)))); have D6 := Lib.hid (b6.trans ((one_new w6 (BrO y1 (.slice a6 y1.acl.length c6))).mono b6.size)); have X6 := Lib.hid (BrAt.new w6 y1 (.slice a6 y1.acl.length c6)); clear r6 b6))
                | (go_at_call 14; ((with_reducible refine (has_rules T6.out.has HG1.out R6.out HLO.out H3.out ⟨#[62, 110, 111, 110, 101]⟩ (-1) ⟨#[115]⟩ (by decide) rngm1 (by decide) F2.out).mono ?_); rintro e w7 ⟨a7, c7, rfl, r7, b7⟩; have D7 := Lib.hid (bel2 D6.out b7); have B7 := Lib.hid (bel2 (bel2 BV.out D7.out) (one_new _ (BrO noBr (.slice a7 noBr.acl.length c7)))); have c2 := (D7.out.cell (p := ⟨w.heap.size, 2, none⟩) LV.out).trans CV.out; have l2' := Nat.lt_of_lt_of_le LV.out D7.out.size; have X7 := X6.out.below b7; obtain ⟨_, x1, _⟩ := X7.cell; have xl := X7.lt; clear r7 b7 X7)))
              go_ret
              exact ⟨rfl, B7.out⟩

end Go.Proofs.YtpcdcmoapenbdaaDoor.T
