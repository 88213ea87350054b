/-
  The program's reader in memory: what defs and links do to it.
-/
import Derived.Test.YtnlohmkgkihldaaOOwn
namespace Go.Proofs.Ytnlohmkgkihldaa.W
open Go.ChangeShapes Go.WideShapes Go.ChangeAt Go.RowKit
open Go.Proofs.Ytnlohmkgkihldaa.N (bs bs_data bs_of bs_size may may_pos retB)

theorem grown_own {w v u : World} {b : Nat} {r : Option Nat} (h : w.grownBy v (some b)) (h' : v.grownBy u r) (hr : ∀ g, r = some g → w.heap.size ≤ g) : w.grownBy u (some b) :=
  ⟨h'.os.trans h.os, h'.tape.trans h.tape, h'.output.trans h.output, Nat.le_trans h.size h'.size, fun k hk hne => (h'.block k (Nat.lt_of_lt_of_le hk h.size) (fun e => by have := hr k e.symm; omega)).trans (h.block k hk hne)⟩
/-- what defs, what links answers -/
def DefsRd (B b n : Nat) (S : RS) (w : World) (e : Ending) (w' : World) : Prop := ∃ p c, e = .returned (.slice p (pDs n S).1.length c) ∧ OwnD w.heap.size w' (.slice p (pDs n S).1.length c) (pDs n S).1 ∧ RdAt B w' b (pDs n S).2 ∧ w.grownBy w' (some b)
def LinksRd (B b n : Nat) (S : RS) (w : World) (e : Ending) (w' : World) : Prop := ∃ p c, e = .returned (.slice p (pKs n S).1.length c) ∧ OwnK w.heap.size w' (.slice p (pKs n S).1.length c) (pKs n S).1 ∧ RdAt B w' b (pKs n S).2 ∧ w.grownBy w' (some b)
theorem pDs_stop {n : Nat} {S : RS} (h : n = 0 ∨ S.2 = true) : pDs n S = ([], S) := by
  cases n with
  | zero => rfl
  | succ n => rw [pDs, if_pos (h.resolve_left (by omega))]
theorem pDs_go {n : Nat} {S : RS} (hs : S.2 = false) : pDs (n + 1) S = ((pD S).1 :: (pDs n (pD S).2).1, (pDs n (pD S).2).2) := by rw [pDs, if_neg (by simp [hs])]
theorem pKs_stop {n : Nat} {S : RS} (h : n = 0 ∨ S.2 = true) : pKs n S = ([], S) := by
  cases n with
  | zero => rfl
  | succ n => rw [pKs, if_pos (h.resolve_left (by omega))]
theorem pKs_go {n : Nat} {S : RS} (hs : S.2 = false) : pKs (n + 1) S = ((pK S).1 :: (pKs n (pK S).2).1, (pKs n (pK S).2).2) := by rw [pKs, if_neg (by simp [hs])]
theorem rd_short {B : Nat} {w : World} {b : Nat} {S : RS} (h : RdAt B w b S) : w.cell? ⟨b, 1, none⟩ = some (.bool S.2) := by
  obtain ⟨a, c, L, hh, -⟩ := h
  rw [cell_of_row _ _ _ _ _ _ hh]
  rfl

set_option maxHeartbeats 2000000 in
theorem defs_rd {B : Nat} {w : World} {b n : Nat} {S : RS} (h : RdAt B w b S) (hs : RSok S) (hbB : b < B) (hB : B ≤ w.heap.size) (hn : n ≤ 262143) : Calls Try.prog 20 #[RdP b, .int .i64 n] w (DefsRd B b n S w) := by
  have H0 := Lib.hid h
  have HS0 := Lib.hid hs
  have HbB := Lib.hid hbB
  have HB := Lib.hid hB
  clear h hs hbB hB
  unfold DefsRd
  go_enter Try.func20, Try.ntmps20
  go_wp2
  go_loopw [5] (fun v W => ∃ ds S' p c, v = .slice p ds.length c ∧ Hid (OwnD w.heap.size W v ds) ∧ Hid (RdAt B W b S') ∧ Hid (RSok S') ∧ Hid (w.grownBy W (some b)) ∧ ds.length ≤ n ∧ Hid (pDs n S = (ds ++ (pDs (n - ds.length) S').1, (pDs (n - ds.length) S').2))) (fun v _ => n - lenV v)
  case atStart => exact ⟨[], S, none, 0, rfl, Lib.hid (World.ownsRow_nil w _ _ _), H0, HS0, Lib.hid (grown_refl _ _), Nat.zero_le _, Lib.hid (by simp)⟩
  case round =>
    obtain ⟨ds, S', p, c, rfl, hO, hR, hK, hG, hdn, hP⟩ := hrel
    have c1 := rd_short hR.out
    have exit : Hid (ds.length = n ∨ S'.2 = true → pDs n S = (ds, S')) := Lib.hid (fun h => by
      rw [hP.out, pDs_stop (h.elim (fun e => Or.inl (by omega)) Or.inr), List.append_nil])
    by_cases hlt : ds.length < n
    · have d1 : decide ((ds.length : Int) < (n : Int)) = true := decide_eq_true (by omega)
      cases hb2 : S'.2 with
      | true =>
        rw [hb2] at c1
        have hx := Lib.hid (exit.out (Or.inr hb2))
        clear hb2
        go_wp2
        go_ret
        rw [hx.out]
        exact ⟨_, _, rfl, hO.out, hR.out, hG.out⟩
      | false =>
        rw [hb2] at c1
        have ht := text_rd hR.out
        have hnm := fun (v : World) (h : RdAt B v b (pT S').2) => number_rd h
        have hD : pD S' = (((pT S').1, (pN (pT S').2).1), (pN (pT S').2).2) := rfl
        have hKD := Lib.hid (pD_ok hK.out)
        have hgo : Hid (pDs (n - ds.length) S' = ((pD S').1 :: (pDs (n - (ds.length + 1)) (pD S').2).1, (pDs (n - (ds.length + 1)) (pD S').2).2)) := Lib.hid (by
          rw [show n - ds.length = (n - (ds.length + 1)) + 1 by omega]
          exact pDs_go hb2)
        rw [hD] at hgo hKD
        clear hb2 hD
        generalize (pT S').1 = t at *
        generalize (pT S').2 = S1 at *
        generalize (pN S1).1 = z at *
        generalize (pN S1).2 = S2 at *
        have HL := Lib.hid hdn
        have hsz := Lib.hid hG.out.size
        have hbw : b < w.heap.size := Nat.lt_of_lt_of_le HbB.out HB.out
        have hbw := Lib.hid hbw
        go_wp2_with (first
          | (go_at_call 28; (refine ht.mono ?_); rintro e w1 ⟨rfl, r1, g1⟩; have HR1 := Lib.hid r1; have G1 := Lib.hid g1; clear r1 g1)
          | (go_at_call 18; (refine (hnm _ HR1.out).mono ?_); rintro e w2 ⟨rfl, r2, g2⟩; have HR2 := Lib.hid (r2.below (one_new w2 (.cells #[.string (bs t), .int .i64 z] 41))); have G2 := Lib.hid (grown_trans (grown_trans (grown_trans hG.out G1.out) g2) (grown_of (one_new w2 (.cells #[.string (bs t), .int .i64 z] 41)) _)); have O2 := Lib.hid (row_below (row_grown (row_grown hO.out G1.out hbw.out) g2 hbw.out) (one_new w2 (.cells #[.string (bs t), .int .i64 z] 41))); clear r2 g2)
          | (at_builtin; refine wpList_def1 rfl (.tmp 17) (.tmp 23) rfl rfl O2.out (t, z) w2.heap.size 1 rfl (heap_alloc_new w2 _) (by omega) G2.out.size _ rfl ?_; intro p3 c3 w3 ho3 hg3))
        have hr3 := rd_grown HR2.out (row_base O2.out HB.out) hg3 HbB.out
        have hg4 := grown_own G2.out hg3 (fun g hg => (World.ownsRow.lt O2.out g hg).1)
        have hP3 : pDs n S = ((ds ++ [(t, z)]) ++ (pDs (n - (ds ++ [(t, z)]).length) S2).1, (pDs (n - (ds ++ [(t, z)]).length) S2).2) := by
          rw [hP.out, hgo.out, List.length_append]
          simp
        go_roundw
        case rel => exact ⟨ds ++ [(t, z)], S2, p3, c3, by simp, Lib.hid ho3, Lib.hid hr3, Lib.hid hKD.out.1, Lib.hid hg4, by simp; omega, Lib.hid hP3⟩
        case measure => simp [lenV]; omega
    · have hkn : ds.length = n := by omega
      have hx := Lib.hid (exit.out (Or.inl hkn))
      have d1 : decide ((ds.length : Int) < (n : Int)) = false := decide_eq_false (by omega)
      clear hkn
      go_wp2
      go_ret
      rw [hx.out]
      exact ⟨_, _, rfl, hO.out, hR.out, hG.out⟩

set_option maxHeartbeats 2000000 in
theorem links_rd {B : Nat} {w : World} {b n : Nat} {S : RS} (h : RdAt B w b S) (hs : RSok S) (hbB : b < B) (hB : B ≤ w.heap.size) (hn : n ≤ 262143) : Calls Try.prog 21 #[RdP b, .int .i64 n] w (LinksRd B b n S w) := by
  have H0 := Lib.hid h
  have HS0 := Lib.hid hs
  have HbB := Lib.hid hbB
  have HB := Lib.hid hB
  clear h hs hbB hB
  unfold LinksRd
  go_enter Try.func21, Try.ntmps21
  go_wp2
  go_loopw [5] (fun v W => ∃ ds S' p c, v = .slice p ds.length c ∧ Hid (OwnK w.heap.size W v ds) ∧ Hid (RdAt B W b S') ∧ Hid (RSok S') ∧ Hid (w.grownBy W (some b)) ∧ ds.length ≤ n ∧ Hid (pKs n S = (ds ++ (pKs (n - ds.length) S').1, (pKs (n - ds.length) S').2))) (fun v _ => n - lenV v)
  case atStart => exact ⟨[], S, none, 0, rfl, Lib.hid (World.ownsRow_nil w _ _ _), H0, HS0, Lib.hid (grown_refl _ _), Nat.zero_le _, Lib.hid (by simp)⟩
  case round =>
    obtain ⟨ds, S', p, c, rfl, hO, hR, hK, hG, hdn, hP⟩ := hrel
    have c1 := rd_short hR.out
    have exit : Hid (ds.length = n ∨ S'.2 = true → pKs n S = (ds, S')) := Lib.hid (fun h => by
      rw [hP.out, pKs_stop (h.elim (fun e => Or.inl (by omega)) Or.inr), List.append_nil])
    by_cases hlt : ds.length < n
    · have d1 : decide ((ds.length : Int) < (n : Int)) = true := decide_eq_true (by omega)
      cases hb2 : S'.2 with
      | true =>
        rw [hb2] at c1
        have hx := Lib.hid (exit.out (Or.inr hb2))
        clear hb2
        go_wp2
        go_ret
        rw [hx.out]
        exact ⟨_, _, rfl, hO.out, hR.out, hG.out⟩
      | false =>
        rw [hb2] at c1
        have ht := text_rd hR.out
        have ht2 := fun (v : World) (h : RdAt B v b (pT S').2) => text_rd h
        have hnm := fun (v : World) (h : RdAt B v b (pT (pT S').2).2) => number_rd h
        have hD : pK S' = (((pT S').1, (pT (pT S').2).1, (pN (pT (pT S').2).2).1), (pN (pT (pT S').2).2).2) := rfl
        have hKD := Lib.hid (pK_ok hK.out)
        have hgo : Hid (pKs (n - ds.length) S' = ((pK S').1 :: (pKs (n - (ds.length + 1)) (pK S').2).1, (pKs (n - (ds.length + 1)) (pK S').2).2)) := Lib.hid (by
          rw [show n - ds.length = (n - (ds.length + 1)) + 1 by omega]
          exact pKs_go hb2)
        rw [hD] at hgo hKD
        clear hb2 hD
        generalize (pT S').1 = t at *
        generalize (pT S').2 = S1 at *
        generalize (pT S1).1 = u at *
        generalize (pT S1).2 = S2 at *
        generalize (pN S2).1 = z at *
        generalize (pN S2).2 = S3 at *
        have HL := Lib.hid hdn
        have hsz := Lib.hid hG.out.size
        have hbw : b < w.heap.size := Nat.lt_of_lt_of_le HbB.out HB.out
        have hbw := Lib.hid hbw
        go_wp2_with (first
          | (go_at_call 28; (refine ht.mono ?_); rintro e w1 ⟨rfl, r1, g1⟩; have HR1 := Lib.hid r1; have G1 := Lib.hid g1; clear r1 g1 ht)
          | (go_at_call 28; (refine (ht2 _ HR1.out).mono ?_); rintro e w1b ⟨rfl, r1, g1⟩; have HR1b := Lib.hid r1; have G1b := Lib.hid g1; clear r1 g1)
          | (go_at_call 18; (refine (hnm _ HR1b.out).mono ?_); rintro e w2 ⟨rfl, r2, g2⟩; have HR2 := Lib.hid (r2.below (one_new w2 (.cells #[.string (bs t), .string (bs u), .int .i64 z] 43))); have G2 := Lib.hid (grown_trans (grown_trans (grown_trans (grown_trans hG.out G1.out) G1b.out) g2) (grown_of (one_new w2 (.cells #[.string (bs t), .string (bs u), .int .i64 z] 43)) _)); have O2 := Lib.hid (row_below (row_grown (row_grown (row_grown hO.out G1.out hbw.out) G1b.out hbw.out) g2 hbw.out) (one_new w2 (.cells #[.string (bs t), .string (bs u), .int .i64 z] 43))); clear r2 g2)
          | (at_builtin; refine wpList_link1 rfl (.tmp 17) (.tmp 25) rfl rfl O2.out (t, u, z) w2.heap.size 1 rfl (heap_alloc_new w2 _) (by omega) G2.out.size _ rfl ?_; intro p3 c3 w3 ho3 hg3))
        have hr3 := rd_grown HR2.out (row_base O2.out HB.out) hg3 HbB.out
        have hg4 := grown_own G2.out hg3 (fun g hg => (World.ownsRow.lt O2.out g hg).1)
        have hP3 : pKs n S = ((ds ++ [(t, u, z)]) ++ (pKs (n - (ds ++ [(t, u, z)]).length) S3).1, (pKs (n - (ds ++ [(t, u, z)]).length) S3).2) := by
          rw [hP.out, hgo.out, List.length_append]
          simp
        go_roundw
        case rel => exact ⟨ds ++ [(t, u, z)], S3, p3, c3, by simp, Lib.hid ho3, Lib.hid hr3, Lib.hid hKD.out.1, Lib.hid hg4, by simp; omega, Lib.hid hP3⟩
        case measure => simp [lenV]; omega
    · have hkn : ds.length = n := by omega
      have hx := Lib.hid (exit.out (Or.inl hkn))
      have d1 : decide ((ds.length : Int) < (n : Int)) = false := decide_eq_false (by omega)
      clear hkn
      go_wp2
      go_ret
      rw [hx.out]
      exact ⟨_, _, rfl, hO.out, hR.out, hG.out⟩

end Go.Proofs.Ytnlohmkgkihldaa.W
