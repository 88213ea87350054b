/-
  Delete of the program's tree, with the list of terms of what is handed out.
-/
import Derived.Test.YtpcdcmoapenbdaaDoorWSees
namespace Go.Proofs.YtpcdcmoapenbdaaDoor.T
open Go.ChangeShapes Go.WideShapes Go.ChangeAt Go.RowKit
open Go.Proofs.YtpcdcmoapenbdaaDoor.N (bs bs_data bs_size bs_inj)
open Go.Proofs.YtpcdcmoapenbdaaDoor.A (Tm TRow)

section
variable {w : World} {b : Nat} {F : Nat → Prop} {c : Nat} {st : St}

set_option maxHeartbeats 4000000 in
theorem del_segO (h : TreeAt w b F c st) {d : Int} {s : Txt} (hd : rng d) (hs : s.length ≤ maxLen) {g : Nat} {x : Nd} (hP : st.P (d, s) = some g) (hN : st.N g = some x) (hk : x.br.kind = 1) (hc : c < 10000) :
    Calls Tryd.prog 25 #[TP b, .int .i64 d, .string (bs s)] w fun e w' => ∃ a' c', e = .returned (.tuple #[BrV x.br (.slice a' x.br.acl.length c'), .int .i64 0]) ∧ A.Own (w.heap.size + 1) w' (.slice a' x.br.acl.length c') x.br.acl ∧ TreeAt w' b F (c + 1 + 2 * x.names.length) (unbindAll d x.names { st with G := upd st.G x.br.uid none }) ∧ Went F w F w' := by
  have hf := find_yes (h.alloc (BrO noBr (.slice none 0 0))) hd hs hP
  have hltF := Lib.hid h.ltF
  obtain ⟨p, gm, z, av, nv, h⟩ := h.made hP
  have T1 := h.below (one_new w (BrO noBr (.slice none 0 0)))
  have n1 := T1.node g x hN
  have hnc := n1.ok.names
  have htxt := Lib.hid n1.ok.txt
  obtain ⟨c0, c1, c2, _⟩ := n1.cell
  have HF := Lib.hid hf
  have hgl := (h.node g x hN).lt
  have B := Lib.hid (BrAt.new w noBr (.slice none 0 0))
  have L := Lib.hid (one_new w (BrO noBr (.slice none 0 0)))
  have e1 : (x.br.kind == 1) = true := by simp [hk]
  have t2 := T1.drew.c2
  have d1 : (w.alloc (BrO noBr (.slice none 0 0))).drew.cell? ⟨g, 1, none⟩ = some (.int .i64 x.br.uid) := c1
  obtain ⟨w2, r2, T2, G2⟩ := T1.drew.dropG (u := x.br.uid) n1.ok.uid 0
  have X2 := Lib.hid ((G2.block w.heap.size (by simp) (fun hf => by have := hltF.out _ hf; omega)).trans B.out : BrAt w2 w.heap.size noBr (.slice none 0 0))
  have G2 := Lib.hid ((Went.of_below L.out).trans G2.ofdrew)
  have T2 := Lib.hid T2
  have HN0 := Lib.hid hN
  clear h hf T1 n1 hk hN
  go_enter Tryd.func25, Tryd.ntmps25
  go_wp2_with (go_at_call 44; ((refine HF.out.mono ?_); rintro e w1 ⟨rfl, rfl⟩))
  go_region
  generalize hst2 : { st with G := upd st.G x.br.uid none } = st2 at *
  have HS := Lib.hid hst2
  have hN2 : Hid (st2.N g = some x) := Lib.hid (by rw [← hst2]; exact HN0.out)
  clear hst2
  obtain ⟨a0, cap, hsl⟩ := nm_slice (T2.out.node g x hN2.out).nam
  have c11 := (T2.out.node g x hN2.out).cell.2.2.2.2.2.2.2.2.2.2.2
  rw [hsl] at c11
  have HSL := Lib.hid hsl
  clear hsl
  go_wp2
  go_loopw [67] (fun i V => ∃ k : Nat, k ≤ x.names.length ∧ i = .int .i64 k ∧ Hid (TreeL V b F (c + 1 + 2 * k) (unbindAll d (x.names.take k) st2) (some p) (some gm) (some z) av nv) ∧ Hid (Went F w F V) ∧ Hid (BrAt V w.heap.size noBr (.slice none 0 0))) (fun i _ => x.names.length - (intOf i).toNat)
  case atStart => exact ⟨0, Nat.zero_le _, rfl, T2, G2, X2⟩
  case round =>
    clear T2 G2 X2 c11
    obtain ⟨k, hk, rfl, hT, hG, hX⟩ := hrel
    have hNk : Hid ((unbindAll d (x.names.take k) st2).N g = some x) := Lib.hid (by rw [unbindAll_N]; exact hN2.out)
    have hn := hT.out.node g x hNk.out
    rw [HSL.out] at hn
    by_cases hlt : k < x.names.length
    · obtain ⟨kb, rfl, hkb, hc1⟩ := hn.name_at hlt
      have hsz : x.names[k].length ≤ maxLen := htxt.out _ (List.getElem_mem _)
      have HU := Lib.hid (unbind_L hT.out (d := d) hd hsz (by omega))
      clear hn
      go_wp2_with (go_at_call 48; ((refine HU.out.mono ?_); rintro e w5 ⟨rfl, t5, g5⟩; have T5 := Lib.hid t5; have G5 := Lib.hid g5; clear t5 g5))
      go_roundw
      case rel =>
        refine ⟨k + 1, by omega, by go_num, Lib.hid ?_, Lib.hid (hG.out.trans G5.out), Lib.hid ((G5.out.block _ hX.out.lt (fun hf => by have := hltF.out _ hf; omega)).trans hX.out)⟩
        rw [take_more hlt, unbindAll_snoc]
        exact T5.out
      case measure => simp [intOf]; omega
    · obtain rfl : k = x.names.length := by omega
      rw [List.take_length] at hT hNk
      have HN4 := Lib.hid hn
      clear hn
      go_wp2_with (go_at_call 50; ((refine (shown_any HN4.out).mono ?_); rintro e w1 ⟨a', c', rfl, o1, b1⟩; have X1 := hX.out.below b1; obtain ⟨p0, p1, p2, p3, p4, p5, p6, p7, p8, p9⟩ := X1.cell; have f1 := X1.fz; have L1 := Lib.hid b1; have O1 := Lib.hid o1; clear o1 b1))
      have B5 := X1.stored x.br (.slice a' x.br.acl.length c')
      have T5 : TreeAt (setBr w1 w.heap.size x.br (.slice a' x.br.acl.length c')) b F (c + 1 + 2 * x.names.length) (unbindAll d x.names st2) :=
        (show TreeAt _ b F _ _ from ⟨_, _, _, _, _, hT.out.below L1.out⟩).setBr (fun hf => by have := hltF.out _ hf; omega) _ _
      have G5 : Went F w F (setBr w1 w.heap.size x.br (.slice a' x.br.acl.length c')) := (hG.out.trans (Went.of_below L1.out)).setOut (Nat.le_refl _) _ _
      have O5 := own_setBr (k := w.heap.size) (own_base (base' := w.heap.size + 1) O1.out (by have := hX.out.lt; omega)) (by omega) x.br (.slice a' x.br.acl.length c')
      refine (show bodyPost _ _ _ _ _ (setBr w1 w.heap.size x.br (.slice a' x.br.acl.length c')) from ?_)
      generalize setBr w1 w.heap.size x.br (.slice a' x.br.acl.length c') = V at B5 T5 G5 O5 ⊢
      obtain ⟨g0, g1, g2, g3, g4, g5, g6, g7, g8, g9⟩ := B5.cell
      refine bodyPost_ret (v := .tuple #[BrV x.br (.slice a' x.br.acl.length c'), .int .i64 0]) (by simp [results, Tryd.results25, go_sem, g0, g1, g2, g3, g4, g5, g6, g7, g8, g9]) rfl ⟨a', c', rfl, O5, ?_, G5⟩
      rw [HS.out]
      exact T5

set_option maxHeartbeats 4000000 in
theorem del_dirO (h : TreeAt w b F c st) {d : Int} {s : Txt} (hd : rng d) (hs : s.length ≤ maxLen) {g : Nat} {x : Nd} (hP : st.P (d, s) = some g) (hN : st.N g = some x) (hk : x.br.kind = 2) (hz : (st.Z x.br.dir).getD 0 ≤ 0) (hc : c < 10000) :
    Calls Tryd.prog 25 #[TP b, .int .i64 d, .string (bs s)] w fun e w' => ∃ a' c', e = .returned (.tuple #[BrV x.br (.slice a' x.br.acl.length c'), .int .i64 0]) ∧ A.Own (w.heap.size + 1) w' (.slice a' x.br.acl.length c') x.br.acl ∧ TreeAt w' b F (c + 1 + 2 * x.names.length) (unbindAll d x.names { st with Z := upd st.Z x.br.dir none }) ∧ Went F w F w' := by
  have hf := find_yes (h.alloc (BrO noBr (.slice none 0 0))) hd hs hP
  have hltF := Lib.hid h.ltF
  obtain ⟨p, gm, z, av, nv, h⟩ := h.made hP
  have T1 := h.below (one_new w (BrO noBr (.slice none 0 0)))
  have n1 := T1.node g x hN
  have hnc := n1.ok.names
  have htxt := Lib.hid n1.ok.txt
  obtain ⟨c0, c1, c2, _⟩ := n1.cell
  have HF := Lib.hid hf
  have hgl := (h.node g x hN).lt
  have B := Lib.hid (BrAt.new w noBr (.slice none 0 0))
  have L := Lib.hid (one_new w (BrO noBr (.slice none 0 0)))
  have e1 : (x.br.kind == 1) = false := by simp [hk]
  have e2 : (x.br.kind == 2) = true := by simp [hk]
  have t3 := T1.drew.c3
  have l3 := T1.drew.lookZ (d := x.br.dir) n1.ok.dir
  have d2 : (w.alloc (BrO noBr (.slice none 0 0))).drew.cell? ⟨g, 2, none⟩ = some (.int .i64 x.br.dir) := c2
  have e3 : decide (0 < (st.Z x.br.dir).getD 0) = false := by simp; omega
  have t4 := T1.drew.drew.c3
  have d4 : (w.alloc (BrO noBr (.slice none 0 0))).drew.drew.cell? ⟨g, 2, none⟩ = some (.int .i64 x.br.dir) := c2
  obtain ⟨w2, r2, T2, G2⟩ := T1.drew.drew.dropZ (d := x.br.dir) n1.ok.dir 0
  have X2 := Lib.hid ((G2.block w.heap.size (by simp) (fun hf => by have := hltF.out _ hf; omega)).trans B.out : BrAt w2 w.heap.size noBr (.slice none 0 0))
  have G2 := Lib.hid ((Went.of_below L.out).trans G2.ofdrew.ofdrew)
  have T2 := Lib.hid T2
  have HN0 := Lib.hid hN
  clear h hf T1 n1 hk hN hz
  generalize (st.Z x.br.dir).getD 0 = zn at l3 e3
  go_enter Tryd.func25, Tryd.ntmps25
  go_wp2_with (go_at_call 44; ((refine HF.out.mono ?_); rintro e w1 ⟨rfl, rfl⟩))
  go_region
  go_wp2
  go_region
  generalize hst2 : { st with Z := upd st.Z x.br.dir none } = st2 at *
  have HS := Lib.hid hst2
  have hN2 : Hid (st2.N g = some x) := Lib.hid (by rw [← hst2]; exact HN0.out)
  clear hst2
  obtain ⟨a0, cap, hsl⟩ := nm_slice (T2.out.node g x hN2.out).nam
  have c11 := (T2.out.node g x hN2.out).cell.2.2.2.2.2.2.2.2.2.2.2
  rw [hsl] at c11
  have HSL := Lib.hid hsl
  clear hsl
  go_wp2
  go_loopw [67] (fun i V => ∃ k : Nat, k ≤ x.names.length ∧ i = .int .i64 k ∧ Hid (TreeL V b F (c + 1 + 2 * k) (unbindAll d (x.names.take k) st2) (some p) (some gm) (some z) av nv) ∧ Hid (Went F w F V) ∧ Hid (BrAt V w.heap.size noBr (.slice none 0 0))) (fun i _ => x.names.length - (intOf i).toNat)
  case atStart => exact ⟨0, Nat.zero_le _, rfl, T2, G2, X2⟩
  case round =>
    clear T2 G2 X2 c11
    obtain ⟨k, hk, rfl, hT, hG, hX⟩ := hrel
    have hNk : Hid ((unbindAll d (x.names.take k) st2).N g = some x) := Lib.hid (by rw [unbindAll_N]; exact hN2.out)
    have hn := hT.out.node g x hNk.out
    rw [HSL.out] at hn
    by_cases hlt : k < x.names.length
    · obtain ⟨kb, rfl, hkb, hc1⟩ := hn.name_at hlt
      have hsz : x.names[k].length ≤ maxLen := htxt.out _ (List.getElem_mem _)
      have HU := Lib.hid (unbind_L hT.out (d := d) hd hsz (by omega))
      clear hn
      go_wp2_with (go_at_call 48; ((refine HU.out.mono ?_); rintro e w5 ⟨rfl, t5, g5⟩; have T5 := Lib.hid t5; have G5 := Lib.hid g5; clear t5 g5))
      go_roundw
      case rel =>
        refine ⟨k + 1, by omega, by go_num, Lib.hid ?_, Lib.hid (hG.out.trans G5.out), Lib.hid ((G5.out.block _ hX.out.lt (fun hf => by have := hltF.out _ hf; omega)).trans hX.out)⟩
        rw [take_more hlt, unbindAll_snoc]
        exact T5.out
      case measure => simp [intOf]; omega
    · obtain rfl : k = x.names.length := by omega
      rw [List.take_length] at hT hNk
      have HN4 := Lib.hid hn
      clear hn
      go_wp2_with (go_at_call 50; ((refine (shown_any HN4.out).mono ?_); rintro e w1 ⟨a', c', rfl, o1, b1⟩; have X1 := hX.out.below b1; obtain ⟨p0, p1, p2, p3, p4, p5, p6, p7, p8, p9⟩ := X1.cell; have f1 := X1.fz; have L1 := Lib.hid b1; have O1 := Lib.hid o1; clear o1 b1))
      have B5 := X1.stored x.br (.slice a' x.br.acl.length c')
      have T5 : TreeAt (setBr w1 w.heap.size x.br (.slice a' x.br.acl.length c')) b F (c + 1 + 2 * x.names.length) (unbindAll d x.names st2) :=
        (show TreeAt _ b F _ _ from ⟨_, _, _, _, _, hT.out.below L1.out⟩).setBr (fun hf => by have := hltF.out _ hf; omega) _ _
      have G5 : Went F w F (setBr w1 w.heap.size x.br (.slice a' x.br.acl.length c')) := (hG.out.trans (Went.of_below L1.out)).setOut (Nat.le_refl _) _ _
      have O5 := own_setBr (k := w.heap.size) (own_base (base' := w.heap.size + 1) O1.out (by have := hX.out.lt; omega)) (by omega) x.br (.slice a' x.br.acl.length c')
      refine (show bodyPost _ _ _ _ _ (setBr w1 w.heap.size x.br (.slice a' x.br.acl.length c')) from ?_)
      generalize setBr w1 w.heap.size x.br (.slice a' x.br.acl.length c') = V at B5 T5 G5 O5 ⊢
      obtain ⟨g0, g1, g2, g3, g4, g5, g6, g7, g8, g9⟩ := B5.cell
      refine bodyPost_ret (v := .tuple #[BrV x.br (.slice a' x.br.acl.length c'), .int .i64 0]) (by simp [results, Tryd.results25, go_sem, g0, g1, g2, g3, g4, g5, g6, g7, g8, g9]) rfl ⟨a', c', rfl, O5, ?_, G5⟩
      rw [HS.out]
      exact T5

set_option maxRecDepth 8000 in
set_option maxHeartbeats 4000000 in
theorem del_linkO (h : TreeAt w b F c st) {d : Int} {s : Txt} (hd : rng d) (hs : s.length ≤ maxLen) {g : Nat} {x : Nd} (hP : st.P (d, s) = some g) (hN : st.N g = some x) (hk : x.br.kind = 3) (hc : c < 10000) :
    Calls Tryd.prog 25 #[TP b, .int .i64 d, .string (bs s)] w fun e w' => ∃ a' c', e = .returned (.tuple #[BrV x.br (.slice a' x.br.acl.length c'), .int .i64 0]) ∧ A.Own (w.heap.size + 1) w' (.slice a' x.br.acl.length c') x.br.acl ∧ TreeAt w' b F (c + 1 + 2 * x.names.length) (unbindAll d x.names st) ∧ Went F w F w' := by
  have hf := find_yes (h.alloc (BrO noBr (.slice none 0 0))) hd hs hP
  have hltF := Lib.hid h.ltF
  obtain ⟨p, gm, z, av, nv, h⟩ := h.made hP
  have T1 := h.below (one_new w (BrO noBr (.slice none 0 0)))
  have n1 := T1.node g x hN
  have hnc := n1.ok.names
  have htxt := Lib.hid n1.ok.txt
  obtain ⟨c0, c1, c2, cz⟩ := n1.cell
  clear cz
  have HF := Lib.hid hf
  have hgl := (h.node g x hN).lt
  have B := Lib.hid (BrAt.new w noBr (.slice none 0 0))
  have L := Lib.hid (one_new w (BrO noBr (.slice none 0 0)))
  have e1 : (x.br.kind == 1) = false := by simp [hk]
  have e2 : (x.br.kind == 2) = false := by simp [hk]
  have T2 := Lib.hid (T1.mono (Nat.le_succ c))
  have X2 := B
  have G2 : Hid (Went F w F (w.alloc (BrO noBr (.slice none 0 0)))) := Lib.hid (Went.of_below L.out)
  have HN0 := Lib.hid hN
  clear h hf T1 n1 hk hN
  have hst2 : st = st := rfl
  have HS := Lib.hid hst2
  have hN2 : Hid (st.N g = some x) := Lib.hid (by rw [← hst2]; exact HN0.out)
  clear hst2
  obtain ⟨a0, cap, hsl⟩ := nm_slice (T2.out.node g x hN2.out).nam
  have c11 := (T2.out.node g x hN2.out).cell.2.2.2.2.2.2.2.2.2.2.2
  rw [hsl] at c11
  have HSL := Lib.hid hsl
  clear hsl
  go_enter Tryd.func25, Tryd.ntmps25
  go_wp2_with (go_at_call 44; ((refine HF.out.mono ?_); rintro e w1 ⟨rfl, rfl⟩))
  go_loopw [67] (fun i V => ∃ k : Nat, k ≤ x.names.length ∧ i = .int .i64 k ∧ Hid (TreeL V b F (c + 1 + 2 * k) (unbindAll d (x.names.take k) st) (some p) (some gm) (some z) av nv) ∧ Hid (Went F w F V) ∧ Hid (BrAt V w.heap.size noBr (.slice none 0 0))) (fun i _ => x.names.length - (intOf i).toNat)
  case atStart => exact ⟨0, Nat.zero_le _, rfl, T2, G2, X2⟩
  case round =>
    clear T2 G2 X2 c11
    obtain ⟨k, hk, rfl, hT, hG, hX⟩ := hrel
    have hNk : Hid ((unbindAll d (x.names.take k) st).N g = some x) := Lib.hid (by rw [unbindAll_N]; exact hN2.out)
    have hn := hT.out.node g x hNk.out
    rw [HSL.out] at hn
    by_cases hlt : k < x.names.length
    · obtain ⟨kb, rfl, hkb, hc1⟩ := hn.name_at hlt
      have hsz : x.names[k].length ≤ maxLen := htxt.out _ (List.getElem_mem _)
      have HU := Lib.hid (unbind_L hT.out (d := d) hd hsz (by omega))
      clear hn
      go_wp2_with (go_at_call 48; ((refine HU.out.mono ?_); rintro e w5 ⟨rfl, t5, g5⟩; have T5 := Lib.hid t5; have G5 := Lib.hid g5; clear t5 g5))
      go_roundw
      case rel =>
        refine ⟨k + 1, by omega, by go_num, Lib.hid ?_, Lib.hid (hG.out.trans G5.out), Lib.hid ((G5.out.block _ hX.out.lt (fun hf => by have := hltF.out _ hf; omega)).trans hX.out)⟩
        rw [take_more hlt, unbindAll_snoc]
        exact T5.out
      case measure => simp [intOf]; omega
    · obtain rfl : k = x.names.length := by omega
      rw [List.take_length] at hT hNk
      have HN4 := Lib.hid hn
      clear hn
      go_wp2_with (go_at_call 50; ((refine (shown_any HN4.out).mono ?_); rintro e w1 ⟨a', c', rfl, o1, b1⟩; have X1 := hX.out.below b1; obtain ⟨p0, p1, p2, p3, p4, p5, p6, p7, p8, p9⟩ := X1.cell; have f1 := X1.fz; have L1 := Lib.hid b1; have O1 := Lib.hid o1; clear o1 b1))
      have B5 := X1.stored x.br (.slice a' x.br.acl.length c')
      have T5 : TreeAt (setBr w1 w.heap.size x.br (.slice a' x.br.acl.length c')) b F (c + 1 + 2 * x.names.length) (unbindAll d x.names st) :=
        (show TreeAt _ b F _ _ from ⟨_, _, _, _, _, hT.out.below L1.out⟩).setBr (fun hf => by have := hltF.out _ hf; omega) _ _
      have G5 : Went F w F (setBr w1 w.heap.size x.br (.slice a' x.br.acl.length c')) := (hG.out.trans (Went.of_below L1.out)).setOut (Nat.le_refl _) _ _
      have O5 := own_setBr (k := w.heap.size) (own_base (base' := w.heap.size + 1) O1.out (by have := hX.out.lt; omega)) (by omega) x.br (.slice a' x.br.acl.length c')
      refine (show bodyPost _ _ _ _ _ (setBr w1 w.heap.size x.br (.slice a' x.br.acl.length c')) from ?_)
      generalize setBr w1 w.heap.size x.br (.slice a' x.br.acl.length c') = V at B5 T5 G5 O5 ⊢
      obtain ⟨g0, g1, g2, g3, g4, g5, g6, g7, g8, g9⟩ := B5.cell
      refine bodyPost_ret (v := .tuple #[BrV x.br (.slice a' x.br.acl.length c'), .int .i64 0]) (by simp [results, Tryd.results25, go_sem, g0, g1, g2, g3, g4, g5, g6, g7, g8, g9]) rfl ⟨a', c', rfl, O5, ?_, G5⟩
      exact T5

end

end Go.Proofs.YtpcdcmoapenbdaaDoor.T
