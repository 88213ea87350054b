/-
  Delete, by its ways: nothing there, a directory that has something, a segment, an empty directory, a link.
-/
import Derived.Test.YtpcdcmoapenbdaaDoorTAwake
namespace Go.Proofs.YtpcdcmoapenbdaaDoor.T
open Go.ChangeShapes Go.WideShapes Go.ChangeAt Go.RowKit
open Go.Proofs.YtpcdcmoapenbdaaDoor.N (bs bs_data bs_size bs_inj)
open Go.Proofs.YtpcdcmoapenbdaaDoor.A (Tm TRow)

/-- all names of a node gone from its directory -/
def unbindAll (d : Int) (l : List Txt) (st : St) : St := l.foldl (fun s t => unbindS s d t) st
theorem unbindAll_snoc (d : Int) (l : List Txt) (t : Txt) (st : St) : unbindAll d (l ++ [t]) st = unbindS (unbindAll d l st) d t := by simp [unbindAll]
theorem unbindAll_N (d : Int) : ∀ (l : List Txt) (st : St), (unbindAll d l st).N = st.N
  | [], _ => rfl
  | t :: l, st => (unbindAll_N d l (unbindS st d t)).trans rfl

theorem take_more {l : List Txt} {k : Nat} (hk : k < l.length) : l.take (k + 1) = l.take k ++ [l[k]] := List.take_succ_eq_append_getElem hk

/-- a node's names where they lie -/
theorem NodeL.name_at {w : World} {F : Nat → Prop} {c g : Nat} {x : Nd} {va : Value} {a : Option Addr} {cap : Nat} (h : NodeL w F c g x va (.slice a x.names.length cap)) {k : Nat} (hk : k < x.names.length) :
    ∃ kb, a = some ⟨kb, 0, none⟩ ∧ kb < w.heap.size ∧ w.cell? ⟨kb, k, none⟩ = some (.string (bs x.names[k])) := by
  have hn := h.nam
  rcases hn.2 with ⟨e, e'⟩ | ⟨kb, cap', cur, e, _, hg, _⟩
  · omega
  · simp only [Value.slice.injEq] at e
    obtain ⟨rfl, _, _⟩ := e
    refine ⟨kb, rfl, (Array.getElem?_eq_some_iff.1 hg).1, ?_⟩
    rw [World.ownsRow.cellAt hn k (by omega), vals, List.getElem?_map, List.getElem?_eq_getElem hk]
    rfl
theorem nm_slice {w : World} {v : Value} {qs : List Txt} (h : Nm w v qs) : ∃ a cap, v = .slice a qs.length cap := by
  rcases h.2 with ⟨rfl, e⟩ | ⟨g, cap, cur, rfl, _⟩
  · exact ⟨none, 0, by rw [e]⟩
  · exact ⟨_, cap, rfl⟩

theorem TreeAt.setBr {V : World} {b : Nat} {F : Nat → Prop} {c : Nat} {st : St} (h : TreeAt V b F c st) {k : Nat} (hk : ¬ F k) (br : Br) (va : Value) : TreeAt (setBr V k br va) b F c st :=
  (((((((((h.set hk).set hk).set hk).set hk).set hk).set hk).set hk).set hk).set hk).set hk
theorem Went.setOut {F : Nat → Prop} {w V : World} (h : Went F w F V) {k : Nat} (hk : w.heap.size ≤ k) (br : Br) (va : Value) : Went F w F (setBr V k br va) := by
  have one : ∀ (U : World) (i : Nat) (v : Value), Went F w F U → Went F w F (U.setCell ⟨k, i, none⟩ v) := fun U i v h =>
    ⟨h.os, h.tape, h.output, by simpa using h.size, fun j hj hn => (other_set _ _ (by omega)).trans (h.block j hj hn), h.foot⟩
  exact one _ _ _ (one _ _ _ (one _ _ _ (one _ _ _ (one _ _ _ (one _ _ _ (one _ _ _ (one _ _ _ (one _ _ _ (one _ _ _ h)))))))))

section
variable {w : World} {b : Nat} {F : Nat → Prop} {c : Nat} {st : St}

set_option maxHeartbeats 1000000 in
theorem del_none (h : TreeAt w b F c st) {d : Int} {s : Txt} (hd : rng d) (hs : s.length ≤ maxLen) (hP : st.P (d, s) = none) :
    Calls Tryd.prog 25 #[TP b, .int .i64 d, .string (bs s)] w fun e w' => e = .returned (.tuple #[BrV noBr (.slice none 0 0), .int .i64 4]) ∧ Below w.heap.size w w' := by
  have H := Lib.hid h
  have HP := Lib.hid hP
  have B := Lib.hid (BrAt.new w noBr (.slice none 0 0))
  clear h hP
  go_enter Tryd.func25, Tryd.ntmps25
  go_wp2_with (go_at_call 44; ((refine (find_no (H.out.alloc _) hd hs HP.out).mono ?_); rintro e w1 ⟨rfl, rfl⟩))
  have L := one_new w (BrO noBr (.slice none 0 0))
  refine (show bodyPost _ _ _ _ _ (w.alloc (BrO noBr (.slice none 0 0))) from ?_)
  generalize w.alloc (BrO noBr (.slice none 0 0)) = V at B L ⊢
  obtain ⟨g0, g1, g2, g3, g4, g5, g6, g7, g8, g9⟩ := B.out.cell
  exact bodyPost_ret (v := .tuple #[BrV noBr (.slice none 0 0), .int .i64 4]) (by simp [results, Tryd.results25, go_sem, g0, g1, g2, g3, g4, g5, g6, g7, g8, g9]) rfl ⟨rfl, L⟩

set_option maxHeartbeats 1000000 in
theorem del_busy (h : TreeAt w b F c st) {d : Int} {s : Txt} (hd : rng d) (hs : s.length ≤ maxLen) {g : Nat} {x : Nd} (hP : st.P (d, s) = some g) (hN : st.N g = some x) (hk : x.br.kind = 2) (hz : 0 < (st.Z x.br.dir).getD 0) :
    Calls Tryd.prog 25 #[TP b, .int .i64 d, .string (bs s)] w fun e w' => e = .returned (.tuple #[BrV noBr (.slice none 0 0), .int .i64 16]) ∧ Below w.heap.size w w' := by
  have hf := find_yes (h.alloc (BrO noBr (.slice none 0 0))) hd hs hP
  obtain ⟨mp, mg, mz, av, nv, h⟩ := h
  have T1 := h.below (one_new w (BrO noBr (.slice none 0 0)))
  have n1 := T1.node g x hN
  obtain ⟨c0, c1, c2, _⟩ := n1.cell
  have t3 := T1.drew.c3
  have l3 := T1.drew.lookZ (d := x.br.dir) n1.ok.dir
  have d2 : (w.alloc (BrO noBr (.slice none 0 0))).drew.cell? ⟨g, 2, none⟩ = some (.int .i64 x.br.dir) := c2
  have e1 : (x.br.kind == 1) = false := by simp [hk]
  have e2 : (x.br.kind == 2) = true := by simp [hk]
  have e3 : decide (0 < (st.Z x.br.dir).getD 0) = true := by simpa using hz
  have HF := Lib.hid hf
  have hgl := (h.node g x hN).lt
  have B := Lib.hid (BrAt.new w noBr (.slice none 0 0))
  have L := Lib.hid (one_new w (BrO noBr (.slice none 0 0)))
  clear h hf T1 n1 hk hz
  generalize (st.Z x.br.dir).getD 0 = zn at *
  go_enter Tryd.func25, Tryd.ntmps25
  go_wp2_with (go_at_call 44; ((refine HF.out.mono ?_); rintro e w1 ⟨rfl, rfl⟩))
  go_region
  go_wp2
  refine (show bodyPost _ _ _ _ _ (w.alloc (BrO noBr (.slice none 0 0))).drew from ?_)
  have B' : Hid (BrAt (w.alloc (BrO noBr (.slice none 0 0))).drew w.heap.size noBr (.slice none 0 0)) := B
  have L' : Hid (Below w.heap.size w (w.alloc (BrO noBr (.slice none 0 0))).drew) := Lib.hid L.out.drew
  generalize (w.alloc (BrO noBr (.slice none 0 0))).drew = V at B' L' ⊢
  obtain ⟨g0, g1, g2, g3, g4, g5, g6, g7, g8, g9⟩ := B'.out.cell
  exact bodyPost_ret (v := .tuple #[BrV noBr (.slice none 0 0), .int .i64 16]) (by simp [results, Tryd.results25, go_sem, g0, g1, g2, g3, g4, g5, g6, g7, g8, g9]) rfl ⟨rfl, L'.out⟩

set_option maxHeartbeats 4000000 in
theorem del_seg (h : TreeAt w b F c st) {d : Int} {s : Txt} (hd : rng d) (hs : s.length ≤ maxLen) {g : Nat} {x : Nd} (hP : st.P (d, s) = some g) (hN : st.N g = some x) (hk : x.br.kind = 1) (hc : c < 10000) :
    Calls Tryd.prog 25 #[TP b, .int .i64 d, .string (bs s)] w fun e w' => ∃ a' c', e = .returned (.tuple #[BrV x.br (.slice a' x.br.acl.length c'), .int .i64 0]) ∧ TreeAt w' b F (c + 1 + 2 * x.names.length) (unbindAll d x.names { st with G := upd st.G x.br.uid none }) ∧ Went F w F w' := by
  have hf := find_yes (h.alloc (BrO noBr (.slice none 0 0))) hd hs hP
  have hltF := Lib.hid h.ltF
  obtain ⟨p, gm, z, av, nv, h⟩ := h.made hP
  have T1 := h.below (one_new w (BrO noBr (.slice none 0 0)))
  have n1 := T1.node g x hN
  have hnc := n1.ok.names
  have htxt := Lib.hid n1.ok.txt
  obtain ⟨c0, c1, c2, _⟩ := n1.cell
  have HF := Lib.hid hf
  have hgl := (h.node g x hN).lt
  have B := Lib.hid (BrAt.new w noBr (.slice none 0 0))
  have L := Lib.hid (one_new w (BrO noBr (.slice none 0 0)))
  have e1 : (x.br.kind == 1) = true := by simp [hk]
  have t2 := T1.drew.c2
  have d1 : (w.alloc (BrO noBr (.slice none 0 0))).drew.cell? ⟨g, 1, none⟩ = some (.int .i64 x.br.uid) := c1
  obtain ⟨w2, r2, T2, G2⟩ := T1.drew.dropG (u := x.br.uid) n1.ok.uid 0
  have X2 := Lib.hid ((G2.block w.heap.size (by simp) (fun hf => by have := hltF.out _ hf; omega)).trans B.out : BrAt w2 w.heap.size noBr (.slice none 0 0))
  have G2 := Lib.hid ((Went.of_below L.out).trans G2.ofdrew)
  have T2 := Lib.hid T2
  have HN0 := Lib.hid hN
  clear h hf T1 n1 hk hN
  go_enter Tryd.func25, Tryd.ntmps25
  go_wp2_with (go_at_call 44; ((refine HF.out.mono ?_); rintro e w1 ⟨rfl, rfl⟩))
  go_region
  generalize hst2 : { st with G := upd st.G x.br.uid none } = st2 at *
  have HS := Lib.hid hst2
  have hN2 : Hid (st2.N g = some x) := Lib.hid (by rw [← hst2]; exact HN0.out)
  clear hst2
  obtain ⟨a0, cap, hsl⟩ := nm_slice (T2.out.node g x hN2.out).nam
  have c11 := (T2.out.node g x hN2.out).cell.2.2.2.2.2.2.2.2.2.2.2
  rw [hsl] at c11
  have HSL := Lib.hid hsl
  clear hsl
  go_wp2
  go_loopw [67] (fun i V => ∃ k : Nat, k ≤ x.names.length ∧ i = .int .i64 k ∧ Hid (TreeL V b F (c + 1 + 2 * k) (unbindAll d (x.names.take k) st2) (some p) (some gm) (some z) av nv) ∧ Hid (Went F w F V) ∧ Hid (BrAt V w.heap.size noBr (.slice none 0 0))) (fun i _ => x.names.length - (intOf i).toNat)
  case atStart => exact ⟨0, Nat.zero_le _, rfl, T2, G2, X2⟩
  case round =>
    clear T2 G2 X2 c11
    obtain ⟨k, hk, rfl, hT, hG, hX⟩ := hrel
    have hNk : Hid ((unbindAll d (x.names.take k) st2).N g = some x) := Lib.hid (by rw [unbindAll_N]; exact hN2.out)
    have hn := hT.out.node g x hNk.out
    rw [HSL.out] at hn
    by_cases hlt : k < x.names.length
    · obtain ⟨kb, rfl, hkb, hc1⟩ := hn.name_at hlt
      have hsz : x.names[k].length ≤ maxLen := htxt.out _ (List.getElem_mem _)
      have HU := Lib.hid (unbind_L hT.out (d := d) hd hsz (by omega))
      clear hn
      go_wp2_with (go_at_call 48; ((refine HU.out.mono ?_); rintro e w5 ⟨rfl, t5, g5⟩; have T5 := Lib.hid t5; have G5 := Lib.hid g5; clear t5 g5))
      go_roundw
      case rel =>
        refine ⟨k + 1, by omega, by go_num, Lib.hid ?_, Lib.hid (hG.out.trans G5.out), Lib.hid ((G5.out.block _ hX.out.lt (fun hf => by have := hltF.out _ hf; omega)).trans hX.out)⟩
        rw [take_more hlt, unbindAll_snoc]
        exact T5.out
      case measure => simp [intOf]; omega
    · obtain rfl : k = x.names.length := by omega
      rw [List.take_length] at hT hNk
      have HN4 := Lib.hid hn
      clear hn
      go_wp2_with (go_at_call 50; ((refine (shown_any HN4.out).mono ?_); rintro e w1 ⟨a', c', rfl, o1, b1⟩; have X1 := hX.out.below b1; obtain ⟨p0, p1, p2, p3, p4, p5, p6, p7, p8, p9⟩ := X1.cell; have f1 := X1.fz; have L1 := Lib.hid b1; clear o1 b1))
      have B5 := X1.stored x.br (.slice a' x.br.acl.length c')
      have T5 : TreeAt (setBr w1 w.heap.size x.br (.slice a' x.br.acl.length c')) b F (c + 1 + 2 * x.names.length) (unbindAll d x.names st2) :=
        (show TreeAt _ b F _ _ from ⟨_, _, _, _, _, hT.out.below L1.out⟩).setBr (fun hf => by have := hltF.out _ hf; omega) _ _
      have G5 : Went F w F (setBr w1 w.heap.size x.br (.slice a' x.br.acl.length c')) := (hG.out.trans (Went.of_below L1.out)).setOut (Nat.le_refl _) _ _
      refine (show bodyPost _ _ _ _ _ (setBr w1 w.heap.size x.br (.slice a' x.br.acl.length c')) from ?_)
      generalize setBr w1 w.heap.size x.br (.slice a' x.br.acl.length c') = V at B5 T5 G5 ⊢
      obtain ⟨g0, g1, g2, g3, g4, g5, g6, g7, g8, g9⟩ := B5.cell
      refine bodyPost_ret (v := .tuple #[BrV x.br (.slice a' x.br.acl.length c'), .int .i64 0]) (by simp [results, Tryd.results25, go_sem, g0, g1, g2, g3, g4, g5, g6, g7, g8, g9]) rfl ⟨a', c', rfl, ?_, G5⟩
      rw [HS.out]
      exact T5

set_option maxHeartbeats 4000000 in
theorem del_dir (h : TreeAt w b F c st) {d : Int} {s : Txt} (hd : rng d) (hs : s.length ≤ maxLen) {g : Nat} {x : Nd} (hP : st.P (d, s) = some g) (hN : st.N g = some x) (hk : x.br.kind = 2) (hz : (st.Z x.br.dir).getD 0 ≤ 0) (hc : c < 10000) :
    Calls Tryd.prog 25 #[TP b, .int .i64 d, .string (bs s)] w fun e w' => ∃ a' c', e = .returned (.tuple #[BrV x.br (.slice a' x.br.acl.length c'), .int .i64 0]) ∧ TreeAt w' b F (c + 1 + 2 * x.names.length) (unbindAll d x.names { st with Z := upd st.Z x.br.dir none }) ∧ Went F w F w' := by
  have hf := find_yes (h.alloc (BrO noBr (.slice none 0 0))) hd hs hP
  have hltF := Lib.hid h.ltF
  obtain ⟨p, gm, z, av, nv, h⟩ := h.made hP
  have T1 := h.below (one_new w (BrO noBr (.slice none 0 0)))
  have n1 := T1.node g x hN
  have hnc := n1.ok.names
  have htxt := Lib.hid n1.ok.txt
  obtain ⟨c0, c1, c2, _⟩ := n1.cell
  have HF := Lib.hid hf
  have hgl := (h.node g x hN).lt
  have B := Lib.hid (BrAt.new w noBr (.slice none 0 0))
  have L := Lib.hid (one_new w (BrO noBr (.slice none 0 0)))
  have e1 : (x.br.kind == 1) = false := by simp [hk]
  have e2 : (x.br.kind == 2) = true := by simp [hk]
  have t3 := T1.drew.c3
  have l3 := T1.drew.lookZ (d := x.br.dir) n1.ok.dir
  have d2 : (w.alloc (BrO noBr (.slice none 0 0))).drew.cell? ⟨g, 2, none⟩ = some (.int .i64 x.br.dir) := c2
  have e3 : decide (0 < (st.Z x.br.dir).getD 0) = false := by simp; omega
  have t4 := T1.drew.drew.c3
  have d4 : (w.alloc (BrO noBr (.slice none 0 0))).drew.drew.cell? ⟨g, 2, none⟩ = some (.int .i64 x.br.dir) := c2
  obtain ⟨w2, r2, T2, G2⟩ := T1.drew.drew.dropZ (d := x.br.dir) n1.ok.dir 0
  have X2 := Lib.hid ((G2.block w.heap.size (by simp) (fun hf => by have := hltF.out _ hf; omega)).trans B.out : BrAt w2 w.heap.size noBr (.slice none 0 0))
  have G2 := Lib.hid ((Went.of_below L.out).trans G2.ofdrew.ofdrew)
  have T2 := Lib.hid T2
  have HN0 := Lib.hid hN
  clear h hf T1 n1 hk hN hz
  generalize (st.Z x.br.dir).getD 0 = zn at l3 e3
  go_enter Tryd.func25, Tryd.ntmps25
  go_wp2_with (go_at_call 44; ((refine HF.out.mono ?_); rintro e w1 ⟨rfl, rfl⟩))
  go_region
  go_wp2
  go_region
  generalize hst2 : { st with Z := upd st.Z x.br.dir none } = st2 at *
  have HS := Lib.hid hst2
  have hN2 : Hid (st2.N g = some x) := Lib.hid (by rw [← hst2]; exact HN0.out)
  clear hst2
  obtain ⟨a0, cap, hsl⟩ := nm_slice (T2.out.node g x hN2.out).nam
  have c11 := (T2.out.node g x hN2.out).cell.2.2.2.2.2.2.2.2.2.2.2
  rw [hsl] at c11
  have HSL := Lib.hid hsl
  clear hsl
  go_wp2
  go_loopw [67] (fun i V => ∃ k : Nat, k ≤ x.names.length ∧ i = .int .i64 k ∧ Hid (TreeL V b F (c + 1 + 2 * k) (unbindAll d (x.names.take k) st2) (some p) (some gm) (some z) av nv) ∧ Hid (Went F w F V) ∧ Hid (BrAt V w.heap.size noBr (.slice none 0 0))) (fun i _ => x.names.length - (intOf i).toNat)
  case atStart => exact ⟨0, Nat.zero_le _, rfl, T2, G2, X2⟩
  case round =>
    clear T2 G2 X2 c11
    obtain ⟨k, hk, rfl, hT, hG, hX⟩ := hrel
    have hNk : Hid ((unbindAll d (x.names.take k) st2).N g = some x) := Lib.hid (by rw [unbindAll_N]; exact hN2.out)
    have hn := hT.out.node g x hNk.out
    rw [HSL.out] at hn
    by_cases hlt : k < x.names.length
    · obtain ⟨kb, rfl, hkb, hc1⟩ := hn.name_at hlt
      have hsz : x.names[k].length ≤ maxLen := htxt.out _ (List.getElem_mem _)
      have HU := Lib.hid (unbind_L hT.out (d := d) hd hsz (by omega))
      clear hn
      go_wp2_with (go_at_call 48; ((refine HU.out.mono ?_); rintro e w5 ⟨rfl, t5, g5⟩; have T5 := Lib.hid t5; have G5 := Lib.hid g5; clear t5 g5))
      go_roundw
      case rel =>
        refine ⟨k + 1, by omega, by go_num, Lib.hid ?_, Lib.hid (hG.out.trans G5.out), Lib.hid ((G5.out.block _ hX.out.lt (fun hf => by have := hltF.out _ hf; omega)).trans hX.out)⟩
        rw [take_more hlt, unbindAll_snoc]
        exact T5.out
      case measure => simp [intOf]; omega
    · obtain rfl : k = x.names.length := by omega
      rw [List.take_length] at hT hNk
      have HN4 := Lib.hid hn
      clear hn
      go_wp2_with (go_at_call 50; ((refine (shown_any HN4.out).mono ?_); rintro e w1 ⟨a', c', rfl, o1, b1⟩; have X1 := hX.out.below b1; obtain ⟨p0, p1, p2, p3, p4, p5, p6, p7, p8, p9⟩ := X1.cell; have f1 := X1.fz; have L1 := Lib.hid b1; clear o1 b1))
      have B5 := X1.stored x.br (.slice a' x.br.acl.length c')
      have T5 : TreeAt (setBr w1 w.heap.size x.br (.slice a' x.br.acl.length c')) b F (c + 1 + 2 * x.names.length) (unbindAll d x.names st2) :=
        (show TreeAt _ b F _ _ from ⟨_, _, _, _, _, hT.out.below L1.out⟩).setBr (fun hf => by have := hltF.out _ hf; omega) _ _
      have G5 : Went F w F (setBr w1 w.heap.size x.br (.slice a' x.br.acl.length c')) := (hG.out.trans (Went.of_below L1.out)).setOut (Nat.le_refl _) _ _
      refine (show bodyPost _ _ _ _ _ (setBr w1 w.heap.size x.br (.slice a' x.br.acl.length c')) from ?_)
      generalize setBr w1 w.heap.size x.br (.slice a' x.br.acl.length c') = V at B5 T5 G5 ⊢
      obtain ⟨g0, g1, g2, g3, g4, g5, g6, g7, g8, g9⟩ := B5.cell
      refine bodyPost_ret (v := .tuple #[BrV x.br (.slice a' x.br.acl.length c'), .int .i64 0]) (by simp [results, Tryd.results25, go_sem, g0, g1, g2, g3, g4, g5, g6, g7, g8, g9]) rfl ⟨a', c', rfl, ?_, G5⟩
      rw [HS.out]
      exact T5

end

end Go.Proofs.YtpcdcmoapenbdaaDoor.T
