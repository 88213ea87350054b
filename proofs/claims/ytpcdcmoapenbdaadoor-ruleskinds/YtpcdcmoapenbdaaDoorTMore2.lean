/-
  Unname; Delete of a link; the law's own comparison of rows of names.
-/
import Derived.Test.YtpcdcmoapenbdaaDoorTMore
import Derived.Test.YtpcdcmoapenbdaaDoorNRow
namespace Go.Proofs.YtpcdcmoapenbdaaDoor.T
open Go.ChangeShapes Go.WideShapes Go.ChangeAt Go.RowKit
open Go.Proofs.YtpcdcmoapenbdaaDoor.N (bs bs_data bs_size bs_inj Row)
open Go.Proofs.YtpcdcmoapenbdaaDoor.A (Tm TRow)

theorem heap_putRow {α : Type} [Inhabited α] (enc : α → Value) (w : World) (blk off k : Nat) (d : Array α) (h : k ≠ blk) : (Sort.putRow enc w blk off d).heap[k]? = w.heap[k]? := by
  simp [Sort.putRow, Sort.mapBlock, Array.getElem?_modify, Ne.symm h]

/-- a row of texts of which one is struck -/
theorem putCells_take (d : Array Txt) (cur : Array Value) (h : d.size ≤ cur.size) : (Sort.putCells encStr 0 d cur).toList.take d.size = d.toList.map fun p => Value.string (bs p) := by
  apply List.ext_getElem?
  intro k
  rw [List.getElem?_take]
  by_cases hk : k < d.size
  · rw [if_pos hk, Array.getElem?_toList, Sort.putCells, Array.getElem?_mapIdx, List.getElem?_map, Array.getElem?_toList, Array.getElem?_eq_getElem (show k < cur.size by omega), Array.getElem?_eq_getElem hk]
    simp [hk, bs]
  · rw [if_neg hk, List.getElem?_eq_none (by simp; omega)]
theorem heap_putRow_at {w : World} {blk off : Nat} {d : Array Txt} {cur : Array Value} {e : TypeId} {fr : Nat × Nat} (h : w.heap[blk]? = some (.cells cur e fr)) : (Sort.putRow encStr w blk off d).heap[blk]? = some (.cells (Sort.putCells encStr off d cur) e fr) := by
  simp [Sort.putRow, Sort.mapBlock, Array.getElem?_modify, h, Sort.onCells]

section
variable {w : World} {b : Nat} {F : Nat → Prop} {c : Nat} {st : St}

theorem unname_busy (h : TreeAt w b F c st) {d : Int} {s : Txt} (hd : rng d) (hs : s.length ≤ maxLen) {g : Nat} {x : Nd} (hP : st.P (d, s) = some g) (hN : st.N g = some x) (h1 : x.names.length = 1) :
    Calls Tryd.prog 23 #[TP b, .int .i64 d, .string (bs s)] w fun e w' => e = .returned (.int .i64 16) ∧ w = w' := by
  have hf := find_yes h hd hs hP
  obtain ⟨mp, mg, mz, av, nv, h⟩ := h
  have hn := h.node g x hN
  have c11 := hn.cell.2.2.2.2.2.2.2.2.2.2.2
  obtain ⟨a, cap, hsl⟩ := nm_slice hn.nam
  rw [hsl, h1] at c11
  clear hn h hsl
  go_enter Tryd.func23, Tryd.ntmps23
  go_wp2_with (go_at_call 44; ((with_reducible refine hf.mono ?_); rintro e w1 ⟨rfl, rfl⟩))
  go_ret
  exact ⟨rfl, rfl⟩

/-- a node with a name less; the state then -/
def lessX (x : Nd) (i : Nat) : Nd := { x with names := x.names.take i ++ x.names.drop (i + 1) }

theorem TreeL.less {mp mg mz : Option Nat} {av nv : Nat → Value} (h : TreeL w b F c st mp mg mz av nv) {g : Nat} {x : Nd} (hg : st.N g = some x) {blk cap i q : Nat} (hv : nv g = .slice (some ⟨blk, 0, none⟩) x.names.length cap) (hi : i < x.names.length) {V : World}
    (hV : V = Sort.putRow encStr (Sort.ahead w q) blk 0 (x.names.take i ++ x.names.drop (i + 1) ++ List.replicate (i + 1 - i) []).toArray) :
    TreeL (V.setCell ⟨g, 11, none⟩ (.slice (some ⟨blk, 0, none⟩) (x.names.length - 1) cap)) b F c (nodeS st g (lessX x i)) mp mg mz (upd av g (av g)) (upd nv g (.slice (some ⟨blk, 0, none⟩) (x.names.length - 1) cap)) ∧ Went F w F (V.setCell ⟨g, 11, none⟩ (.slice (some ⟨blk, 0, none⟩) (x.names.length - 1) cap)) ∧ V.heap[g]? = some (NdO x (av g) (nv g)) := by
  have h0 := h.node g x hg
  have hn := h0.nam
  rw [hv] at hn
  obtain ⟨g', cap', cur, e, _, hgb, hnc, hcm, hcs, htk⟩ : ∃ g' cap' cur, Value.slice (some ⟨blk, 0, none⟩) x.names.length cap = .slice (some ⟨g', 0, none⟩) x.names.length cap' ∧ 0 ≤ g' ∧ w.heap[g']? = some (.cells cur 9 (0, 0)) ∧ x.names.length ≤ cap' ∧ cap' ≤ maxLen ∧ cur.size = cap' * 1 ∧ cur.toList.take (x.names.length * 1) = vals x.names := by
    rcases hn.2 with ⟨_, e⟩ | h2
    · omega
    · exact h2
  simp only [Value.slice.injEq, Option.some.injEq, Addr.mk.injEq, and_true, true_and] at e
  obtain ⟨rfl, rfl⟩ := e
  have hF : F blk := h0.namF blk (by rw [hv]; rfl)
  have hle : (lessX x i).names.length = x.names.length - 1 := by simp [lessX]; omega
  have hsz : (x.names.take i ++ x.names.drop (i + 1) ++ List.replicate (i + 1 - i) ([] : Txt)).length = x.names.length := by simp; omega
  have oth : ∀ k, k ≠ blk → V.heap[k]? = w.heap[k]? := fun k hk => by rw [hV, heap_putRow _ _ _ _ _ _ hk]; rfl
  have hrow : V.heap[blk]? = some (.cells (Sort.putCells encStr 0 (x.names.take i ++ x.names.drop (i + 1) ++ List.replicate (i + 1 - i) []).toArray cur) 9 (0, 0)) := by rw [hV]; exact heap_putRow_at hgb
  have hVs : V.heap.size = w.heap.size := by rw [hV]; simp
  have gne : g ≠ blk := tag_ne h0.cells hgb (by decide)
  have cg := (oth g gne).trans h0.cells
  refine ⟨?_, ?_, cg⟩
  · refine h.renode hg (fun _ hi => hi) (fun j hj => by simp [hVs]; exact h.ltF j hj) (fun j hj hne hne' => ?_) ?_ (fun g' y hy hne k ek ek' => ?_)
    · rw [other_set _ _ hne]
      exact oth j (fun e => hne' (by rw [hv, e]; rfl))
    · exact {
        cells := by rw [head_set cg]; simp [lessX]
        inF := h0.inF
        acl := by
          refine row_of h0.acl (fun k ek => ?_)
          obtain ⟨cs, hcs⟩ := row_tag h0.acl ek
          rw [other_set _ _ (tag_ne hcs h0.cells (by decide))]
          exact oth k (tag_ne hcs hgb (by decide))
        aclF := h0.aclF
        nam := by
          refine row_of (w := V) ?_ (fun k ek => ?_)
          · show World.ownsRow V 0 9 1 (.slice (some ⟨blk, 0, none⟩) (x.names.length - 1) cap) (lessX x i).names.length (vals (lessX x i).names)
            rw [hle]
            refine ⟨by simp [vals, hle], Or.inr ⟨blk, cap, _, rfl, Nat.zero_le _, hrow, by omega, hcm, by simp [Sort.putCells, hcs], ?_⟩⟩
            have hp := putCells_take (x.names.take i ++ x.names.drop (i + 1) ++ List.replicate (i + 1 - i) []).toArray cur (by simp [hcs] at hsz ⊢; omega)
            have e1 : ((x.names.take i ++ x.names.drop (i + 1) ++ List.replicate (i + 1 - i) ([] : Txt)).toArray).size = x.names.length := by simpa using hsz
            rw [e1] at hp
            have e2 := congrArg (List.take ((x.names.length - 1) * 1)) hp
            rw [List.take_take, show min ((x.names.length - 1) * 1) x.names.length = (x.names.length - 1) * 1 by omega] at e2
            rw [e2]
            have e3 : (x.names.take i ++ x.names.drop (i + 1)).length = (x.names.length - 1) * 1 := by simp; omega
            simp only [List.map_append]
            rw [List.take_append_of_le_length (by simp; omega), List.take_of_length_le (by simp; omega)]
            simp [vals, lessX]
          · cases ek
            exact other_set _ _ (Ne.symm gne)
        namF := fun k ek => by cases ek; exact hF
        ok := ⟨by have := h0.ok.names; rw [hle]; omega, h0.ok.home, h0.ok.uid, h0.ok.dir, fun t ht => by
          simp only [lessX] at ht
          rcases List.mem_append.1 ht with ht | ht
          · exact h0.ok.txt t (List.mem_of_mem_take ht)
          · exact h0.ok.txt t (List.mem_of_mem_drop ht), h0.ok.acl⟩ }
    · cases ek'
      exact hne (h.apart g' g y x hy hg _ ek (by rw [hv]; rfl))
  · have w1 : Went F w F V := ⟨by rw [hV]; rfl, by rw [hV]; rfl, by rw [hV]; rfl, by omega, fun k hk hn => oth k (fun e => hn (e ▸ hF)), fun _ h => Or.inl h⟩
    exact w1.set h0.inF

set_option maxHeartbeats 2000000 in
theorem unname_at (h : TreeAt w b F c st) {d : Int} {s : Txt} (hd : rng d) (hs : s.length ≤ maxLen) {g : Nat} {x : Nd} (hP : st.P (d, s) = some g) (hN : st.N g = some x) (h1 : ¬ x.names.length = 1) {i : Nat} (hi : i < x.names.length) (hix : Lib.idxOfS (x.names.map bs) (bs s) = i) (hc : c < 10000) :
    Calls Tryd.prog 23 #[TP b, .int .i64 d, .string (bs s)] w fun e w' => e = .returned (.int .i64 0) ∧ TreeAt w' b F (c + 2) (unbindS (nodeS st g (lessX x i)) d s) ∧ Went F w F w' := by
  have hf := find_yes h hd hs hP
  obtain ⟨p, gm, z, av, nv, h⟩ := h.made hP
  have hn := h.node g x hN
  have c11 := hn.cell.2.2.2.2.2.2.2.2.2.2.2
  have hnc := hn.ok.names
  obtain ⟨a, cap, hsl⟩ := nm_slice hn.nam
  have hnr := hn
  rw [hsl] at hnr
  obtain ⟨blk, rfl, hblk, _⟩ := hnr.name_at hi
  have hcap : x.names.length ≤ cap ∧ cap ≤ maxLen := by
    rcases hnr.nam.2 with ⟨_, e⟩ | ⟨_, cap', _, e, _, _, h1, h2, _⟩
    · omega
    · simp only [Value.slice.injEq] at e
      obtain ⟨_, _, rfl⟩ := e
      exact ⟨h1, h2⟩
  have hcells : ∀ j, j < x.names.length → w.cell? ⟨blk, j, none⟩ = some (.string (bs (x.names.getD j []))) ∧ w.frozen? ⟨blk, j, none⟩ = false := fun j hj => by
    obtain ⟨kb, e, _, hcj⟩ := hnr.name_at hj
    simp only [Option.some.injEq, Addr.mk.injEq, and_true] at e
    subst e
    refine ⟨by rw [hcj]; simp [hj], ?_⟩
    obtain ⟨cs, hcs⟩ := row_tag hnr.nam (k := blk) rfl
    simp [World.frozen?, hcs]
  have hidx := Tryd.slices_Index_string blk 0 x.names.length cap (x.names.map bs) (bs s) w (by simp) (by omega) (fun j hj => by
    have hj' : j < x.names.length := by simpa using hj
    rw [Nat.zero_add, (hcells j hj').1]
    simp [hj'])
  rw [List.take_of_length_le (by simp), hix] at hidx
  have hH : Sort.Holds encStr w blk 0 x.names.toArray := fun j hj => by
    have hj' : j < x.names.length := by simpa using hj
    rw [Nat.zero_add]
    refine ⟨?_, (hcells j hj').2⟩
    rw [(hcells j hj').1]
    simp [hj', bs]
  have hdel := Tryd.slices_Delete_string blk 0 cap i (i + 1) x.names w hH hcap.1 (by have := hcap.2; unfold maxLen at this; omega) (by omega) (by omega)
  rw [show x.names.length - (i + 1 - i) = x.names.length - 1 by omega] at hdel
  rw [hsl] at c11
  have e1 : ((x.names.length : Int) == 1) = false := by simp; omega
  have HI := Lib.hid hidx
  have HD := Lib.hid hdel
  have H := Lib.hid h
  have HN := Lib.hid hN
  have HSL := Lib.hid hsl
  have HF := Lib.hid hf
  clear hn hnr h hidx hdel hN hsl hH hcells hf hcap h1 hix
  go_enter Tryd.func23, Tryd.ntmps23
  go_wp2_with (first
    | (go_at_call 44; ((refine HF.out.mono ?_); rintro e w1 ⟨rfl, rfl⟩))
    | (go_at_call 46; ((refine HI.out.mono ?_); rintro e w1 ⟨rfl, rfl⟩))
    | (go_at_call 47; ((refine HD.out.mono ?_); rintro e w3 ⟨rfl, q, hq⟩; obtain ⟨t3, x3, cg⟩ := H.out.less HN.out HSL.out hi hq; have g11 : w3.cell? ⟨g, 11, none⟩ = some (nv g) := (by simp [World.cell?, cg]); have gf : w3.frozen? ⟨g, 11, none⟩ = false := (by simp [World.frozen?, cg]); have T3 := Lib.hid t3; have X3 := Lib.hid x3; clear t3 x3 cg hq))
    | (go_at_call 48; ((refine (unbind_L T3.out hd hs (by omega)).mono ?_); rintro e w4 ⟨rfl, t4, x4⟩; have T4 := Lib.hid t4; have X4 := Lib.hid x4; clear t4 x4)))
  go_ret
  exact ⟨rfl, ⟨_, _, _, _, _, T4.out⟩, X3.out.trans X4.out⟩

set_option maxRecDepth 8000 in
set_option maxHeartbeats 4000000 in
theorem del_link (h : TreeAt w b F c st) {d : Int} {s : Txt} (hd : rng d) (hs : s.length ≤ maxLen) {g : Nat} {x : Nd} (hP : st.P (d, s) = some g) (hN : st.N g = some x) (hk : x.br.kind = 3) (hc : c < 10000) :
    Calls Tryd.prog 25 #[TP b, .int .i64 d, .string (bs s)] w fun e w' => ∃ a' c', e = .returned (.tuple #[BrV x.br (.slice a' x.br.acl.length c'), .int .i64 0]) ∧ TreeAt w' b F (c + 1 + 2 * x.names.length) (unbindAll d x.names st) ∧ Went F w F w' := by
  have hf := find_yes (h.alloc (BrO noBr (.slice none 0 0))) hd hs hP
  have hltF := Lib.hid h.ltF
  obtain ⟨p, gm, z, av, nv, h⟩ := h.made hP
  have T1 := h.below (one_new w (BrO noBr (.slice none 0 0)))
  have n1 := T1.node g x hN
  have hnc := n1.ok.names
  have htxt := Lib.hid n1.ok.txt
  obtain ⟨c0, c1, c2, cz⟩ := n1.cell
  clear cz
  have HF := Lib.hid hf
  have hgl := (h.node g x hN).lt
  have B := Lib.hid (BrAt.new w noBr (.slice none 0 0))
  have L := Lib.hid (one_new w (BrO noBr (.slice none 0 0)))
  have e1 : (x.br.kind == 1) = false := by simp [hk]
  have e2 : (x.br.kind == 2) = false := by simp [hk]
  have T2 := Lib.hid (T1.mono (Nat.le_succ c))
  have X2 := B
  have G2 : Hid (Went F w F (w.alloc (BrO noBr (.slice none 0 0)))) := Lib.hid (Went.of_below L.out)
  have HN0 := Lib.hid hN
  clear h hf T1 n1 hk hN
  have hst2 : st = st := rfl
  have HS := Lib.hid hst2
  have hN2 : Hid (st.N g = some x) := Lib.hid (by rw [← hst2]; exact HN0.out)
  clear hst2
  obtain ⟨a0, cap, hsl⟩ := nm_slice (T2.out.node g x hN2.out).nam
  have c11 := (T2.out.node g x hN2.out).cell.2.2.2.2.2.2.2.2.2.2.2
  rw [hsl] at c11
  have HSL := Lib.hid hsl
  clear hsl
  go_enter Tryd.func25, Tryd.ntmps25
  go_wp2_with (go_at_call 44; ((refine HF.out.mono ?_); rintro e w1 ⟨rfl, rfl⟩))
  go_loopw [67] (fun i V => ∃ k : Nat, k ≤ x.names.length ∧ i = .int .i64 k ∧ Hid (TreeL V b F (c + 1 + 2 * k) (unbindAll d (x.names.take k) st) (some p) (some gm) (some z) av nv) ∧ Hid (Went F w F V) ∧ Hid (BrAt V w.heap.size noBr (.slice none 0 0))) (fun i _ => x.names.length - (intOf i).toNat)
  case atStart => exact ⟨0, Nat.zero_le _, rfl, T2, G2, X2⟩
  case round =>
    clear T2 G2 X2 c11
    obtain ⟨k, hk, rfl, hT, hG, hX⟩ := hrel
    have hNk : Hid ((unbindAll d (x.names.take k) st).N g = some x) := Lib.hid (by rw [unbindAll_N]; exact hN2.out)
    have hn := hT.out.node g x hNk.out
    rw [HSL.out] at hn
    by_cases hlt : k < x.names.length
    · obtain ⟨kb, rfl, hkb, hc1⟩ := hn.name_at hlt
      have hsz : x.names[k].length ≤ maxLen := htxt.out _ (List.getElem_mem _)
      have HU := Lib.hid (unbind_L hT.out (d := d) hd hsz (by omega))
      clear hn
      go_wp2_with (go_at_call 48; ((refine HU.out.mono ?_); rintro e w5 ⟨rfl, t5, g5⟩; have T5 := Lib.hid t5; have G5 := Lib.hid g5; clear t5 g5))
      go_roundw
      case rel =>
        refine ⟨k + 1, by omega, by go_num, Lib.hid ?_, Lib.hid (hG.out.trans G5.out), Lib.hid ((G5.out.block _ hX.out.lt (fun hf => by have := hltF.out _ hf; omega)).trans hX.out)⟩
        rw [take_more hlt, unbindAll_snoc]
        exact T5.out
      case measure => simp [intOf]; omega
    · obtain rfl : k = x.names.length := by omega
      rw [List.take_length] at hT hNk
      have HN4 := Lib.hid hn
      clear hn
      go_wp2_with (go_at_call 50; ((refine (shown_any HN4.out).mono ?_); rintro e w1 ⟨a', c', rfl, o1, b1⟩; have X1 := hX.out.below b1; obtain ⟨p0, p1, p2, p3, p4, p5, p6, p7, p8, p9⟩ := X1.cell; have f1 := X1.fz; have L1 := Lib.hid b1; clear o1 b1))
      have B5 := X1.stored x.br (.slice a' x.br.acl.length c')
      have T5 : TreeAt (setBr w1 w.heap.size x.br (.slice a' x.br.acl.length c')) b F (c + 1 + 2 * x.names.length) (unbindAll d x.names st) :=
        (show TreeAt _ b F _ _ from ⟨_, _, _, _, _, hT.out.below L1.out⟩).setBr (fun hf => by have := hltF.out _ hf; omega) _ _
      have G5 : Went F w F (setBr w1 w.heap.size x.br (.slice a' x.br.acl.length c')) := (hG.out.trans (Went.of_below L1.out)).setOut (Nat.le_refl _) _ _
      refine (show bodyPost _ _ _ _ _ (setBr w1 w.heap.size x.br (.slice a' x.br.acl.length c')) from ?_)
      generalize setBr w1 w.heap.size x.br (.slice a' x.br.acl.length c') = V at B5 T5 G5 ⊢
      obtain ⟨g0, g1, g2, g3, g4, g5, g6, g7, g8, g9⟩ := B5.cell
      refine bodyPost_ret (v := .tuple #[BrV x.br (.slice a' x.br.acl.length c'), .int .i64 0]) (by simp [results, Tryd.results25, go_sem, g0, g1, g2, g3, g4, g5, g6, g7, g8, g9]) rfl ⟨a', c', rfl, ?_, G5⟩
      exact T5

end

end Go.Proofs.YtpcdcmoapenbdaaDoor.T
