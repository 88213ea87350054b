/-
  The document's own Look.
-/
import Derived.Test.YtdlgliajfmfngaaDoorMReads
namespace Go.Proofs.YtdlgliajfmfngaaDoor.T
open Go.ChangeShapes Go.WideShapes Go.ChangeAt Go.RowKit
open Go.Proofs.YtdlgliajfmfngaaDoor.N (bs bs_data bs_size bs_inj bs_of Glob)
open Go.Proofs.YtdlgliajfmfngaaDoor.A (Tm TRow)

section
variable {w : World} {b : Nat} {F : Nat → Prop} {m : Ms}

set_option maxHeartbeats 2000000 in
theorem mlook_no (h : MAt w b F m) {d : Int} {s : Txt} (hL : at? m.E d s = none) :
    Calls Tryd.prog 65 #[TP b, .int .i64 d, .string (bs s)] w fun e w' => e = .returned (.tuple #[BrV noBr (.slice none 0 0), .bool false]) ∧ Below w.heap.size w w' := by
  have ha := mat_any (h.below (one_new w (BmO noBr (.slice none 0 0)))) d s
  rw [hL] at ha
  have B := Lib.hid (BmAt.new w noBr (.slice none 0 0))
  clear h
  go_enter Tryd.func65, Tryd.ntmps65
  go_wp2_with (go_at_call 48; ((refine ha.mono ?_); rintro e w1 ⟨rfl, rfl⟩; simp only [atN]))
  refine (show bodyPost _ _ _ _ _ (w.alloc (BmO noBr (.slice none 0 0))) from ?_)
  generalize hV : w.alloc (BmO noBr (.slice none 0 0)) = V at B ⊢
  obtain ⟨g0, g1, g2, g3, g4, g5, g6, g7, g8, g9⟩ := B.out.cell
  exact bodyPost_ret (v := .tuple #[BrV noBr (.slice none 0 0), .bool false]) (by simp [results, Tryd.results65, go_sem, g0, g1, g2, g3, g4, g5, g6, g7, g8, g9]) rfl ⟨rfl, hV ▸ one_new _ _⟩

theorem own_trow {B : Nat} {V : World} {v : Value} {l : List Tm} (h : A.Own B V v l) : ∃ a' c', v = .slice a' l.length c' ∧ TRow V a' c' l := A.Own.row h

set_option maxHeartbeats 4000000 in
set_option maxRecDepth 8000 in
theorem mlook_yes (h : MAt w b F m) {d : Int} {s : Txt} {k : Nat} (hL : at? m.E d s = some k) {e : En} (hE : m.E[k]? = some e) {x : Br} (hX : m.B[e.2.1]? = some x) :
    Calls Tryd.prog 65 #[TP b, .int .i64 d, .string (bs s)] w (Lies w x fun v => .tuple #[v, .bool true]) := by
  have ha := mat_any (h.below (one_new w (BmO noBr (.slice none 0 0)))) d s
  rw [hL] at ha
  have X0 := Lib.hid (BmAt.new w noBr (.slice none 0 0))
  obtain ⟨bl, vB, vL, vD, h0, hB⟩ := h
  have h := h0.below (one_new w (BmO noBr (.slice none 0 0)))
  have hkl : k < m.E.length := (List.getElem?_eq_some_iff.1 hE).1
  have hke : m.E[k] = e := (List.getElem?_eq_some_iff.1 hE).2
  obtain ⟨a, cap, rfl, hc, hn, hg⟩ := h.eForm
  obtain ⟨a2, cap2, rfl, hc2, hg2, hn2⟩ := row_form h.rB
  obtain ⟨g, rfl, hgl, q0, q1, q2⟩ := h.eAt hkl
  have hid : e.2.1 < bl.length := by rw [← hke]; exact h.ids _ (List.getElem_mem hkl)
  have hx : (bl[e.2.1]).1 = x := by
    rw [← hB, List.getElem?_map, List.getElem?_eq_getElem hid] at hX
    simpa using hX
  obtain ⟨g2, rfl, _, _, hgl2, r0, r1, r2, r3, r4, r5, r6, r7, r8, r9, _⟩ := h.brAt hid
  obtain ⟨a', c', hv, hrow⟩ := own_trow (h0.acl _ (List.getElem_mem hid))
  rw [hke] at q0 q1 q2
  rw [hx] at r0 r1 r2 r3 r4 r6 r7 r8 r9 hrow hv
  rw [hv] at r5
  have c0 := h.c0
  have c1 := h.c1
  have hlt := h.lt
  have hlen := h.len.2.1
  have hlenB := h.len.1
  have HR := Lib.hid hrow
  have hltw := h0.lt
  obtain ⟨s0, s1, s2, s3, s4, s5, s6, s7, s8, s9⟩ := X0.out.cell
  have f2 := X0.out.fz
  have xl := X0.out.lt
  generalize hii : e.2.1 = ii at q1 r0 r1 r2 r3 r4 r5 r6 r7 r8 r9 hid
  clear h h0 hB hX hE hke hx hii hrow hv
  go_enter Tryd.func65, Tryd.ntmps65
  go_wp2_with (go_at_call 48; ((refine ha.mono ?_); rintro e w1 ⟨rfl, rfl⟩; simp only [atN]))
  refine (show Code.wp _ _ _ _ (w.alloc (BmO noBr (.slice none 0 0))) from ?_)
  have B0 := Lib.hid (one_new w (BmO noBr (.slice none 0 0)))
  generalize w.alloc (BmO noBr (.slice none 0 0)) = V at *
  clear ha q0 q2 hn hg hn2 hg2
  go_still_tail 14, (by kernel_rfl)
  change wpList _ _ _ _ _ V.drew
  have X1 : Hid (BmAt V.drew w.heap.size noBr (.slice none 0 0)) := X0
  have B1 : Hid (Below w.heap.size w V.drew) := Lib.hid B0.out.drew
  clear X0 B0 c0 c1 q1 r0 r1 r2 r3 r4 r5 r6 r7 r8 r9 s0 s1 s2 s3 s4 s5 s6 s7 s8 s9 f2 xl
  generalize V.drew = V2 at *
  obtain ⟨s0, s1, s2, s3, s4, s5, s6, s7, s8, s9⟩ := X1.out.cell
  have f2 := X1.out.fz
  have xl := X1.out.lt
  go_wp2
  have X5 := X1.out.stored x (.slice a' x.acl.length c')
  have L5 := Below.setBr B1.out (k := w.heap.size) (Nat.le_refl _) x (.slice a' x.acl.length c')
  have R5 := HR.out.below L5
  refine (show bodyPost _ _ _ _ _ (setBr V2 w.heap.size x (.slice a' x.acl.length c')) from ?_)
  generalize setBr V2 w.heap.size x (.slice a' x.acl.length c') = V5 at X5 L5 R5 ⊢
  obtain ⟨g0, g1, g2', g3, g4, g5, g6, g7, g8, g9⟩ := X5.cell
  exact bodyPost_ret (v := .tuple #[BrV x (.slice a' x.acl.length c'), .bool true]) (by simp [results, Tryd.results65, go_sem, g0, g1, g2', g3, g4, g5, g6, g7, g8, g9]) rfl ⟨a', c', rfl, R5, L5⟩

end

end Go.Proofs.YtdlgliajfmfngaaDoor.T
