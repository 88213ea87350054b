/-
  More ways of taken and Add: a number that is there, brackets that may not be, links.
  Unname; Delete of a link; the law's own comparison of rows of names.
-/
import Derived.Test.YtpcdcmoapenbdaaDoorTDelete
import Derived.Test.YtpcdcmoapenbdaaDoorShelf
import Derived.Test.YtpcdcmoapenbdaaDoorNRow
namespace Go.Proofs.YtpcdcmoapenbdaaDoor.T
open Go.ChangeShapes Go.WideShapes Go.ChangeAt Go.RowKit
open Go.Proofs.YtpcdcmoapenbdaaDoor.N (bs bs_data bs_size bs_inj)
open Go.Proofs.YtpcdcmoapenbdaaDoor.A (Tm TRow)

theorem Box2.drewN {w V : World} {br : Br} {va : Value} (h : Box2 w V br va) (n : Nat) : Box2 w (V.drewN n) br va := h.below (bel_drewN V n)

section
variable {w : World} {b : Nat} {F : Nat → Prop} {c : Nat} {st : St}

set_option maxHeartbeats 4000000 in
theorem taken_ring {br : Br} {a : Option Addr} {cc : Nat} (hr : TRow w a cc br.acl) (htx : ∀ t ∈ br.acl, t.1.length ≤ maxLen) (hk : br.kind = 1) (hu : 1 ≤ br.uid) (ha : A.lmay br.acl = true) (hb : W.bmay br.r1 br.r2 br.r3 br.gt = false) :
    Calls Tryd.prog 40 #[TP b, BrV br (.slice a br.acl.length cc)] w fun e w' => e = .returned (.tuple #[BrV noBr (.slice none 0 0), .int .i64 1]) ∧ Below w.heap.size w w' := by
  have HR := Lib.hid hr
  have HT := Lib.hid htx
  have HA := Lib.hid ha
  have HB := Lib.hid hb
  have e1 : (br.kind == 1) = true := by simpa using hk
  have e2 : decide (br.uid < 1) = false := by simp; omega
  clear hr htx ha hb hk hu
  go_enter Tryd.func40, Tryd.ntmps40
  go_wp2_with (first
    | (go_at_call 53; ((refine (aclMay_is ((HR.out.alloc _).alloc _) HT.out HA.out).mono ?_); rintro e w1 ⟨rfl, b1⟩; have X1 := Lib.hid ((Box2.new w br (.slice a br.acl.length cc)).below b1); obtain ⟨q0, q1, q2, q3, q4, q5, q6, q7, q8, q9⟩ := X1.out.one.cell; clear b1))
    | (go_at_call 56; ((refine (ringMay_is w1 HB.out).mono ?_); rintro e w2 ⟨rfl, b2⟩; have X2 := Lib.hid (X1.out.below b2); obtain ⟨s0, s1, s2, s3, s4, s5, s6, s7, s8, s9⟩ := X2.out.two.cell; have f2 := X2.out.two.fz; clear b2)))
  have X5 := Top.of X2.out noBr
  refine (show bodyPost _ _ _ _ _ (setBr w2 (w.heap.size + 1) noBr (.slice none 0 0)) from ?_)
  generalize setBr w2 (w.heap.size + 1) noBr (.slice none 0 0) = V at X5 ⊢
  obtain ⟨g0, g1, g2, g3, g4, g5, g6, g7, g8, g9⟩ := X5.at_.cell
  exact bodyPost_ret (v := .tuple #[BrV noBr (.slice none 0 0), .int .i64 1]) (by simp [results, Tryd.results40, go_sem, g0, g1, g2, g3, g4, g5, g6, g7, g8, g9]) rfl ⟨rfl, X5.bel⟩

set_option maxHeartbeats 4000000 in
theorem taken_there (h : TreeAt w b F c st) {br : Br} {a : Option Addr} {cc : Nat} (hr : TRow w a cc br.acl) (htx : ∀ t ∈ br.acl, t.1.length ≤ maxLen) (hk : br.kind = 1) (hu : 1 ≤ br.uid) (hu' : br.uid ≤ 9223372036854775807) (ha : A.lmay br.acl = true) (hb : W.bmay br.r1 br.r2 br.r3 br.gt = true) {g : Nat} (hG : st.G br.uid = some g) :
    Calls Tryd.prog 40 #[TP b, BrV br (.slice a br.acl.length cc)] w fun e w' => e = .returned (.tuple #[BrV noBr (.slice none 0 0), .int .i64 5]) ∧ Below w.heap.size w w' := by
  obtain ⟨mp, mg, mz, av, nv, h⟩ := h
  have HR := Lib.hid hr
  have HT := Lib.hid htx
  have H := Lib.hid h
  have HG := Lib.hid hG
  have HA := Lib.hid ha
  have HB := Lib.hid hb
  have hbl := h.lt
  have e1 : (br.kind == 1) = true := by simpa using hk
  have e2 : decide (br.uid < 1) = false := by simp; omega
  have hU : rng br.uid := ⟨by omega, hu'⟩
  clear hr htx h hG ha hb hk hu hu'
  go_enter Tryd.func40, Tryd.ntmps40
  go_wp2_with (first
    | (go_at_call 53; ((refine (aclMay_is ((HR.out.alloc _).alloc _) HT.out HA.out).mono ?_); rintro e w1 ⟨rfl, b1⟩; have X1 := Lib.hid ((Box2.new w br (.slice a br.acl.length cc)).below b1); obtain ⟨q0, q1, q2, q3, q4, q5, q6, q7, q8, q9⟩ := X1.out.one.cell; clear b1))
    | (go_at_call 56; ((refine (ringMay_is w1 HB.out).mono ?_); rintro e w2 ⟨rfl, b2⟩; have X2 := Lib.hid (X1.out.below b2); obtain ⟨s0, s1, s2, s3, s4, s5, s6, s7, s8, s9⟩ := X2.out.one.cell; clear b2; have T2 := Lib.hid (H.out.below X2.out.bel).drew; have t2 := T2.out.c2; have t3 := T2.out.lookG (u := br.uid) hU; rw [HG.out] at t3; simp only [ptrOf, Option.isSome_some] at t3)))
  go_region
  clear q0 q1 q2 q3 q4 q5 q6 q7 q8 q9 s0 s1 s2 s3 s4 s5 s6 s7 s8 s9 t2 t3
  have X3 := Lib.hid X2.out.drew
  obtain ⟨s0, s1, s2, s3, s4, s5, s6, s7, s8, s9⟩ := X3.out.two.cell
  have f3 := X3.out.two.fz
  clear X1 X2 T2
  generalize w2.drew = V2 at *
  go_wp2
  have X5 := Top.of X3.out noBr
  refine (show bodyPost _ _ _ _ _ (setBr V2 (w.heap.size + 1) noBr (.slice none 0 0)) from ?_)
  generalize setBr V2 (w.heap.size + 1) noBr (.slice none 0 0) = V at X5 ⊢
  obtain ⟨g0, g1, g2, g3, g4, g5, g6, g7, g8, g9⟩ := X5.at_.cell
  exact bodyPost_ret (v := .tuple #[BrV noBr (.slice none 0 0), .int .i64 5]) (by simp [results, Tryd.results40, go_sem, g0, g1, g2, g3, g4, g5, g6, g7, g8, g9]) rfl ⟨rfl, X5.bel⟩

/-- names.Split at a text that is no path, and at the root -/
theorem split_no {l : Txt} (hl : l.length ≤ 168) (h : Lib.hasPrefix l [62] = false) (w : World) : Calls Tryd.prog 57 #[.string (bs l)] w fun e w' => e = .returned (.tuple #[.slice none 0 0, .int .i64 3]) ∧ w = w' := by
  have hs := bs_size l
  have h' : Lib.hasPrefix (bs l).data.toList [62] = false := by rw [bs_data]; exact h
  have hc : ∀ V, Calls Tryd.prog 72 #[.string (bs l), .string ⟨#[62]⟩] V fun e w' => e = .returned (.bool false) ∧ w' = V := fun V => by
    have := Tryd.strings_HasPrefix (bs l) ⟨#[62]⟩ V
    rw [show (⟨#[62]⟩ : ByteArray).data.toList = [62] from rfl, h'] at this
    exact this
  clear h h'
  go_enter Tryd.func57, Tryd.ntmps57
  go_wp2_with (go_at_call 72; ((refine (hc _).mono ?_); rintro e w' ⟨rfl, rfl⟩))
  exact bodyPost_ret (v := .tuple #[.slice none 0 0, .int .i64 3]) (by simp [results, Tryd.results57, go_sem]) rfl ⟨rfl, rfl⟩
theorem split_root (w : World) : Calls Tryd.prog 57 #[.string (bs [62])] w fun e w' => e = .returned (.tuple #[.slice none 0 0, .int .i64 0]) ∧ w = w' := by
  have hc : ∀ V, Calls Tryd.prog 72 #[.string ⟨#[62]⟩, .string ⟨#[62]⟩] V fun e w' => e = .returned (.bool true) ∧ w' = V := fun V => Tryd.strings_HasPrefix ⟨#[62]⟩ ⟨#[62]⟩ V
  show Calls Tryd.prog 57 #[.string ⟨#[62]⟩] w _
  go_enter Tryd.func57, Tryd.ntmps57
  go_wp2_with (go_at_call 72; ((refine (hc _).mono ?_); rintro e w' ⟨rfl, rfl⟩))
  exact bodyPost_ret (v := .tuple #[.slice none 0 0, .int .i64 0]) (by simp [results, Tryd.results57, go_sem]) rfl ⟨rfl, rfl⟩

set_option maxHeartbeats 4000000 in
theorem taken_nolink {br : Br} {a : Option Addr} {n cc : Nat} (hk : br.kind = 3) (hl : br.link.length ≤ 168) (hp : Lib.hasPrefix br.link [62] = false) (w : World) :
    Calls Tryd.prog 40 #[TP b, BrV br (.slice a n cc)] w fun e w' => e = .returned (.tuple #[BrV noBr (.slice none 0 0), .int .i64 3]) ∧ Below w.heap.size w w' := by
  have e1 : (br.kind == 1) = false := by simp [hk]
  have e2 : (br.kind == 2) = false := by simp [hk]
  have e3 : (br.kind == 3) = true := by simp [hk]
  have HS := Lib.hid (fun V => split_no hl hp V)
  have X := Lib.hid (Top.new w br (.slice a n cc) noBr)
  clear hk hl hp
  go_enter Tryd.func40, Tryd.ntmps40
  go_wp2_with (go_at_call 57; ((refine (HS.out _).mono ?_); rintro e w1 ⟨rfl, rfl⟩))
  refine (show bodyPost _ _ _ _ _ ((w.alloc (BrO br (.slice a n cc))).alloc (BrO noBr (.slice none 0 0))) from ?_)
  generalize (w.alloc (BrO br (.slice a n cc))).alloc (BrO noBr (.slice none 0 0)) = V at X ⊢
  obtain ⟨g0, g1, g2, g3, g4, g5, g6, g7, g8, g9⟩ := X.out.at_.cell
  exact bodyPost_ret (v := .tuple #[BrV noBr (.slice none 0 0), .int .i64 3]) (by simp [results, Tryd.results40, go_sem, g0, g1, g2, g3, g4, g5, g6, g7, g8, g9]) rfl ⟨rfl, X.out.bel⟩

set_option maxHeartbeats 4000000 in
theorem taken_root {br : Br} {a : Option Addr} {n cc : Nat} (hk : br.kind = 3) (hl : br.link = [62]) (w : World) :
    Calls Tryd.prog 40 #[TP b, BrV br (.slice a n cc)] w fun e w' => e = .returned (.tuple #[BrV (linkB [62]) (.slice none 0 0), .int .i64 0]) ∧ Below w.heap.size w w' := by
  have e1 : (br.kind == 1) = false := by simp [hk]
  have e2 : (br.kind == 2) = false := by simp [hk]
  have e3 : (br.kind == 3) = true := by simp [hk]
  have HS := Lib.hid (fun V => split_root V)
  obtain ⟨k, u, d, l, o, acl, r1, r2, r3, gt⟩ := br
  simp only at hl e1 e2 e3 hk
  subst hl
  have X := Lib.hid (Top.new w ⟨k, u, d, [62], o, acl, r1, r2, r3, gt⟩ (.slice a n cc) (linkB [62]))
  clear hk
  go_enter Tryd.func40, Tryd.ntmps40
  go_wp2_with (go_at_call 57; ((refine (HS.out _).mono ?_); rintro e w1 ⟨rfl, rfl⟩))
  refine (show bodyPost _ _ _ _ _ ((w.alloc (BrO ⟨k, u, d, [62], o, acl, r1, r2, r3, gt⟩ (.slice a n cc))).alloc (BrO (linkB [62]) (.slice none 0 0))) from ?_)
  generalize (w.alloc (BrO ⟨k, u, d, [62], o, acl, r1, r2, r3, gt⟩ (.slice a n cc))).alloc (BrO (linkB [62]) (.slice none 0 0)) = V at X ⊢
  obtain ⟨g0, g1, g2, g3, g4, g5, g6, g7, g8, g9⟩ := X.out.at_.cell
  exact bodyPost_ret (v := .tuple #[BrV (linkB [62]) (.slice none 0 0), .int .i64 0]) (by simp [results, Tryd.results40, go_sem, g0, g1, g2, g3, g4, g5, g6, g7, g8, g9]) rfl ⟨rfl, X.out.bel⟩

/-- a link's node; the state with it -/
def linkS (st : St) (g : Nat) (l : Txt) (d : Int) (s : Txt) : St := bindS (nodeS st g ⟨linkB l, d, []⟩) g ⟨linkB l, d, []⟩ s

set_option maxHeartbeats 4000000 in
theorem add_root (h : TreeAt w b F c st) {d : Int} {s : Txt} (hd : rng d) (hs : s.length ≤ maxLen) (hf : freeE st d s = 0) {br : Br} {a : Option Addr} {n cc : Nat} (hk : br.kind = 3) (hl : br.link = [62]) (hc : c < 10000) :
    Calls Tryd.prog 18 #[TP b, .int .i64 d, .string (bs s), BrV br (.slice a n cc)] w fun e w' => e = .returned (.tuple #[.int .i64 0, .int .i64 0]) ∧ ∃ F' g, w.heap.size ≤ g ∧ TreeAt w' b F' (c + 3) (linkS st g [62] d s) ∧ Went F w F' w' := by
  have H := Lib.hid h
  have HF := Lib.hid hf
  have HK := Lib.hid hk
  have HL := Lib.hid hl
  have hltF := Lib.hid h.ltF
  have k1 : ((linkB [62]).kind == 1) = false := rfl
  have k2 : ((linkB [62]).kind == 2) = false := rfl
  have HO : Hid ((Nd.mk (linkB [62]) d []).Ok c) := Lib.hid ⟨Nat.zero_le _, hd, by unfold linkB rng; simp, by unfold linkB rng; simp, fun t ht => (by cases ht), Nat.zero_le _⟩
  have hbl := h.ltF b (by obtain ⟨mp, mg, mz, av, nv, h⟩ := h; exact h.inF)
  clear h hf hk hl
  go_enter Tryd.func18, Tryd.ntmps18
  go_wp2_with (first
    | (go_at_call 39; ((refine (free_at (H.out.alloc _) hd hs HF.out).mono ?_); rintro e w1 ⟨rfl, n1, rfl⟩))
    | (go_at_call 40; ((refine (taken_root HK.out HL.out _).mono ?_); rintro e w2 ⟨rfl, b2⟩; have L2 := Lib.hid (bel2 (bel2 (one_new w (BrO br (.slice a n cc))) (bel_drewN _ n1)) b2); clear b2))
    | (go_at_call 41; ((refine (prepare_at ((H.out.below L2.out).alloc (BrO (linkB [62]) (.slice none 0 0)))).mono ?_); rintro e w3 ⟨rfl, F3, ⟨p, gm, z, av, nv, m3⟩, g3⟩; have X3 := box_went hltF.out L2.out g3; obtain ⟨p0, p1, p2, p3, p4, p5, p6, p7, p8, p9⟩ := X3.cell; have x3 := X3.lt; have hb3 := m3.lt; have h4 := Lib.hid (m3.newNode (x := ⟨linkB [62], d, []⟩) rfl HO.out (A.Own.nil 0 _)); have G4 := Lib.hid (went_node (o := NdO ⟨linkB [62], d, []⟩ (.slice none 0 0) (.slice none 0 0)) (nil_own w.heap.size w3) F ((Went.of_below (F := F) (bel2 L2.out (one_new _ _))).trans g3) (Nat.le_refl _)); clear m3 g3))
    | (go_at_call 42; ((refine (bind_at (g := w3.heap.size) (x := ⟨linkB [62], d, []⟩) ⟨_, _, _, _, _, h4.out⟩ (upd_same _ _ _) hs (by omega)).mono ?_); rintro e w5 ⟨rfl, F5, m5, g6⟩; have M5 := Lib.hid m5; have c5 : w5.cell? ⟨w3.heap.size, 2, none⟩ = some (.int .i64 0) := (by obtain ⟨_, _, _, _, _, t⟩ := m5; exact (t.node _ _ (upd_same _ _ _)).cell.2.2.1); have G6 := Lib.hid (G4.out.trans g6); clear m5 g6)))
  exact bodyPost_ret (v := .tuple #[.int .i64 0, .int .i64 0]) (by simp [results, Tryd.results18, go_sem]) rfl ⟨rfl, F5, w3.heap.size, by have := L2.out.size; omega, M5.out.at_, G6.out⟩

end

end Go.Proofs.YtpcdcmoapenbdaaDoor.T

namespace Go.Proofs.YtpcdcmoapenbdaaDoor.T
open Go.ChangeShapes Go.WideShapes Go.ChangeAt Go.RowKit
open Go.Proofs.YtpcdcmoapenbdaaDoor.N (bs bs_data bs_size bs_inj Row)
open Go.Proofs.YtpcdcmoapenbdaaDoor.A (Tm TRow)

theorem heap_putRow {α : Type} [Inhabited α] (enc : α → Value) (w : World) (blk off k : Nat) (d : Array α) (h : k ≠ blk) : (Sort.putRow enc w blk off d).heap[k]? = w.heap[k]? := by
  simp [Sort.putRow, Sort.mapBlock, Array.getElem?_modify, Ne.symm h]

/-- a row of texts of which one is struck -/
theorem putCells_take (d : Array Txt) (cur : Array Value) (h : d.size ≤ cur.size) : (Sort.putCells encStr 0 d cur).toList.take d.size = d.toList.map fun p => Value.string (bs p) := by
  apply List.ext_getElem?
  intro k
  rw [List.getElem?_take]
  by_cases hk : k < d.size
  · rw [if_pos hk, Array.getElem?_toList, Sort.putCells, Array.getElem?_mapIdx, List.getElem?_map, Array.getElem?_toList, Array.getElem?_eq_getElem (show k < cur.size by omega), Array.getElem?_eq_getElem hk]
    simp [hk, bs]
  · rw [if_neg hk, List.getElem?_eq_none (by simp; omega)]
theorem heap_putRow_at {w : World} {blk off : Nat} {d : Array Txt} {cur : Array Value} {e : TypeId} {fr : Nat × Nat} (h : w.heap[blk]? = some (.cells cur e fr)) : (Sort.putRow encStr w blk off d).heap[blk]? = some (.cells (Sort.putCells encStr off d cur) e fr) := by
  simp [Sort.putRow, Sort.mapBlock, Array.getElem?_modify, h, Sort.onCells]

section
variable {w : World} {b : Nat} {F : Nat → Prop} {c : Nat} {st : St}

theorem unname_busy (h : TreeAt w b F c st) {d : Int} {s : Txt} (hd : rng d) (hs : s.length ≤ maxLen) {g : Nat} {x : Nd} (hP : st.P (d, s) = some g) (hN : st.N g = some x) (h1 : x.names.length = 1) :
    Calls Tryd.prog 23 #[TP b, .int .i64 d, .string (bs s)] w fun e w' => e = .returned (.int .i64 16) ∧ w = w' := by
  have hf := find_yes h hd hs hP
  obtain ⟨mp, mg, mz, av, nv, h⟩ := h
  have hn := h.node g x hN
  have c11 := hn.cell.2.2.2.2.2.2.2.2.2.2.2
  obtain ⟨a, cap, hsl⟩ := nm_slice hn.nam
  rw [hsl, h1] at c11
  clear hn h hsl
  go_enter Tryd.func23, Tryd.ntmps23
  go_wp2_with (go_at_call 44; ((with_reducible refine hf.mono ?_); rintro e w1 ⟨rfl, rfl⟩))
  go_ret
  exact ⟨rfl, rfl⟩

/-- a node with a name less; the state then -/
def lessX (x : Nd) (i : Nat) : Nd := { x with names := x.names.take i ++ x.names.drop (i + 1) }

theorem TreeL.less {mp mg mz : Option Nat} {av nv : Nat → Value} (h : TreeL w b F c st mp mg mz av nv) {g : Nat} {x : Nd} (hg : st.N g = some x) {blk cap i q : Nat} (hv : nv g = .slice (some ⟨blk, 0, none⟩) x.names.length cap) (hi : i < x.names.length) {V : World}
    (hV : V = Sort.putRow encStr (Sort.ahead w q) blk 0 (x.names.take i ++ x.names.drop (i + 1) ++ List.replicate (i + 1 - i) []).toArray) :
    TreeL (V.setCell ⟨g, 11, none⟩ (.slice (some ⟨blk, 0, none⟩) (x.names.length - 1) cap)) b F c (nodeS st g (lessX x i)) mp mg mz (upd av g (av g)) (upd nv g (.slice (some ⟨blk, 0, none⟩) (x.names.length - 1) cap)) ∧ Went F w F (V.setCell ⟨g, 11, none⟩ (.slice (some ⟨blk, 0, none⟩) (x.names.length - 1) cap)) ∧ V.heap[g]? = some (NdO x (av g) (nv g)) := by
  have h0 := h.node g x hg
  have hn := h0.nam
  rw [hv] at hn
  obtain ⟨g', cap', cur, e, _, hgb, hnc, hcm, hcs, htk⟩ : ∃ g' cap' cur, Value.slice (some ⟨blk, 0, none⟩) x.names.length cap = .slice (some ⟨g', 0, none⟩) x.names.length cap' ∧ 0 ≤ g' ∧ w.heap[g']? = some (.cells cur 9 (0, 0)) ∧ x.names.length ≤ cap' ∧ cap' ≤ maxLen ∧ cur.size = cap' * 1 ∧ cur.toList.take (x.names.length * 1) = vals x.names := by
    rcases hn.2 with ⟨_, e⟩ | h2
    · omega
    · exact h2
  simp only [Value.slice.injEq, Option.some.injEq, Addr.mk.injEq, and_true, true_and] at e
  obtain ⟨rfl, rfl⟩ := e
  have hF : F blk := h0.namF blk (by rw [hv]; rfl)
  have hle : (lessX x i).names.length = x.names.length - 1 := by simp [lessX]; omega
  have hsz : (x.names.take i ++ x.names.drop (i + 1) ++ List.replicate (i + 1 - i) ([] : Txt)).length = x.names.length := by simp; omega
  have oth : ∀ k, k ≠ blk → V.heap[k]? = w.heap[k]? := fun k hk => by rw [hV, heap_putRow _ _ _ _ _ _ hk]; rfl
  have hrow : V.heap[blk]? = some (.cells (Sort.putCells encStr 0 (x.names.take i ++ x.names.drop (i + 1) ++ List.replicate (i + 1 - i) []).toArray cur) 9 (0, 0)) := by rw [hV]; exact heap_putRow_at hgb
  have hVs : V.heap.size = w.heap.size := by rw [hV]; simp
  have gne : g ≠ blk := tag_ne h0.cells hgb (by decide)
  have cg := (oth g gne).trans h0.cells
  refine ⟨?_, ?_, cg⟩
  · refine h.renode hg (fun _ hi => hi) (fun j hj => by simp [hVs]; exact h.ltF j hj) (fun j hj hne hne' => ?_) ?_ (fun g' y hy hne k ek ek' => ?_)
    · rw [other_set _ _ hne]
      exact oth j (fun e => hne' (by rw [hv, e]; rfl))
    · exact {
        cells := by rw [head_set cg]; simp [lessX]
        inF := h0.inF
        acl := by
          refine row_of h0.acl (fun k ek => ?_)
          obtain ⟨cs, hcs⟩ := row_tag h0.acl ek
          rw [other_set _ _ (tag_ne hcs h0.cells (by decide))]
          exact oth k (tag_ne hcs hgb (by decide))
        aclF := h0.aclF
        nam := by
          refine row_of (w := V) ?_ (fun k ek => ?_)
          · show World.ownsRow V 0 9 1 (.slice (some ⟨blk, 0, none⟩) (x.names.length - 1) cap) (lessX x i).names.length (vals (lessX x i).names)
            rw [hle]
            refine ⟨by simp [vals, hle], Or.inr ⟨blk, cap, _, rfl, Nat.zero_le _, hrow, by omega, hcm, by simp [Sort.putCells, hcs], ?_⟩⟩
            have hp := putCells_take (x.names.take i ++ x.names.drop (i + 1) ++ List.replicate (i + 1 - i) []).toArray cur (by simp [hcs] at hsz ⊢; omega)
            have e1 : ((x.names.take i ++ x.names.drop (i + 1) ++ List.replicate (i + 1 - i) ([] : Txt)).toArray).size = x.names.length := by simpa using hsz
            rw [e1] at hp
            have e2 := congrArg (List.take ((x.names.length - 1) * 1)) hp
            rw [List.take_take, show min ((x.names.length - 1) * 1) x.names.length = (x.names.length - 1) * 1 by omega] at e2
            rw [e2]
            have e3 : (x.names.take i ++ x.names.drop (i + 1)).length = (x.names.length - 1) * 1 := by simp; omega
            simp only [List.map_append]
            rw [List.take_append_of_le_length (by simp; omega), List.take_of_length_le (by simp; omega)]
            simp [vals, lessX]
          · cases ek
            exact other_set _ _ (Ne.symm gne)
        namF := fun k ek => by cases ek; exact hF
        ok := ⟨by have := h0.ok.names; rw [hle]; omega, h0.ok.home, h0.ok.uid, h0.ok.dir, fun t ht => by
          simp only [lessX] at ht
          rcases List.mem_append.1 ht with ht | ht
          · exact h0.ok.txt t (List.mem_of_mem_take ht)
          · exact h0.ok.txt t (List.mem_of_mem_drop ht), h0.ok.acl⟩ }
    · cases ek'
      exact hne (h.apart g' g y x hy hg _ ek (by rw [hv]; rfl))
  · have w1 : Went F w F V := ⟨by rw [hV]; rfl, by rw [hV]; rfl, by rw [hV]; rfl, by omega, fun k hk hn => oth k (fun e => hn (e ▸ hF)), fun _ h => Or.inl h⟩
    exact w1.set h0.inF

set_option maxHeartbeats 2000000 in
theorem unname_at (h : TreeAt w b F c st) {d : Int} {s : Txt} (hd : rng d) (hs : s.length ≤ maxLen) {g : Nat} {x : Nd} (hP : st.P (d, s) = some g) (hN : st.N g = some x) (h1 : ¬ x.names.length = 1) {i : Nat} (hi : i < x.names.length) (hix : Lib.idxOfS (x.names.map bs) (bs s) = i) (hc : c < 10000) :
    Calls Tryd.prog 23 #[TP b, .int .i64 d, .string (bs s)] w fun e w' => e = .returned (.int .i64 0) ∧ TreeAt w' b F (c + 2) (unbindS (nodeS st g (lessX x i)) d s) ∧ Went F w F w' := by
  have hf := find_yes h hd hs hP
  obtain ⟨p, gm, z, av, nv, h⟩ := h.made hP
  have hn := h.node g x hN
  have c11 := hn.cell.2.2.2.2.2.2.2.2.2.2.2
  have hnc := hn.ok.names
  obtain ⟨a, cap, hsl⟩ := nm_slice hn.nam
  have hnr := hn
  rw [hsl] at hnr
  obtain ⟨blk, rfl, hblk, _⟩ := hnr.name_at hi
  have hcap : x.names.length ≤ cap ∧ cap ≤ maxLen := by
    rcases hnr.nam.2 with ⟨_, e⟩ | ⟨_, cap', _, e, _, _, h1, h2, _⟩
    · omega
    · simp only [Value.slice.injEq] at e
      obtain ⟨_, _, rfl⟩ := e
      exact ⟨h1, h2⟩
  have hcells : ∀ j, j < x.names.length → w.cell? ⟨blk, j, none⟩ = some (.string (bs (x.names.getD j []))) ∧ w.frozen? ⟨blk, j, none⟩ = false := fun j hj => by
    obtain ⟨kb, e, _, hcj⟩ := hnr.name_at hj
    simp only [Option.some.injEq, Addr.mk.injEq, and_true] at e
    subst e
    refine ⟨by rw [hcj]; simp [hj], ?_⟩
    obtain ⟨cs, hcs⟩ := row_tag hnr.nam (k := blk) rfl
    simp [World.frozen?, hcs]
  have hidx := Tryd.slices_Index_string blk 0 x.names.length cap (x.names.map bs) (bs s) w (by simp) (by omega) (fun j hj => by
    have hj' : j < x.names.length := by simpa using hj
    rw [Nat.zero_add, (hcells j hj').1]
    simp [hj'])
  rw [List.take_of_length_le (by simp), hix] at hidx
  have hH : Sort.Holds encStr w blk 0 x.names.toArray := fun j hj => by
    have hj' : j < x.names.length := by simpa using hj
    rw [Nat.zero_add]
    refine ⟨?_, (hcells j hj').2⟩
    rw [(hcells j hj').1]
    simp [hj', bs]
  have hdel := Tryd.slices_Delete_string blk 0 cap i (i + 1) x.names w hH hcap.1 (by have := hcap.2; unfold maxLen at this; omega) (by omega) (by omega)
  rw [show x.names.length - (i + 1 - i) = x.names.length - 1 by omega] at hdel
  rw [hsl] at c11
  have e1 : ((x.names.length : Int) == 1) = false := by simp; omega
  have HI := Lib.hid hidx
  have HD := Lib.hid hdel
  have H := Lib.hid h
  have HN := Lib.hid hN
  have HSL := Lib.hid hsl
  have HF := Lib.hid hf
  clear hn hnr h hidx hdel hN hsl hH hcells hf hcap h1 hix
  go_enter Tryd.func23, Tryd.ntmps23
  go_wp2_with (first
    | (go_at_call 44; ((refine HF.out.mono ?_); rintro e w1 ⟨rfl, rfl⟩))
    | (go_at_call 46; ((refine HI.out.mono ?_); rintro e w1 ⟨rfl, rfl⟩))
    | (go_at_call 47; ((refine HD.out.mono ?_); rintro e w3 ⟨rfl, q, hq⟩; obtain ⟨t3, x3, cg⟩ := H.out.less HN.out HSL.out hi hq; have g11 : w3.cell? ⟨g, 11, none⟩ = some (nv g) := (by simp [World.cell?, cg]); have gf : w3.frozen? ⟨g, 11, none⟩ = false := (by simp [World.frozen?, cg]); have T3 := Lib.hid t3; have X3 := Lib.hid x3; clear t3 x3 cg hq))
    | (go_at_call 48; ((refine (unbind_L T3.out hd hs (by omega)).mono ?_); rintro e w4 ⟨rfl, t4, x4⟩; have T4 := Lib.hid t4; have X4 := Lib.hid x4; clear t4 x4)))
  go_ret
  exact ⟨rfl, ⟨_, _, _, _, _, T4.out⟩, X3.out.trans X4.out⟩

set_option maxRecDepth 8000 in
set_option maxHeartbeats 4000000 in
theorem del_link (h : TreeAt w b F c st) {d : Int} {s : Txt} (hd : rng d) (hs : s.length ≤ maxLen) {g : Nat} {x : Nd} (hP : st.P (d, s) = some g) (hN : st.N g = some x) (hk : x.br.kind = 3) (hc : c < 10000) :
    Calls Tryd.prog 25 #[TP b, .int .i64 d, .string (bs s)] w fun e w' => ∃ a' c', e = .returned (.tuple #[BrV x.br (.slice a' x.br.acl.length c'), .int .i64 0]) ∧ TreeAt w' b F (c + 1 + 2 * x.names.length) (unbindAll d x.names st) ∧ Went F w F w' := by
  have hf := find_yes (h.alloc (BrO noBr (.slice none 0 0))) hd hs hP
  have hltF := Lib.hid h.ltF
  obtain ⟨p, gm, z, av, nv, h⟩ := h.made hP
  have T1 := h.below (one_new w (BrO noBr (.slice none 0 0)))
  have n1 := T1.node g x hN
  have hnc := n1.ok.names
  have htxt := Lib.hid n1.ok.txt
  obtain ⟨c0, c1, c2, cz⟩ := n1.cell
  clear cz
  have HF := Lib.hid hf
  have hgl := (h.node g x hN).lt
  have B := Lib.hid (BrAt.new w noBr (.slice none 0 0))
  have L := Lib.hid (one_new w (BrO noBr (.slice none 0 0)))
  have e1 : (x.br.kind == 1) = false := by simp [hk]
  have e2 : (x.br.kind == 2) = false := by simp [hk]
  have T2 := Lib.hid (T1.mono (Nat.le_succ c))
  have X2 := B
  have G2 : Hid (Went F w F (w.alloc (BrO noBr (.slice none 0 0)))) := Lib.hid (Went.of_below L.out)
  have HN0 := Lib.hid hN
  clear h hf T1 n1 hk hN
  have hst2 : st = st := rfl
  have HS := Lib.hid hst2
  have hN2 : Hid (st.N g = some x) := Lib.hid (by rw [← hst2]; exact HN0.out)
  clear hst2
  obtain ⟨a0, cap, hsl⟩ := nm_slice (T2.out.node g x hN2.out).nam
  have c11 := (T2.out.node g x hN2.out).cell.2.2.2.2.2.2.2.2.2.2.2
  rw [hsl] at c11
  have HSL := Lib.hid hsl
  clear hsl
  go_enter Tryd.func25, Tryd.ntmps25
  go_wp2_with (go_at_call 44; ((refine HF.out.mono ?_); rintro e w1 ⟨rfl, rfl⟩))
  go_loopw [67] (fun i V => ∃ k : Nat, k ≤ x.names.length ∧ i = .int .i64 k ∧ Hid (TreeL V b F (c + 1 + 2 * k) (unbindAll d (x.names.take k) st) (some p) (some gm) (some z) av nv) ∧ Hid (Went F w F V) ∧ Hid (BrAt V w.heap.size noBr (.slice none 0 0))) (fun i _ => x.names.length - (intOf i).toNat)
  case atStart => exact ⟨0, Nat.zero_le _, rfl, T2, G2, X2⟩
  case round =>
    clear T2 G2 X2 c11
    obtain ⟨k, hk, rfl, hT, hG, hX⟩ := hrel
    have hNk : Hid ((unbindAll d (x.names.take k) st).N g = some x) := Lib.hid (by rw [unbindAll_N]; exact hN2.out)
    have hn := hT.out.node g x hNk.out
    rw [HSL.out] at hn
    by_cases hlt : k < x.names.length
    · obtain ⟨kb, rfl, hkb, hc1⟩ := hn.name_at hlt
      have hsz : x.names[k].length ≤ maxLen := htxt.out _ (List.getElem_mem _)
      have HU := Lib.hid (unbind_L hT.out (d := d) hd hsz (by omega))
      clear hn
      go_wp2_with (go_at_call 48; ((refine HU.out.mono ?_); rintro e w5 ⟨rfl, t5, g5⟩; have T5 := Lib.hid t5; have G5 := Lib.hid g5; clear t5 g5))
      go_roundw
      case rel =>
        refine ⟨k + 1, by omega, by go_num, Lib.hid ?_, Lib.hid (hG.out.trans G5.out), Lib.hid ((G5.out.block _ hX.out.lt (fun hf => by have := hltF.out _ hf; omega)).trans hX.out)⟩
        rw [take_more hlt, unbindAll_snoc]
        exact T5.out
      case measure => simp [intOf]; omega
    · obtain rfl : k = x.names.length := by omega
      rw [List.take_length] at hT hNk
      have HN4 := Lib.hid hn
      clear hn
      go_wp2_with (go_at_call 50; ((refine (shown_any HN4.out).mono ?_); rintro e w1 ⟨a', c', rfl, o1, b1⟩; have X1 := hX.out.below b1; obtain ⟨p0, p1, p2, p3, p4, p5, p6, p7, p8, p9⟩ := X1.cell; have f1 := X1.fz; have L1 := Lib.hid b1; clear o1 b1))
      have B5 := X1.stored x.br (.slice a' x.br.acl.length c')
      have T5 : TreeAt (setBr w1 w.heap.size x.br (.slice a' x.br.acl.length c')) b F (c + 1 + 2 * x.names.length) (unbindAll d x.names st) :=
        (show TreeAt _ b F _ _ from ⟨_, _, _, _, _, hT.out.below L1.out⟩).setBr (fun hf => by have := hltF.out _ hf; omega) _ _
      have G5 : Went F w F (setBr w1 w.heap.size x.br (.slice a' x.br.acl.length c')) := (hG.out.trans (Went.of_below L1.out)).setOut (Nat.le_refl _) _ _
      refine (show bodyPost _ _ _ _ _ (setBr w1 w.heap.size x.br (.slice a' x.br.acl.length c')) from ?_)
      generalize setBr w1 w.heap.size x.br (.slice a' x.br.acl.length c') = V at B5 T5 G5 ⊢
      obtain ⟨g0, g1, g2, g3, g4, g5, g6, g7, g8, g9⟩ := B5.cell
      refine bodyPost_ret (v := .tuple #[BrV x.br (.slice a' x.br.acl.length c'), .int .i64 0]) (by simp [results, Tryd.results25, go_sem, g0, g1, g2, g3, g4, g5, g6, g7, g8, g9]) rfl ⟨a', c', rfl, ?_, G5⟩
      exact T5

end

end Go.Proofs.YtpcdcmoapenbdaaDoor.T
