/-
  What object.Read answers.
-/
import Derived.Test.YtnlohmkgkihldaaOReadDefs
namespace Go.Proofs.Ytnlohmkgkihldaa.W
open Go.ChangeShapes Go.WideShapes Go.ChangeAt Go.RowKit
open Go.Proofs.Ytnlohmkgkihldaa.N (bs bs_data bs_of bs_size may may_pos retB)

@[reducible] def nilOb : Ob := ⟨[], [], [], []⟩
@[reducible] def nilPl : Pl := ⟨none, 0, none, 0, none, 0, none, 0⟩
@[reducible] def OvNil : Value := .agg #[.slice none 0 0, .slice none 0 0, .slice none 0 0, .slice none 0 0]
@[reducible] def NilO : Obj := .cells #[.slice none 0 0, .slice none 0 0, .slice none 0 0, .slice none 0 0] 27
@[reducible] def rNo : Ending := .returned (.tuple #[OvNil, .int .i64 12])

theorem last_mask {zs : List Int} (hz : ∀ z ∈ zs, U64 z) (h : 0 < zs.length) : bits .and .u64 (zs.getD (zs.length - 1) 0) 68719476735 = (cutL zs).getD (zs.length - 1) 0 := by
  have hl : zs.length - 1 < zs.length := by omega
  have e : zs.getD (zs.length - 1) 0 = zs[zs.length - 1] := by simp [List.getD, hl]
  rw [cutL_at, mask_is (by rw [e]; exact hz _ (List.getElem_mem _))]

theorem obRead_few {w : World} {a : Option Addr} {c : Nat} (n : Nat) (h : n < 5) : Calls Try.prog 9 #[.slice a n c] w fun e w' => e = rNo ∧ Below w.heap.size w w' := by
  have t1 : decide ((n : Int) < 5) = true := decide_eq_true (by omega)
  go_enter Try.func9, Try.ntmps9
  go_wp2
  refine bodyPost_ret (v := .tuple #[OvNil, .int .i64 12]) (by simp [results, Try.results9, go_sem]) rfl ⟨rfl, ?_⟩
  exact one_new _ _

theorem obRead_long {w : World} {a : Option Addr} {c : Nat} (n : Nat) (h : 1024 < n) : Calls Try.prog 9 #[.slice a n c] w fun e w' => e = rNo ∧ Below w.heap.size w w' := by
  have t1 : decide ((n : Int) < 5) = false := decide_eq_false (by omega)
  have t2 : decide ((n : Int) > 1024) = true := decide_eq_true (by omega)
  go_enter Try.func9, Try.ntmps9
  go_wp2
  refine bodyPost_ret (v := .tuple #[OvNil, .int .i64 12]) (by simp [results, Try.results9, go_sem]) rfl ⟨rfl, ?_⟩
  exact one_new _ _

theorem obRead_last {w : World} {b o c : Nat} (n : Nat) (h5 : 5 ≤ n) (h : n ≤ 1024) (v : Int) (hc : w.cell? ⟨b, o + (n - 1), none⟩ = some (.int .u64 v)) (hv : bits .and .u64 v 68719476735 ≠ 45812815077) : Calls Try.prog 9 #[.slice (some ⟨b, o, none⟩) n c] w fun e w' => e = rNo ∧ Below w.heap.size w w' := by
  have t1 : decide ((n : Int) < 5) = false := decide_eq_false (by omega)
  have t2 : decide ((n : Int) > 1024) = false := decide_eq_false (by omega)
  have t3 : (bits .and .u64 v 68719476735 != 45812815077) = true := bne_iff_ne.2 hv
  have hc' := ((one_new w (.cells #[.slice none 0 0, .slice none 0 0, .slice none 0 0, .slice none 0 0] 27)).cell (p := ⟨b, o + (n - 1), none⟩) (World.block_lt_of_cell? w _ hc)).trans hc
  go_enter Try.func9, Try.ntmps9
  go_wp2
  refine bodyPost_ret (v := .tuple #[OvNil, .int .i64 12]) (by simp [results, Try.results9, go_sem]) rfl ⟨rfl, ?_⟩
  exact one_new _ _


/-- a reader is not touched by another one -/
theorem rd_other {B : Nat} {w w' : World} {b b' : Nat} {S : RS} (h : RdAt B w b S) (hg : w.grownBy w' (some b')) (hb : b < B) (hb' : B ≤ b') : RdAt B w' b S := by
  obtain ⟨a, c, L, hh, hw, hc, hB⟩ := h
  refine ⟨a, c, L, (hg.block b (Array.getElem?_eq_some_iff.1 hh).1 (fun e => by cases e; omega)).trans hh, ⟨?_, hw.u64, hw.cap, hw.len, hw.nil⟩, hc, hB⟩
  exact grown_nums hw.nums hg (fun o e => by have := hB _ _ e; omega)
/-- a reader that is made of a slice -/
theorem rd_new {B : Nat} {w : World} {a : Option Addr} {n c : Nat} {L : List Int} (hw : Win w a c L) (hn : L.length = n) (hB : ∀ g o, a = some ⟨g, o, none⟩ → g < B) : RdAt B (w.alloc (RdO a n c false)) w.heap.size (cutL L, false) :=
  ⟨a, c, L, by rw [hn]; exact heap_alloc_new w _, hw.below (one_new _ _), rfl, hB⟩
theorem pW_len (n : Nat) (S : RS) : (pW n S).1.length ≤ S.1.length := by
  unfold pW
  split <;> simp
  omega
theorem pW_left (n : Nat) (S : RS) : (pW n S).2.1.length ≤ S.1.length := by
  unfold pW
  split <;> simp
theorem int_nat {z : Int} (h : 0 ≤ z) : z = ((z.toNat : Nat) : Int) := (Int.toNat_of_nonneg h).symm

/-- a whole object is stored -/
@[reducible] def setOb (V : World) (R : Nat) (v0 v1 v2 v3 : Value) : World := (((V.setCell ⟨R, 0, none⟩ v0).setCell ⟨R, 1, none⟩ v1).setCell ⟨R, 2, none⟩ v2).setCell ⟨R, 3, none⟩ v3
theorem setOb_row {V : World} {R : Nat} {a0 a1 a2 a3 : Value} {t : TypeId} (h : V.heap[R]? = some (.cells #[a0, a1, a2, a3] t)) (v0 v1 v2 v3 : Value) : (setOb V R v0 v1 v2 v3).heap[R]? = some (.cells #[v0, v1, v2, v3] t) := by
  have := set_row (set_row (set_row (set_row h 0 v0) 1 v1) 2 v2) 3 v3
  simpa using this
theorem setOb_grown (V : World) (R : Nat) (v0 v1 v2 v3 : Value) : V.grownBy (setOb V R v0 v1 v2 v3) (some R) :=
  grown_trans (grown_trans (grown_trans (grown_set _ _ _ _) (grown_set _ _ _ _)) (grown_set _ _ _ _)) (grown_set _ _ _ _)
theorem four_cells {V : World} {R : Nat} {v0 v1 v2 v3 : Value} {t : TypeId} (h : V.heap[R]? = some (.cells #[v0, v1, v2, v3] t)) : V.cell? ⟨R, 0, none⟩ = some v0 ∧ V.cell? ⟨R, 1, none⟩ = some v1 ∧ V.cell? ⟨R, 2, none⟩ = some v2 ∧ V.cell? ⟨R, 3, none⟩ = some v3 ∧ V.frozen? ⟨R, 0, none⟩ = false ∧ V.frozen? ⟨R, 1, none⟩ = false ∧ V.frozen? ⟨R, 2, none⟩ = false ∧ V.frozen? ⟨R, 3, none⟩ = false := by
  refine ⟨?_, ?_, ?_, ?_, ?_, ?_, ?_, ?_⟩
  all_goals first | (rw [cell_of_row _ _ _ _ _ _ h]; rfl) | simp [World.frozen?, h]

/-- an object in rows of the call's own -/
structure OwnOb (base : Nat) (w : World) (q : Pl) (o : Ob) : Prop where
  t : OwnW base w (.slice q.ta o.text.length q.tc) o.text
  s : OwnW base w (.slice q.sa o.stat.length q.sc) o.stat
  d : OwnD base w (.slice q.da o.defs.length q.dc) o.defs
  l : OwnK base w (.slice q.la o.links.length q.lc) o.links
theorem own_nums {base : Nat} {w : World} {a : Option Addr} {c : Nat} {xs : List Int} (h : OwnW base w (.slice a xs.length c) xs) : NumsIn .u64 w a xs := by
  obtain ⟨p, cap, e, hp⟩ := h.que.val
  cases e
  exact fun h0 => hp h0
theorem OwnOb.obIn {base : Nat} {w : World} {q : Pl} {o : Ob} (h : OwnOb base w q o) : ObIn w q o := ⟨own_nums h.t, own_nums h.s, h.d.row, h.l.row⟩
theorem OwnOb.below {base : Nat} {w w' : World} {q : Pl} {o : Ob} (h : OwnOb base w q o) (hb : Below w.heap.size w w') : OwnOb base w' q o := ⟨h.t.below hb, h.s.below hb, row_below h.d hb, row_below h.l hb⟩
theorem OwnOb.grown {base b : Nat} {w w' : World} {q : Pl} {o : Ob} (h : OwnOb base w q o) (hg : w.grownBy w' (some b)) (hb : b < base) : OwnOb base w' q o := ⟨own_grown h.t hg hb, own_grown h.s hg hb, row_grown h.d hg hb, row_grown h.l hg hb⟩
theorem old_heap {w0 u0 u1 u2 u3 u4 : World} {b : Nat} {o : Obj} (h0 : Below w0.heap.size w0 u0) (hb : b = w0.heap.size) (h1 : u0.grownBy u1 (some b)) (h2 : u1.grownBy u2 (some b)) (h3 : u2.grownBy u3 (some b)) (h4 : u3.grownBy u4 (some b)) (k : Nat) (hk : k < w0.heap.size) : (u4.alloc o).heap[k]? = w0.heap[k]? := by
  have hg := grown_trans (grown_trans (grown_trans h1 h2) h3) h4
  have := h0.size
  have := hg.size
  rw [heap_alloc_old u4 o (by omega), hg.block k (by omega) (fun e => by cases e; omega), h0.block k hk]

/-- what number, words, defs, links answer from one state to the next -/
def NumTo (S : RS) (z : Int) (S' : RS) : Prop := ∀ B V M, RdAt B V M S → Calls Try.prog 18 #[RdP M] V fun e w' => e = .returned (.int .i64 z) ∧ RdAt B w' M S' ∧ V.grownBy w' (some M)
def WdsTo (S : RS) (z : Int) (l : List Int) (S' : RS) : Prop := ∀ B V M, RdAt B V M S → Calls Try.prog 19 #[RdP M, .int .i64 z] V fun e w' => ∃ p c, e = .returned (.slice p l.length c) ∧ OwnW V.heap.size w' (.slice p l.length c) l ∧ RdAt B w' M S' ∧ V.grownBy w' (some M)
def DefsTo (S : RS) (z : Int) (l : List (Txt × Int)) (S' : RS) : Prop := ∀ B V M, RdAt B V M S → M < B → B ≤ V.heap.size → Calls Try.prog 20 #[RdP M, .int .i64 z] V fun e w' => ∃ p c, e = .returned (.slice p l.length c) ∧ OwnD V.heap.size w' (.slice p l.length c) l ∧ RdAt B w' M S' ∧ V.grownBy w' (some M)
def LinksTo (S : RS) (z : Int) (l : List (Txt × Txt × Int)) (S' : RS) : Prop := ∀ B V M, RdAt B V M S → M < B → B ≤ V.heap.size → Calls Try.prog 21 #[RdP M, .int .i64 z] V fun e w' => ∃ p c, e = .returned (.slice p l.length c) ∧ OwnK V.heap.size w' (.slice p l.length c) l ∧ RdAt B w' M S' ∧ V.grownBy w' (some M)
/-- what Read answers, told by how both readers ended and what was read -/
def RdPost (w : World) (x y : Bool) (k : Nat) (o : Ob) (e : Ending) (w' : World) : Prop :=
  Below w.heap.size w w' ∧ (((x || (y || (decide (0 < k) || !(partsOb o)))) = true ∧ e = rNo) ∨ ((x || (y || (decide (0 < k) || !(partsOb o)))) = false ∧ ∃ q, e = .returned (.tuple #[OV q o, .int .i64 0]) ∧ ObIn w' q o))

set_option maxRecDepth 8000 in
set_option maxHeartbeats 4000000 in
theorem obRead_walk {w : World} {b o c n : Nat} (h5 : 5 ≤ n) (h : n ≤ 1024) (hcap : n ≤ c) {v : Int} (hc : w.cell? ⟨b, o + (n - 1), none⟩ = some (.int .u64 v)) (hv : bits .and .u64 v 68719476735 = 45812815077)
    {S0 S1 S2 S3 S4 T0 T1 T2 T3 T4 : RS} {z1 z2 z3 z4 : Int} {t1 t2 : List Int} {ds : List (Txt × Int)} {ks : List (Txt × Txt × Int)}
    (hRm : ∀ V : World, Below w.heap.size w V → RdAt (V.heap.size + 1) (V.alloc (RdO (some ⟨b, o + (n - 5), none⟩) (n - (n - 5)) (c - (n - 5)) false)) V.heap.size S0)
    (hRr : ∀ V : World, Below w.heap.size w V → RdAt (V.heap.size + 1) (V.alloc (RdO (some ⟨b, o, none⟩) (n - 5) c false)) V.heap.size T0)
    (n1 : NumTo S0 z1 S1) (n2 : NumTo S1 z2 S2) (n3 : NumTo S2 z3 S3) (n4 : NumTo S3 z4 S4) (p1 : WdsTo T0 z1 t1 T1) (p2 : WdsTo T1 z2 t2 T2) (p3 : DefsTo T2 z3 ds T3) (p4 : LinksTo T3 z4 ks T4) (hF : Fit ⟨t1, t2, ds, ks⟩) :
    Calls Try.prog 9 #[.slice (some ⟨b, o, none⟩) n c] w (RdPost w S4.2 T4.2 T4.1.length ⟨t1, t2, ds, ks⟩) := by
  have d1 : decide ((n : Int) < 5) = false := decide_eq_false (by omega)
  have d2 : decide ((n : Int) > 1024) = false := decide_eq_false (by omega)
  have d3 : (bits .and .u64 v 68719476735 != 45812815077) = false := by rw [hv]; rfl
  have hc' := ((one_new w (.cells #[.slice none 0 0, .slice none 0 0, .slice none 0 0, .slice none 0 0] 27)).cell (p := ⟨b, o + (n - 1), none⟩) (World.block_lt_of_cell? w _ hc)).trans hc
  have HRM := Lib.hid (hRm (w.alloc (NilO)) (one_new _ _))
  have HRR := Lib.hid hRr
  have HF := Lib.hid hF
  have N1 := Lib.hid n1
  have N2 := Lib.hid n2
  have N3 := Lib.hid n3
  have N4 := Lib.hid n4
  have P1 := Lib.hid p1
  have P2 := Lib.hid p2
  have P3 := Lib.hid p3
  have P4 := Lib.hid p4
  have hb0 := Lib.hid (bel2 (one_new w (NilO)) (one_new _ (RdO (some ⟨b, o + (n - 5), none⟩) (n - (n - 5)) (c - (n - 5)) false)))
  have hs0 : (w.alloc (NilO)).heap.size = w.heap.size + 1 := by simp
  rw [hs0] at HRM
  have hRes : Hid (((w.alloc (NilO)).alloc (RdO (some ⟨b, o + (n - 5), none⟩) (n - (n - 5)) (c - (n - 5)) false)).heap[w.heap.size]? = some (NilO)) := Lib.hid ((heap_alloc_old _ _ (by simp)).trans (heap_alloc_new w _))
  clear hv hc hRm hRr hF n1 n2 n3 n4 p1 p2 p3 p4 hs0
  go_enter Try.func9, Try.ntmps9
  go_upto_region 5 with fail
  clear hc'
  go_upto_region 6 with (first
    | (go_at_call 18; have q := N1.out _ _ _ HRM.out; (with_reducible refine q.mono ?_); clear q; rintro e w1 ⟨rfl, r1, g1⟩; have R1 := Lib.hid r1; have G1 := Lib.hid g1; clear r1 g1)
    | (go_at_call 18; have q := N2.out _ _ _ R1.out; (with_reducible refine q.mono ?_); clear q; rintro e w2 ⟨rfl, r2, g2⟩; have R2 := Lib.hid r2; have G2 := Lib.hid (grown_trans G1.out g2); clear r2 g2)
    | (go_at_call 18; have q := N3.out _ _ _ R2.out; (with_reducible refine q.mono ?_); clear q; rintro e w3 ⟨rfl, r3, g3⟩; have R3 := Lib.hid r3; have G3 := Lib.hid (grown_trans G2.out g3); clear r3 g3)
    | (go_at_call 18; have q := N4.out _ _ _ R3.out; (with_reducible refine q.mono ?_); clear q; rintro e w4 ⟨rfl, r4, g4⟩; have R4 := Lib.hid r4; have G4 := Lib.hid (grown_trans G3.out g4); clear r4 g4))
  have hB4 := grown_below hb0.out (by simp; omega) G4.out (Nat.le_succ _)
  have HR4 := Lib.hid (HRR.out w4 hB4)
  have HB4 := Lib.hid hB4
  have hRes4 := Lib.hid ((G4.out.block w.heap.size (by simp; omega) (fun e => by have := Option.some.inj e; omega)).trans hRes.out)
  have hM4 := Lib.hid (rd_short R4.out)
  have hM4l := Lib.hid (show w.heap.size + 1 < w4.heap.size from R4.out.lt)
  have hz0 : (w4.alloc (RdO (some ⟨b, o, none⟩) (n - 5) c false)).heap.size = w4.heap.size + 1 := by simp
  have HZ0 := Lib.hid hz0
  clear hB4 hz0 hRes G1 G2 G3 R1 R2 R3 HRM HRR
  go_upto_region 8 with (first
    | (go_at_call 19; have q := P1.out _ _ _ HR4.out; (with_reducible refine q.mono ?_); clear q; rintro e u1 ⟨a1, c1, rfl, o1, r1, g1⟩; have O1 := Lib.hid o1; have Q1 := Lib.hid r1; have F1 := Lib.hid g1; have HZ1 := Lib.hid (show w4.heap.size + 1 ≤ u1.heap.size by have := HZ0.out; have := g1.size; omega); clear o1 r1 g1)
    | (go_at_call 19; have q := P2.out _ _ _ Q1.out; (with_reducible refine q.mono ?_); clear q; rintro e u2 ⟨a2, c2, rfl, o2, r2, g2⟩; have O2 := Lib.hid o2; have Q2 := Lib.hid r2; have F2 := Lib.hid g2; have HZ2 := Lib.hid (show w4.heap.size + 1 ≤ u2.heap.size by have := HZ1.out; have := g2.size; omega); clear o2 r2 g2)
    | (go_at_call 20; have q := P3.out _ _ _ Q2.out (Nat.lt_succ_self _) HZ2.out; (with_reducible refine q.mono ?_); clear q; rintro e u3 ⟨a3, c3, rfl, o3, r3, g3⟩; have O3 := Lib.hid o3; have Q3 := Lib.hid r3; have F3 := Lib.hid g3; have HZ3 := Lib.hid (show w4.heap.size + 1 ≤ u3.heap.size by have := HZ2.out; have := g3.size; omega); clear o3 r3 g3)
    | (go_at_call 21; have q := P4.out _ _ _ Q3.out (Nat.lt_succ_self _) HZ3.out; (with_reducible refine q.mono ?_); clear q; rintro e u4 ⟨a4, c4, rfl, o4, r4, g4⟩; have O4 := Lib.hid o4; have Q4 := Lib.hid r4; have F4 := Lib.hid g4; clear o4 r4 g4))
  have hold := Lib.hid (old_heap (o := OO ⟨a1, c1, a2, c2, a3, c3, a4, c4⟩ ⟨t1, t2, ds, ks⟩) (one_new w4 (RdO (some ⟨b, o, none⟩) (n - 5) c false)) rfl F1.out F2.out F3.out F4.out)
  have HOwn := Lib.hid (show OwnOb w4.heap.size (u4.alloc (OO ⟨a1, c1, a2, c2, a3, c3, a4, c4⟩ ⟨t1, t2, ds, ks⟩)) ⟨a1, c1, a2, c2, a3, c3, a4, c4⟩ ⟨t1, t2, ds, ks⟩ from by
    have z0 := HZ0.out; have z1 := HZ1.out; have z2 := HZ2.out; have z3 := HZ3.out
    refine OwnOb.below ⟨?_, ?_, ?_, ?_⟩ (one_new _ _)
    · exact own_base (own_grown (own_grown (own_grown O1.out F2.out (by omega)) F3.out (by omega)) F4.out (by omega)) (by omega)
    · exact own_base (own_grown (own_grown O2.out F3.out (by omega)) F4.out (by omega)) (by omega)
    · exact row_base (row_grown O3.out F4.out (by omega)) (by omega)
    · exact row_base O4.out (by omega))
  have HBel := Lib.hid (show Below w.heap.size w (u4.alloc (OO ⟨a1, c1, a2, c2, a3, c3, a4, c4⟩ ⟨t1, t2, ds, ks⟩)) from by
    have z0 := HZ0.out; have z1 := HZ1.out; have z2 := HZ2.out; have z3 := HZ3.out; have m := hM4l.out; have s4 := F4.out.size
    have hg := grown_trans (grown_trans (grown_trans F1.out F2.out) F3.out) F4.out
    have h1 := HB4.out.trans ((one_new w4 (RdO (some ⟨b, o, none⟩) (n - 5) c false)).mono (by omega))
    exact (grown_below h1 (by omega) hg (by omega)).trans ((one_new _ _).mono (by omega)))
  have y1 : (u4.alloc (OO ⟨a1, c1, a2, c2, a3, c3, a4, c4⟩ ⟨t1, t2, ds, ks⟩)).cell? ⟨w.heap.size + 1, 1, none⟩ = some (.bool S4.2) := (World.cell?_of_block (a := ⟨w.heap.size + 1, 1, none⟩) (hold.out _ hM4l.out)).trans hM4.out
  have yR := Lib.hid ((hold.out w.heap.size (by have := hM4l.out; omega)).trans hRes4.out)
  have Q5 := Lib.hid (Q4.out.below (one_new u4 (OO ⟨a1, c1, a2, c2, a3, c3, a4, c4⟩ ⟨t1, t2, ds, ks⟩)))
  have y2 := rd_short Q5.out
  obtain ⟨ar, cr, Lr, hhr, hwr, hcr, -⟩ := Q5.out
  have y3 : (u4.alloc (OO ⟨a1, c1, a2, c2, a3, c3, a4, c4⟩ ⟨t1, t2, ds, ks⟩)).cell? ⟨w4.heap.size, 0, none⟩ = some (.slice ar Lr.length cr) := by rw [cell_of_row _ _ _ _ _ _ hhr]; rfl
  have hLr : T4.1.length = Lr.length := by rw [← hcr, cutL_len]
  have hlt := hwr.len
  clear hhr hwr hcr Q5 Q4 O1 O2 O3 O4 F1 F2 F3 F4 HZ1 HZ2 HZ3 hold hM4 R4 G4 Q1 Q2 Q3 HR4
  have hOl : Hid ((u4.alloc (OO ⟨a1, c1, a2, c2, a3, c3, a4, c4⟩ ⟨t1, t2, ds, ks⟩)).heap[u4.heap.size]? = some (OO ⟨a1, c1, a2, c2, a3, c3, a4, c4⟩ ⟨t1, t2, ds, ks⟩)) := Lib.hid (heap_alloc_new _ _)
  rw [hLr]
  generalize hU : u4.alloc (OO ⟨a1, c1, a2, c2, a3, c3, a4, c4⟩ ⟨t1, t2, ds, ks⟩) = U at *
  have o0 : U.cell? ⟨u4.heap.size, 0, none⟩ = some (.slice a1 t1.length c1) := by rw [cell_of_row _ _ _ _ _ _ hOl.out]; rfl
  have o1 : U.cell? ⟨u4.heap.size, 1, none⟩ = some (.slice a2 t2.length c2) := by rw [cell_of_row _ _ _ _ _ _ hOl.out]; rfl
  have o2 : U.cell? ⟨u4.heap.size, 2, none⟩ = some (.slice a3 ds.length c3) := by rw [cell_of_row _ _ _ _ _ _ hOl.out]; rfl
  have o3 : U.cell? ⟨u4.heap.size, 3, none⟩ = some (.slice a4 ks.length c4) := by rw [cell_of_row _ _ _ _ _ _ hOl.out]; rfl
  have hpm := partsMay_any ⟨a1, c1, a2, c2, a3, c3, a4, c4⟩ ⟨t1, t2, ds, ks⟩ U HOwn.out.obIn HF.out
  obtain ⟨r0, r1, r2, r3, f0, f1, f2, f3⟩ := four_cells yR.out
  have HLr := Lib.hid hLr
  clear hU hLr hOl
  cases hx : S4.2 with
  | true =>
    rw [hx] at y1
    go_wp2
    change bodyPost _ _ _ _ _ (setOb U w.heap.size (.slice none 0 0) (.slice none 0 0) (.slice none 0 0) (.slice none 0 0))
    obtain ⟨g0, g1, g2, g3, -⟩ := four_cells (setOb_row yR.out (.slice none 0 0) (.slice none 0 0) (.slice none 0 0) (.slice none 0 0))
    have hg := grown_below HBel.out HBel.out.size (setOb_grown U w.heap.size (.slice none 0 0) (.slice none 0 0) (.slice none 0 0) (.slice none 0 0)) (Nat.le_refl _)
    generalize setOb U w.heap.size (.slice none 0 0) (.slice none 0 0) (.slice none 0 0) (.slice none 0 0) = V5 at *
    exact bodyPost_ret (v := .tuple #[OvNil, .int .i64 12]) (by simp [results, Try.results9, go_sem, g0, g1, g2, g3]) rfl ⟨hg, Or.inl ⟨by rw [hx]; rfl, rfl⟩⟩
  | false =>
    rw [hx] at y1
    cases hy : T4.2 with
    | true =>
      rw [hy] at y2
      go_wp2
      change bodyPost _ _ _ _ _ (setOb U w.heap.size (.slice none 0 0) (.slice none 0 0) (.slice none 0 0) (.slice none 0 0))
      obtain ⟨g0, g1, g2, g3, -⟩ := four_cells (setOb_row yR.out (.slice none 0 0) (.slice none 0 0) (.slice none 0 0) (.slice none 0 0))
      have hg := grown_below HBel.out HBel.out.size (setOb_grown U w.heap.size (.slice none 0 0) (.slice none 0 0) (.slice none 0 0) (.slice none 0 0)) (Nat.le_refl _)
      generalize setOb U w.heap.size (.slice none 0 0) (.slice none 0 0) (.slice none 0 0) (.slice none 0 0) = V5 at *
      exact bodyPost_ret (v := .tuple #[OvNil, .int .i64 12]) (by simp [results, Try.results9, go_sem, g0, g1, g2, g3]) rfl ⟨hg, Or.inl ⟨by rw [hx, hy]; rfl, rfl⟩⟩
    | false =>
      rw [hy] at y2
      by_cases hk : 0 < Lr.length
      · have hkd : decide (0 < Lr.length) = true := decide_eq_true hk
        have hkd2 : decide (((Lr.length : Nat) : Int) > 0) = true := decide_eq_true (by omega)
        have HKD := Lib.hid hkd
        go_wp2
        change bodyPost _ _ _ _ _ (setOb U w.heap.size (.slice none 0 0) (.slice none 0 0) (.slice none 0 0) (.slice none 0 0))
        obtain ⟨g0, g1, g2, g3, -⟩ := four_cells (setOb_row yR.out (.slice none 0 0) (.slice none 0 0) (.slice none 0 0) (.slice none 0 0))
        have hg := grown_below HBel.out HBel.out.size (setOb_grown U w.heap.size (.slice none 0 0) (.slice none 0 0) (.slice none 0 0) (.slice none 0 0)) (Nat.le_refl _)
        generalize setOb U w.heap.size (.slice none 0 0) (.slice none 0 0) (.slice none 0 0) (.slice none 0 0) = V5 at *
        exact bodyPost_ret (v := .tuple #[OvNil, .int .i64 12]) (by simp [results, Try.results9, go_sem, g0, g1, g2, g3]) rfl ⟨hg, Or.inl ⟨by rw [hx, hy, HLr.out, HKD.out]; rfl, rfl⟩⟩
      · have hkd : decide (0 < Lr.length) = false := decide_eq_false hk
        have hk0 : Lr.length = 0 := by omega
        have HK0 := Lib.hid hk0
        rw [hk0] at y3
        clear hk0 hkd hk
        cases hp : partsOb ⟨t1, t2, ds, ks⟩ with
        | false =>
          rw [hp] at hpm
          have HP := Lib.hid hp
          clear hp
          go_wp2_with (go_at_call 22; (with_reducible refine hpm.mono ?_); rintro e V ⟨rfl, bV⟩; (have yV := Lib.hid ((bV.block w.heap.size (World.block_lt_of_cell? U _ r0)).trans yR.out)); (obtain ⟨s0, s1, s2, s3, e0, e1, e2, e3⟩ := four_cells yV.out); (have HBV := Lib.hid (HBel.out.trans (bV.mono HBel.out.size))))
          change bodyPost _ _ _ _ _ (setOb V w.heap.size (.slice none 0 0) (.slice none 0 0) (.slice none 0 0) (.slice none 0 0))
          obtain ⟨g0, g1, g2, g3, -⟩ := four_cells (setOb_row yV.out (.slice none 0 0) (.slice none 0 0) (.slice none 0 0) (.slice none 0 0))
          have hg := grown_below HBV.out HBV.out.size (setOb_grown V w.heap.size (.slice none 0 0) (.slice none 0 0) (.slice none 0 0) (.slice none 0 0)) (Nat.le_refl _)
          generalize setOb V w.heap.size (.slice none 0 0) (.slice none 0 0) (.slice none 0 0) (.slice none 0 0) = V5 at *
          exact bodyPost_ret (v := .tuple #[OvNil, .int .i64 12]) (by simp [results, Try.results9, go_sem, g0, g1, g2, g3]) rfl ⟨hg, Or.inl ⟨by rw [hx, hy, HLr.out, HK0.out, HP.out]; rfl, rfl⟩⟩
        | true =>
          rw [hp] at hpm
          have HP := Lib.hid hp
          clear hp
          go_wp2_with (go_at_call 22; (with_reducible refine hpm.mono ?_); rintro e V ⟨rfl, bV⟩; (have yV := Lib.hid ((bV.block w.heap.size (World.block_lt_of_cell? U _ r0)).trans yR.out)); (obtain ⟨s0, s1, s2, s3, e0, e1, e2, e3⟩ := four_cells yV.out); (have HBV := Lib.hid (HBel.out.trans (bV.mono HBel.out.size))); (have HOV := Lib.hid (HOwn.out.below bV)); (have q0 := (bV.cell (p := ⟨u4.heap.size, 0, none⟩) (World.block_lt_of_cell? U _ o0)).trans o0); (have q1 := (bV.cell (p := ⟨u4.heap.size, 1, none⟩) (World.block_lt_of_cell? U _ o1)).trans o1); (have q2 := (bV.cell (p := ⟨u4.heap.size, 2, none⟩) (World.block_lt_of_cell? U _ o2)).trans o2); (have q3 := (bV.cell (p := ⟨u4.heap.size, 3, none⟩) (World.block_lt_of_cell? U _ o3)).trans o3))
          change bodyPost _ _ _ _ _ (setOb V w.heap.size (.slice a1 t1.length c1) (.slice a2 t2.length c2) (.slice a3 ds.length c3) (.slice a4 ks.length c4))
          obtain ⟨g0, g1, g2, g3, -⟩ := four_cells (setOb_row yV.out (.slice a1 t1.length c1) (.slice a2 t2.length c2) (.slice a3 ds.length c3) (.slice a4 ks.length c4))
          have hg := grown_below HBV.out HBV.out.size (setOb_grown V w.heap.size (.slice a1 t1.length c1) (.slice a2 t2.length c2) (.slice a3 ds.length c3) (.slice a4 ks.length c4)) (Nat.le_refl _)
          have hO5 := HOV.out.grown (setOb_grown V w.heap.size (.slice a1 t1.length c1) (.slice a2 t2.length c2) (.slice a3 ds.length c3) (.slice a4 ks.length c4)) (by have := hM4l.out; omega)
          generalize setOb V w.heap.size (.slice a1 t1.length c1) (.slice a2 t2.length c2) (.slice a3 ds.length c3) (.slice a4 ks.length c4) = V5 at *
          exact bodyPost_ret (v := .tuple #[OV ⟨a1, c1, a2, c2, a3, c3, a4, c4⟩ ⟨t1, t2, ds, ks⟩, .int .i64 0]) (by simp [results, Try.results9, go_sem, g0, g1, g2, g3]) rfl ⟨hg, Or.inr ⟨by rw [hx, hy, HLr.out, HK0.out, HP.out]; rfl, _, rfl, hO5.obIn⟩⟩

set_option maxRecDepth 8000 in
set_option maxHeartbeats 4000000 in
theorem obRead_head {w : World} {b o c : Nat} {zs : List Int} {C : List Int} (hC : cutL zs = C) (hW : Win w (some ⟨b, o, none⟩) c zs) (hH : sHead C = true) : Calls Try.prog 9 #[.slice (some ⟨b, o, none⟩) zs.length c] w (RdPost w (m4 C).2.2 (s4 C).2.2 (s4 C).2.1.length (sOb C)) := by
  have hlen : C.length = zs.length := by rw [← hC]; exact cutL_len zs
  simp only [sHead, Bool.and_eq_true, decide_eq_true_eq, beq_iff_eq] at hH
  obtain ⟨h5, h, hl⟩ := hH
  rw [hlen] at h5 h hl
  obtain ⟨bk, o', e, hcell⟩ := hW.nums (by omega)
  cases e
  have hc := hcell (zs.length - 1) (by omega)
  have hv := last_mask hW.u64 (by omega)
  rw [hC, hl] at hv
  have hbl : b < w.heap.size := World.block_lt_of_cell? w _ hc
  -- both readers' slices
  have hWm : Win w (some ⟨b, o + (zs.length - 5), none⟩) (c - (zs.length - 5)) (zs.drop (zs.length - 5)) := by
    have := hW.cut (n := zs.length - 5) (by omega)
    rw [if_neg (by have := hW.cap; omega)] at this
    exact this
  have hWr : Win w (some ⟨b, o, none⟩) c (zs.take (zs.length - 5)) := by
    refine ⟨fun _ => ⟨_, _, rfl, fun i hi => ?_⟩, fun z hz => hW.u64 z (List.mem_of_mem_take hz), by have := hW.cap; simp; omega, by have := hW.len; simp; omega, Or.inr ⟨_, _, rfl⟩⟩
    simp at hi
    rw [hcell i (by omega)]
    simp [List.getD, List.getElem?_take_of_lt (show i < zs.length - 5 by omega)]
  have hRm : ∀ V : World, Below w.heap.size w V → RdAt (V.heap.size + 1) (V.alloc (RdO (some ⟨b, o + (zs.length - 5), none⟩) (zs.length - (zs.length - 5)) (c - (zs.length - 5)) false)) V.heap.size (C.drop (zs.length - 5), false) := fun V hB => by
    have := rd_new (B := V.heap.size + 1) (hWm.below hB) (n := zs.length - (zs.length - 5)) (by simp) (fun g o e => by cases e; have := hB.size; omega)
    rw [cutL_drop, hC] at this
    exact this
  have hRr : ∀ V : World, Below w.heap.size w V → RdAt (V.heap.size + 1) (V.alloc (RdO (some ⟨b, o, none⟩) (zs.length - 5) c false)) V.heap.size (C.take (zs.length - 5), false) := fun V hB => by
    have := rd_new (B := V.heap.size + 1) (hWr.below hB) (n := zs.length - 5) (by simp) (fun g o e => by cases e; have := hB.size; omega)
    rw [cutL_take, hC] at this
    exact this
  have hw36 : W36 C := hC ▸ cutL_36 zs
  have K0 : RSok (C.drop (zs.length - 5), false) := ⟨hw36.drop _, fun e => by cases e⟩
  have k1 : RSok (m1 C).2 ∧ 0 ≤ (m1 C).1 ∧ (m1 C).1 ≤ 262143 := by unfold m1; rw [hlen]; exact pN_ok K0
  have k2 : RSok (m2 C).2 ∧ 0 ≤ (m2 C).1 ∧ (m2 C).1 ≤ 262143 := pN_ok k1.1
  have k3 : RSok (m3 C).2 ∧ 0 ≤ (m3 C).1 ∧ (m3 C).1 ≤ 262143 := pN_ok k2.1
  have k4 : RSok (m4 C).2 ∧ 0 ≤ (m4 C).1 ∧ (m4 C).1 ≤ 262143 := pN_ok k3.1
  have J0 : RSok (C.take (zs.length - 5), false) := ⟨hw36.take _, fun e => by cases e⟩
  have j1 : RSok (s1 C).2 ∧ W36 (s1 C).1 := by unfold s1; rw [hlen]; exact pW_ok _ J0
  have j2 : RSok (s2 C).2 ∧ W36 (s2 C).1 := pW_ok _ j1.1
  have j3 := pDs_ok (m3 C).1.toNat j2.1
  have j4 := pKs_ok (m4 C).1.toNat (s := (s3 C).2) j3.1
  have n1 : NumTo (C.drop (zs.length - 5), false) (m1 C).1 (m1 C).2 := fun B V M h => by unfold m1; rw [hlen]; exact number_rd h
  have n2 : NumTo (m1 C).2 (m2 C).1 (m2 C).2 := fun B V M h => number_rd h
  have n3 : NumTo (m2 C).2 (m3 C).1 (m3 C).2 := fun B V M h => number_rd h
  have n4 : NumTo (m3 C).2 (m4 C).1 (m4 C).2 := fun B V M h => number_rd h
  have p1 : WdsTo (C.take (zs.length - 5), false) (m1 C).1 (s1 C).1 (s1 C).2 := fun B V M h => by
    have hh := words_rd (n := (m1 C).1.toNat) h
    rw [← int_nat k1.2.1] at hh
    refine hh.mono fun e w' ⟨v, e1, h1, h2, h3⟩ => ?_
    have e2 : s1 C = pW (m1 C).1.toNat (C.take (zs.length - 5), false) := by unfold s1; rw [hlen]
    rw [e2]
    obtain ⟨pp, cc, rfl, -⟩ := h1.que.val
    exact ⟨pp, cc, e1, h1, h2, h3⟩
  have p2 : WdsTo (s1 C).2 (m2 C).1 (s2 C).1 (s2 C).2 := fun B V M h => by
    have hh := words_rd (n := (m2 C).1.toNat) h
    rw [← int_nat k2.2.1] at hh
    refine hh.mono fun e w' ⟨v, e1, h1, h2, h3⟩ => ?_
    change OwnW _ _ _ (s2 C).1 at h1
    obtain ⟨pp, cc, rfl, -⟩ := h1.que.val
    exact ⟨pp, cc, e1, h1, h2, h3⟩
  have p3 : DefsTo (s2 C).2 (m3 C).1 (s3 C).1 (s3 C).2 := fun B V M h h1 h2 => by
    have hh := defs_rd (n := (m3 C).1.toNat) h j2.1 h1 h2 (by omega)
    rw [← int_nat k3.2.1] at hh
    exact hh
  have p4 : LinksTo (s3 C).2 (m4 C).1 (s4 C).1 (s4 C).2 := fun B V M h h1 h2 => by
    have hh := links_rd (n := (m4 C).1.toNat) h j3.1 h1 h2 (by omega)
    rw [← int_nat k4.2.1] at hh
    exact hh
  have hF : Fit ⟨(s1 C).1, (s2 C).1, (s3 C).1, (s4 C).1⟩ := by
    have l1 : (s1 C).1.length ≤ 1024 := by
      have := pW_len (m1 C).1.toNat (C.take (C.length - 5), false)
      have e : (s1 C).1 = (pW (m1 C).1.toNat (C.take (C.length - 5), false)).1 := rfl
      rw [e]; simp at this; omega
    have l1' : (s1 C).2.1.length ≤ 1024 := by
      have := pW_left (m1 C).1.toNat (C.take (C.length - 5), false)
      have e : (s1 C).2 = (pW (m1 C).1.toNat (C.take (C.length - 5), false)).2 := rfl
      rw [e]; simp at this; omega
    have l2 : (s2 C).1.length ≤ 1024 := by
      have := pW_len (m2 C).1.toNat (s1 C).2
      have e : (s2 C).1 = (pW (m2 C).1.toNat (s1 C).2).1 := rfl
      rw [e]; omega
    refine ⟨fun z hz => ?_, fun z hz => ?_, by show (s1 C).1.length ≤ _; unfold maxLen; omega, by show (s2 C).1.length ≤ _; unfold maxLen; omega, ?_, ?_, fun d hd => ?_, fun d hd => ?_⟩
    · have := j1.2 z hz; exact ⟨by omega, by omega⟩
    · have := j2.2 z hz; exact ⟨by omega, by omega⟩
    · have := j3.2.1; show (s3 C).1.length ≤ _; have e : (s3 C).1.length ≤ (m3 C).1.toNat := this; unfold maxLen; omega
    · have := j4.2.1; show (s4 C).1.length ≤ _; have e : (s4 C).1.length ≤ (m4 C).1.toNat := this; unfold maxLen; omega
    · have := j3.2.2 d hd; exact ⟨by unfold maxLen; omega, by omega, by omega⟩
    · have := j4.2.2 d hd; exact ⟨by unfold maxLen; omega, by unfold maxLen; omega, by omega, by omega⟩
  exact obRead_walk h5 h hW.cap hc hv hRm hRr n1 n2 n3 n4 p1 p2 p3 p4 hF

end Go.Proofs.Ytnlohmkgkihldaa.W
