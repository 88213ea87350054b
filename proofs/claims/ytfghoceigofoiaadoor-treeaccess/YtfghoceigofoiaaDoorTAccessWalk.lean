/-
  TreeAccess: the law's walk.
-/
import Derived.Test.YtfghoceigofoiaaDoorTAwake
namespace Go.Proofs.YtfghoceigofoiaaDoor.T
open Go.ChangeShapes Go.WideShapes Go.ChangeAt Go.RowKit
open Go.Proofs.YtfghoceigofoiaaDoor.N (bs bs_data bs_size bs_inj)
open Go.Proofs.YtfghoceigofoiaaDoor.A (Tm TRow)

/-- a segment's branch as the law hands it in, and its node -/
def seg0 (u : Int) : Br := ⟨1, u, 0, [], false, [], 0, 0, 0, 0⟩

/-- two segments, the first by the name b -/
structure Two (st : St) (g1 g2 : Nat) (x1 x2 : Nd) : Prop where
  p : st.P (0, [98]) = some g1
  n1 : st.N g1 = some x1
  n2 : st.N g2 = some x2
  u1 : st.G 1 = some g1
  u2 : st.G 2 = some g2
  ne : g2 ≠ g1

theorem Two.bind {st : St} {g1 g2 : Nat} {x1 x2 : Nd} (h : Two st g1 g2 x1 x2) (m : Txt) : Two (bindS st g1 x1 m) g1 g2 { x1 with names := x1.names ++ [m] } x2 where
  p := by
    show upd st.P (x1.home, m) (some g1) (0, [98]) = some g1
    by_cases e : ((0 : Int), ([98] : Txt)) = (x1.home, m)
    · rw [e, upd_same]
    · rw [upd_other _ _ e]
      exact h.p
  n1 := upd_same (f := st.N) _ _
  n2 := (upd_other st.N _ h.ne).trans h.n2
  u1 := h.u1
  u2 := h.u2
  ne := h.ne
theorem Two.node {st : St} {g1 g2 : Nat} {x1 x2 : Nd} (h : Two st g1 g2 x1 x2) (x : Nd) : Two (nodeS st g1 x) g1 g2 x x2 where
  p := h.p
  n1 := upd_same (f := st.N) _ _
  n2 := (upd_other st.N _ h.ne).trans h.n2
  u1 := h.u1
  u2 := h.u2
  ne := h.ne

theorem lmay_nil : A.lmay [] = true := by decide
theorem bmay_zero : W.bmay 0 0 0 0 = true := by decide

/-- one segment added to nothing; another added to it -/
theorem seg_one (g : Nat) : (segS noSt g (seg0 1) 0 [98]).P (0, [99]) = none ∧ (segS noSt g (seg0 1) 0 [98]).G 2 = none := by
  refine ⟨?_, ?_⟩ <;> simp [segS, bindS, nodeS, noSt, upd, seg0]
theorem seg_two {g1 g2 : Nat} (hne : g2 ≠ g1) : Two (segS (segS noSt g1 (seg0 1) 0 [98]) g2 (seg0 2) 0 [99]) g1 g2 ⟨seg0 1, 0, [[98]]⟩ ⟨seg0 2, 0, [[99]]⟩ := by
  have hne' : ¬ g1 = g2 := fun e => hne e.symm
  constructor <;> simp [segS, bindS, nodeS, noSt, upd, seg0, segB, hne, hne']

/-- a text of one sign, made of a byte -/
theorem conv_byte (y : UInt8) {x : Int} (hx : (y.toNat : Int) = x) (w : World) : (convert 58 9 (.slice (some ⟨w.heap.size, 0, none⟩) 1 1)).run Tryd.prog (w.alloc (.cells #[.int .u8 x] 5)) = .ok (.string (bs [y])) (w.alloc (.cells #[.int .u8 x] 5)) := by
  refine run_convert_bytes_back _ 58 9 5 ⟨w.heap.size, 0, none⟩ 1 [y] Tryd.underlying58 Tryd.underlying5 Tryd.underlying9 (fun j hj => ?_)
  obtain rfl : j = 0 := by simp at hj; omega
  rw [Addr.add_lit, cell_of_row _ _ _ _ _ _ (heap_alloc_new w _)]
  simp only [List.getElem_cons_zero, hx]
  rfl


theorem TreeAt.node_lt {V : World} {b : Nat} {F : Nat → Prop} {c : Nat} {st : St} (h : TreeAt V b F c st) {g : Nat} {x : Nd} (hg : st.N g = some x) : g < V.heap.size := by
  obtain ⟨_, _, _, _, _, h⟩ := h
  exact (h.node g x hg).lt
theorem uid_is {w : World} {b : Nat} {F : Nat → Prop} {c : Nat} {st : St} (h : TreeAt w b F c st) {u : Int} (hu : rng u) {g : Nat} {x : Nd} {B : Br} (hG : st.G u = some g) (hN : st.N g = some x) (hB : x.br = B) :
    Calls Tryd.prog 21 #[TP b, .int .i64 u] w (Shown w B fun v => .tuple #[v, .bool true]) := by
  subst hB
  exact uid_yes h hu hG hN
theorem look_is {w : World} {b : Nat} {F : Nat → Prop} {c : Nat} {st : St} (h : TreeAt w b F c st) {d : Int} {s : Txt} (hd : rng d) (hs : s.length ≤ maxLen) {g : Nat} {x : Nd} {B : Br} (hP : st.P (d, s) = some g) (hN : st.N g = some x) (hB : x.br = B) :
    Calls Tryd.prog 16 #[TP b, .int .i64 d, .string (bs s)] w (Shown w B fun v => .tuple #[v, .bool true]) := by
  subst hB
  exact look_yes h hd hs hP hN
theorem rng1 : rng 1 := ⟨by omega, by omega⟩
theorem rng2 : rng 2 := ⟨by omega, by omega⟩
/-- brackets in a block -/
def RB (V : World) (k : Nat) (r1 r2 r3 gt : Int) : Prop := V.heap[k]? = some (W.BO r1 r2 r3 gt)
theorem RB.cell {V : World} {k : Nat} {r1 r2 r3 gt : Int} (h : RB V k r1 r2 r3 gt) : V.cell? ⟨k, 0, none⟩ = some (.int .i64 r1) ∧ V.cell? ⟨k, 1, none⟩ = some (.int .i64 r2) ∧ V.cell? ⟨k, 2, none⟩ = some (.int .i64 r3) ∧ V.cell? ⟨k, 3, none⟩ = some (.int .i64 gt) := by
  unfold RB at h
  simp [World.cell?, h]
theorem RB.lt {V : World} {k : Nat} {r1 r2 r3 gt : Int} (h : RB V k r1 r2 r3 gt) : k < V.heap.size := (Array.getElem?_eq_some_iff.1 h).1
theorem RB.of {V V' : World} {k B : Nat} {r1 r2 r3 gt : Int} (h : RB V k r1 r2 r3 gt) (hb : Below B V V') (hk : k < B) : RB V' k r1 r2 r3 gt := (hb.block k hk).trans h
theorem name_p {st : St} {g : Nat} {x : Nd} {m : Txt} (hx : x.home = 0) : (bindS st g x m).P (0, m) = some g := by
  show upd st.P (x.home, m) (some g) (0, m) = some g
  rw [hx, upd_same]

theorem listMay_is {w : World} {a : Option Addr} {c : Nat} {l : List Tm} (hr : TRow w a c l) (hl : ∀ t ∈ l, t.1.length ≤ maxLen) {r : Bool} (e : A.lmay l = r) :
    Calls Tryd.prog 22 #[.slice a l.length c] w fun e w' => e = .returned (.bool r) ∧ ∃ n, w' = w.drewN n := by
  subst e
  exact A.listMay_any a c l w hr hl

/-- what the law's tree is in its first loop -/
def LoopA (w0 W : World) (b : Nat) (i : Value) : Prop :=
  (i = .int .i64 1 ∧ Has w0 W b 0 (fun st => st = noSt)) ∨ (i = .int .i64 2 ∧ ∃ g1, g1 < W.heap.size ∧ Has w0 W b 4 (fun st => st = segS noSt g1 (seg0 1) 0 [98])) ∨
    (i = .int .i64 3 ∧ ∃ g1 g2, Has w0 W b 8 (fun st => Two st g1 g2 ⟨seg0 1, 0, [[98]]⟩ ⟨seg0 2, 0, [[99]]⟩))

set_option maxHeartbeats 4000000 in
theorem access_walk (a : Option Addr) (cc : Nat) (l : List Tm) (r1 r2 r3 gt : Int) (more : Txt) (w : World) (hr : TRow w a cc l) (htx : ∀ t ∈ l, t.1.length ≤ maxLen) :
    Calls Tryd.prog 7 #[.slice a l.length cc, .agg #[.int .i64 r1, .int .i64 r2, .int .i64 r3, .int .i64 gt], .string (bs more)] w fun e w' => e = .returned (.bool true) ∧ Below w.heap.size w w' := by
  have hsz := bs_size more
  have HR := Lib.hid hr
  have HT := Lib.hid htx
  clear hr htx


  by_cases h40 : 40 < l.length
  · have e40 : decide (40 < (l.length : Int)) = true := by simp; omega
    clear h40
    go_enter Tryd.func7, Tryd.ntmps7
    go_wp2_with (first
      | (go_at_call 8; ((refine (awake_any _).mono ?_); rintro e w1 ⟨rfl, b1⟩))
      | (go_at_call 9; ((refine (new_at w1).mono ?_); rintro e w2 ⟨rfl, h2, b2, s2⟩)))
    go_ret
    exact ⟨rfl, bel2 (bel2 (one_new _ _) b1) b2⟩
  have e40 : decide (40 < (l.length : Int)) = false := by simp; omega
  by_cases h100 : 100 < more.length
  · have e100 : decide (100 < (more.length : Int)) = true := by simp; omega
    clear h40 h100
    go_enter Tryd.func7, Tryd.ntmps7
    go_wp2_with (first
      | (go_at_call 8; ((refine (awake_any _).mono ?_); rintro e w1 ⟨rfl, b1⟩))
      | (go_at_call 9; ((refine (new_at w1).mono ?_); rintro e w2 ⟨rfl, h2, b2, s2⟩)))
    go_ret
    exact ⟨rfl, bel2 (bel2 (one_new _ _) b1) b2⟩
  have e100 : decide (100 < (more.length : Int)) = false := by simp; omega
  have H100 : Hid (more.length ≤ maxLen) := Lib.hid (short_txt (by omega))
  clear h40 h100
  go_enter Tryd.func7, Tryd.ntmps7
  go_wp2_with (first
    | (go_at_call 8; ((refine (awake_any _).mono ?_); rintro e w1 ⟨rfl, b1⟩; have L1 := Lib.hid (bel2 (one_new w (W.BO r1 r2 r3 gt)) b1); have K1 := Lib.hid b1; clear b1))
    | (go_at_call 9; ((refine (new_at w1).mono ?_); rintro e w2 ⟨rfl, h2, b2, s2⟩; have H2 := Lib.hid (show Has w1 w2 w1.heap.size 0 (fun st => st = noSt) from ⟨_, _, h2, rfl, b2, fun i hi => Nat.le_of_eq hi.symm⟩); clear h2 b2)))
  go_loopw [8] (fun i V => LoopA w1 V w1.heap.size i) (fun i _ => 3 - (intOf i).toNat)
  case atStart => exact Or.inl ⟨rfl, H2.out⟩
  case round =>
    clear H2 s2
    rcases hrel with ⟨rfl, h⟩ | ⟨rfl, g1, hg1, h⟩ | ⟨rfl, g1, g2, h⟩
    · obtain ⟨F, st, t3, rfl, b3, y3⟩ := h
      have T3 := Lib.hid t3
      have B3 := Lib.hid b3
      have Y3 := Lib.hid y3
      clear t3 b3 y3
      have cv := conv_byte 98 (x := 98) rfl wr
      go_wp2_with (go_at_call 10; ((refine (add_seg (T3.out.alloc _) (d := 0) (s := [98]) rng0 (short_txt (by decide)) (free_ok (by decide) rfl) (br := seg0 1) (a := none) (cc := 0) (A.TRow.nil _) (fun t ht => by cases ht) rfl (by decide) (by decide) lmay_nil bmay_zero rfl (by omega)).mono ?_); rintro e w4 ⟨rfl, F4, g4, hg4, t4, x4⟩; have T4 := Lib.hid t4; have X4 := Lib.hid x4; have HG4 := Lib.hid hg4; clear t4 x4 hg4))
      go_roundw
      case rel => exact Or.inr (Or.inl ⟨rfl, g4, T4.out.node_lt (upd_same _ _ _), has_went (B3.out.alloc B3.out.size _) Y3.out T4.out rfl X4.out⟩)
      case measure => simp [intOf]
    · obtain ⟨F, st, t3, rfl, b3, y3⟩ := h
      have T3 := Lib.hid t3
      have B3 := Lib.hid b3
      have Y3 := Lib.hid y3
      have H1 := Lib.hid hg1
      clear t3 b3 y3 hg1
      have cv := conv_byte 99 (x := 99) rfl wr
      go_wp2_with (go_at_call 10; ((refine (add_seg (T3.out.alloc _) (d := 0) (s := [99]) rng0 (short_txt (by decide)) (free_ok (by decide) (seg_one g1).1) (br := seg0 2) (a := none) (cc := 0) (A.TRow.nil _) (fun t ht => by cases ht) rfl (by decide) (by decide) lmay_nil bmay_zero (seg_one g1).2 (by omega)).mono ?_); rintro e w4 ⟨rfl, F4, g4, hg4, t4, x4⟩; have T4 := Lib.hid t4; have X4 := Lib.hid x4; have HG4 := Lib.hid hg4; clear t4 x4 hg4))
      go_roundw
      case rel => exact Or.inr (Or.inr ⟨rfl, g1, g4, has_went (B3.out.alloc B3.out.size _) Y3.out T4.out (seg_two (by have := H1.out; have := HG4.out; simp at this; omega)) X4.out⟩)
      case measure => simp [intOf]
    · obtain ⟨F, st, t3, two, b3, y3⟩ := h
      have T3 := Lib.hid t3
      have B3 := Lib.hid b3
      have Y3 := Lib.hid y3
      have S3 := Lib.hid two
      have R0 : Hid (RB w1 w.heap.size r1 r2 r3 gt) := Lib.hid (RB.of (V := w.alloc (W.BO r1 r2 r3 gt)) (heap_alloc_new w _) K1.out (by simp))
      clear t3 b3 y3 two
      have q1 := brk_eql
      have q2 := brk_neq
      have q3 := brk_guard
      by_cases hf : freeE st 0 more = 0
      · have HF := Lib.hid hf
        clear hf
        cases hA : A.lmay l with
        | true =>
          have HA := Lib.hid hA
          clear hA
          cases hB : W.bmay r1 r2 r3 gt with
          | true =>
            have HB := Lib.hid hB
            clear hB
            go_wp2_with (first
              | (go_at_call 13; ((refine (name_at T3.out (d := 0) (s := [98]) rng0 (short_txt (by decide)) H100.out S3.out.p S3.out.n1 HF.out (by omega)).mono ?_); rintro e w4 ⟨rfl, F4, t4, x4⟩; have S4 := Lib.hid (S3.out.bind more); have P4 := Lib.hid (name_p (st := st) (g := g1) (x := ⟨seg0 1, 0, [[98]]⟩) (m := more) rfl); have T4 := Lib.hid t4; have B4 := Lib.hid (B3.out.trans (x4.below Y3.out B3.out.size)); have Y4 := Lib.hid (x4.ge Y3.out B3.out.size); clear t4 x4))
              | (go_at_call 14; ((refine (access_at T4.out (d := 0) (s := [98]) rng0 (short_txt (by decide)) S4.out.p S4.out.n1 rfl (HR.out.below (L1.out.trans (B4.out.mono L1.out.size))) HT.out HA.out).mono ?_); rintro e w5 ⟨rfl, F5, t5, x5⟩; have S5 := Lib.hid (S4.out.node (aclX (⟨seg0 1, 0, [[98]] ++ [more]⟩ : Nd) l)); have T5 := Lib.hid t5; have B5 := Lib.hid (B4.out.trans (x5.below Y4.out B4.out.size)); have Y5 := Lib.hid (x5.ge Y4.out B4.out.size); clear t5 x5; obtain ⟨v0, v1, v2, v3⟩ := (R0.out.of B5.out R0.out.lt).cell))
              | (go_at_call 15; ((refine (ringed_at T5.out (d := 0) (s := [98]) rng0 (short_txt (by decide)) S5.out.p S5.out.n1 rfl HB.out).mono ?_); rintro e w6 ⟨rfl, t6, x6⟩; have S6 := Lib.hid (S5.out.node (ringX (aclX (⟨seg0 1, 0, [[98]] ++ [more]⟩ : Nd) l) r1 r2 r3 gt)); have T6 := Lib.hid t6; have B6 := Lib.hid (B5.out.trans (x6.below Y5.out B5.out.size)); clear t6 x6; clear v0 v1 v2 v3))
              | (go_at_call 21; ((with_reducible refine (uid_is T6.out (u := 1) (g := g1) (x := (ringX (aclX (⟨seg0 1, 0, [[98]] ++ [more]⟩ : Nd) l) r1 r2 r3 gt)) (B := ⟨1, 1, 0, [], false, l, r1, r2, r3, gt⟩) rng1 S6.out.u1 S6.out.n1 rfl).mono ?_); rintro e w7 ⟨a7, c7, rfl, o7, b7⟩; have T7 := Lib.hid ((T6.out.below b7).alloc (BrO ⟨1, 1, 0, [], false, l, r1, r2, r3, gt⟩ (.slice a7 l.length c7))); have B7 := Lib.hid ((B6.out.trans (b7.mono B6.out.size)).alloc (Nat.le_trans B6.out.size b7.size) (BrO ⟨1, 1, 0, [], false, l, r1, r2, r3, gt⟩ (.slice a7 l.length c7))); have X7 := Lib.hid (BrAt.new w7 ⟨1, 1, 0, [], false, l, r1, r2, r3, gt⟩ (.slice a7 l.length c7)); clear o7 b7))
              | (go_at_call 21; ((with_reducible refine (uid_is T7.out (u := 2) (g := g2) (x := (⟨seg0 2, 0, [[99]]⟩ : Nd)) (B := ⟨1, 2, 0, [], false, [], 0, 0, 0, 0⟩) rng2 S6.out.u2 S6.out.n2 rfl).mono ?_); rintro e w8 ⟨a8, c8, rfl, o8, b8⟩; have T8 := Lib.hid ((T7.out.below b8).alloc (BrO ⟨1, 2, 0, [], false, [], 0, 0, 0, 0⟩ (.slice a8 0 c8))); have B8 := Lib.hid ((B7.out.trans (b8.mono B7.out.size)).alloc (Nat.le_trans B7.out.size b8.size) (BrO ⟨1, 2, 0, [], false, [], 0, 0, 0, 0⟩ (.slice a8 0 c8))); have X8 := Lib.hid (BrAt.new w8 ⟨1, 2, 0, [], false, [], 0, 0, 0, 0⟩ (.slice a8 0 c8)); have Z8 := Lib.hid ((X7.out.below b8).alloc (BrO ⟨1, 2, 0, [], false, [], 0, 0, 0, 0⟩ (.slice a8 0 c8))); clear o8 b8))
              | (go_at_call 16; ((refine (look_is T8.out (d := 0) (s := more) rng0 H100.out (g := g1) (x := (ringX (aclX (⟨seg0 1, 0, [[98]] ++ [more]⟩ : Nd) l) r1 r2 r3 gt)) P4.out S6.out.n1 (B := ⟨1, 1, 0, [], false, l, r1, r2, r3, gt⟩) rfl).mono ?_); rintro e w9 ⟨a9, c9, rfl, o9, b9⟩; have B9 := Lib.hid ((B8.out.trans (b9.mono B8.out.size)).alloc (Nat.le_trans B8.out.size b9.size) (BrO ⟨1, 1, 0, [], false, l, r1, r2, r3, gt⟩ (.slice a9 l.length c9))); have X9 := Lib.hid (BrAt.new w9 ⟨1, 1, 0, [], false, l, r1, r2, r3, gt⟩ (.slice a9 l.length c9)); have V9 := Lib.hid ((X8.out.below b9).alloc (BrO ⟨1, 1, 0, [], false, l, r1, r2, r3, gt⟩ (.slice a9 l.length c9))); have U9 := Lib.hid ((Z8.out.below b9).alloc (BrO ⟨1, 1, 0, [], false, l, r1, r2, r3, gt⟩ (.slice a9 l.length c9))); clear o9 b9; obtain ⟨y0, y1, y2, y3, y4, y5, y6, y7, y8, y9⟩ := X9.out.cell; obtain ⟨i0, i1, i2, i3, i4, i5, i6, i7, i8, i9⟩ := U9.out.cell; obtain ⟨j0, j1, j2, j3, j4, j5, j6, j7, j8, j9⟩ := V9.out.cell; obtain ⟨v0, v1, v2, v3⟩ := (R0.out.of B9.out R0.out.lt).cell))
              | (go_at_call 22; ((refine (listMay_is (HR.out.below (L1.out.trans (B9.out.mono L1.out.size))) HT.out HA.out).mono ?_); rintro e wz ⟨rfl, nz, rfl⟩)))
            go_ret
            exact ⟨rfl, L1.out.trans ((B9.out.mono L1.out.size).trans ((bel_drewN _ _).mono (Nat.le_trans L1.out.size B9.out.size)))⟩
          | false =>
            have HB := Lib.hid hB
            clear hB
            go_wp2_with (first
              | (go_at_call 13; ((refine (name_at T3.out (d := 0) (s := [98]) rng0 (short_txt (by decide)) H100.out S3.out.p S3.out.n1 HF.out (by omega)).mono ?_); rintro e w4 ⟨rfl, F4, t4, x4⟩; have S4 := Lib.hid (S3.out.bind more); have P4 := Lib.hid (name_p (st := st) (g := g1) (x := ⟨seg0 1, 0, [[98]]⟩) (m := more) rfl); have T4 := Lib.hid t4; have B4 := Lib.hid (B3.out.trans (x4.below Y3.out B3.out.size)); have Y4 := Lib.hid (x4.ge Y3.out B3.out.size); clear t4 x4))
              | (go_at_call 14; ((refine (access_at T4.out (d := 0) (s := [98]) rng0 (short_txt (by decide)) S4.out.p S4.out.n1 rfl (HR.out.below (L1.out.trans (B4.out.mono L1.out.size))) HT.out HA.out).mono ?_); rintro e w5 ⟨rfl, F5, t5, x5⟩; have S5 := Lib.hid (S4.out.node (aclX (⟨seg0 1, 0, [[98]] ++ [more]⟩ : Nd) l)); have T5 := Lib.hid t5; have B5 := Lib.hid (B4.out.trans (x5.below Y4.out B4.out.size)); have Y5 := Lib.hid (x5.ge Y4.out B4.out.size); clear t5 x5; obtain ⟨v0, v1, v2, v3⟩ := (R0.out.of B5.out R0.out.lt).cell))
              | (go_at_call 15; ((refine (ringed_bad T5.out (d := 0) (s := [98]) rng0 (short_txt (by decide)) S5.out.p S5.out.n1 rfl HB.out).mono ?_); rintro e w6 ⟨rfl, b6⟩; have S6 := Lib.hid S5.out; have T6 := Lib.hid (T5.out.below b6); have B6 := Lib.hid (B5.out.trans (b6.mono B5.out.size)); clear b6; clear v0 v1 v2 v3))
              | (go_at_call 21; ((with_reducible refine (uid_is T6.out (u := 1) (g := g1) (x := (aclX (⟨seg0 1, 0, [[98]] ++ [more]⟩ : Nd) l)) (B := ⟨1, 1, 0, [], false, l, 0, 0, 0, 0⟩) rng1 S6.out.u1 S6.out.n1 rfl).mono ?_); rintro e w7 ⟨a7, c7, rfl, o7, b7⟩; have T7 := Lib.hid ((T6.out.below b7).alloc (BrO ⟨1, 1, 0, [], false, l, 0, 0, 0, 0⟩ (.slice a7 l.length c7))); have B7 := Lib.hid ((B6.out.trans (b7.mono B6.out.size)).alloc (Nat.le_trans B6.out.size b7.size) (BrO ⟨1, 1, 0, [], false, l, 0, 0, 0, 0⟩ (.slice a7 l.length c7))); have X7 := Lib.hid (BrAt.new w7 ⟨1, 1, 0, [], false, l, 0, 0, 0, 0⟩ (.slice a7 l.length c7)); clear o7 b7))
              | (go_at_call 21; ((with_reducible refine (uid_is T7.out (u := 2) (g := g2) (x := (⟨seg0 2, 0, [[99]]⟩ : Nd)) (B := ⟨1, 2, 0, [], false, [], 0, 0, 0, 0⟩) rng2 S6.out.u2 S6.out.n2 rfl).mono ?_); rintro e w8 ⟨a8, c8, rfl, o8, b8⟩; have T8 := Lib.hid ((T7.out.below b8).alloc (BrO ⟨1, 2, 0, [], false, [], 0, 0, 0, 0⟩ (.slice a8 0 c8))); have B8 := Lib.hid ((B7.out.trans (b8.mono B7.out.size)).alloc (Nat.le_trans B7.out.size b8.size) (BrO ⟨1, 2, 0, [], false, [], 0, 0, 0, 0⟩ (.slice a8 0 c8))); have X8 := Lib.hid (BrAt.new w8 ⟨1, 2, 0, [], false, [], 0, 0, 0, 0⟩ (.slice a8 0 c8)); have Z8 := Lib.hid ((X7.out.below b8).alloc (BrO ⟨1, 2, 0, [], false, [], 0, 0, 0, 0⟩ (.slice a8 0 c8))); clear o8 b8))
              | (go_at_call 16; ((refine (look_is T8.out (d := 0) (s := more) rng0 H100.out (g := g1) (x := (aclX (⟨seg0 1, 0, [[98]] ++ [more]⟩ : Nd) l)) P4.out S6.out.n1 (B := ⟨1, 1, 0, [], false, l, 0, 0, 0, 0⟩) rfl).mono ?_); rintro e w9 ⟨a9, c9, rfl, o9, b9⟩; have B9 := Lib.hid ((B8.out.trans (b9.mono B8.out.size)).alloc (Nat.le_trans B8.out.size b9.size) (BrO ⟨1, 1, 0, [], false, l, 0, 0, 0, 0⟩ (.slice a9 l.length c9))); have X9 := Lib.hid (BrAt.new w9 ⟨1, 1, 0, [], false, l, 0, 0, 0, 0⟩ (.slice a9 l.length c9)); have V9 := Lib.hid ((X8.out.below b9).alloc (BrO ⟨1, 1, 0, [], false, l, 0, 0, 0, 0⟩ (.slice a9 l.length c9))); have U9 := Lib.hid ((Z8.out.below b9).alloc (BrO ⟨1, 1, 0, [], false, l, 0, 0, 0, 0⟩ (.slice a9 l.length c9))); clear o9 b9; obtain ⟨y0, y1, y2, y3, y4, y5, y6, y7, y8, y9⟩ := X9.out.cell; obtain ⟨i0, i1, i2, i3, i4, i5, i6, i7, i8, i9⟩ := U9.out.cell; obtain ⟨j0, j1, j2, j3, j4, j5, j6, j7, j8, j9⟩ := V9.out.cell; obtain ⟨v0, v1, v2, v3⟩ := (R0.out.of B9.out R0.out.lt).cell))
              | (go_at_call 22; ((refine (listMay_is (HR.out.below (L1.out.trans (B9.out.mono L1.out.size))) HT.out HA.out).mono ?_); rintro e wz ⟨rfl, nz, rfl⟩)))
            go_ret
            exact ⟨rfl, L1.out.trans ((B9.out.mono L1.out.size).trans ((bel_drewN _ _).mono (Nat.le_trans L1.out.size B9.out.size)))⟩
        | false =>
          have HA := Lib.hid hA
          clear hA
          cases hB : W.bmay r1 r2 r3 gt with
          | true =>
            have HB := Lib.hid hB
            clear hB
            go_wp2_with (first
              | (go_at_call 13; ((refine (name_at T3.out (d := 0) (s := [98]) rng0 (short_txt (by decide)) H100.out S3.out.p S3.out.n1 HF.out (by omega)).mono ?_); rintro e w4 ⟨rfl, F4, t4, x4⟩; have S4 := Lib.hid (S3.out.bind more); have P4 := Lib.hid (name_p (st := st) (g := g1) (x := ⟨seg0 1, 0, [[98]]⟩) (m := more) rfl); have T4 := Lib.hid t4; have B4 := Lib.hid (B3.out.trans (x4.below Y3.out B3.out.size)); have Y4 := Lib.hid (x4.ge Y3.out B3.out.size); clear t4 x4))
              | (go_at_call 14; ((refine (access_bad T4.out (d := 0) (s := [98]) rng0 (short_txt (by decide)) S4.out.p S4.out.n1 rfl (HR.out.below (L1.out.trans (B4.out.mono L1.out.size))) HT.out HA.out).mono ?_); rintro e w5 ⟨rfl, b5⟩; have S5 := Lib.hid S4.out; have T5 := Lib.hid (T4.out.below b5); have B5 := Lib.hid (B4.out.trans (b5.mono B4.out.size)); have Y5 := Lib.hid Y4.out; clear b5; obtain ⟨v0, v1, v2, v3⟩ := (R0.out.of B5.out R0.out.lt).cell))
              | (go_at_call 15; ((refine (ringed_at T5.out (d := 0) (s := [98]) rng0 (short_txt (by decide)) S5.out.p S5.out.n1 rfl HB.out).mono ?_); rintro e w6 ⟨rfl, t6, x6⟩; have S6 := Lib.hid (S5.out.node (ringX (⟨seg0 1, 0, [[98]] ++ [more]⟩ : Nd) r1 r2 r3 gt)); have T6 := Lib.hid t6; have B6 := Lib.hid (B5.out.trans (x6.below Y5.out B5.out.size)); clear t6 x6; clear v0 v1 v2 v3))
              | (go_at_call 21; ((with_reducible refine (uid_is T6.out (u := 1) (g := g1) (x := (ringX (⟨seg0 1, 0, [[98]] ++ [more]⟩ : Nd) r1 r2 r3 gt)) (B := ⟨1, 1, 0, [], false, [], r1, r2, r3, gt⟩) rng1 S6.out.u1 S6.out.n1 rfl).mono ?_); rintro e w7 ⟨a7, c7, rfl, o7, b7⟩; have T7 := Lib.hid ((T6.out.below b7).alloc (BrO ⟨1, 1, 0, [], false, [], r1, r2, r3, gt⟩ (.slice a7 0 c7))); have B7 := Lib.hid ((B6.out.trans (b7.mono B6.out.size)).alloc (Nat.le_trans B6.out.size b7.size) (BrO ⟨1, 1, 0, [], false, [], r1, r2, r3, gt⟩ (.slice a7 0 c7))); have X7 := Lib.hid (BrAt.new w7 ⟨1, 1, 0, [], false, [], r1, r2, r3, gt⟩ (.slice a7 0 c7)); clear o7 b7))
              | (go_at_call 21; ((with_reducible refine (uid_is T7.out (u := 2) (g := g2) (x := (⟨seg0 2, 0, [[99]]⟩ : Nd)) (B := ⟨1, 2, 0, [], false, [], 0, 0, 0, 0⟩) rng2 S6.out.u2 S6.out.n2 rfl).mono ?_); rintro e w8 ⟨a8, c8, rfl, o8, b8⟩; have T8 := Lib.hid ((T7.out.below b8).alloc (BrO ⟨1, 2, 0, [], false, [], 0, 0, 0, 0⟩ (.slice a8 0 c8))); have B8 := Lib.hid ((B7.out.trans (b8.mono B7.out.size)).alloc (Nat.le_trans B7.out.size b8.size) (BrO ⟨1, 2, 0, [], false, [], 0, 0, 0, 0⟩ (.slice a8 0 c8))); have X8 := Lib.hid (BrAt.new w8 ⟨1, 2, 0, [], false, [], 0, 0, 0, 0⟩ (.slice a8 0 c8)); have Z8 := Lib.hid ((X7.out.below b8).alloc (BrO ⟨1, 2, 0, [], false, [], 0, 0, 0, 0⟩ (.slice a8 0 c8))); clear o8 b8))
              | (go_at_call 16; ((refine (look_is T8.out (d := 0) (s := more) rng0 H100.out (g := g1) (x := (ringX (⟨seg0 1, 0, [[98]] ++ [more]⟩ : Nd) r1 r2 r3 gt)) P4.out S6.out.n1 (B := ⟨1, 1, 0, [], false, [], r1, r2, r3, gt⟩) rfl).mono ?_); rintro e w9 ⟨a9, c9, rfl, o9, b9⟩; have B9 := Lib.hid ((B8.out.trans (b9.mono B8.out.size)).alloc (Nat.le_trans B8.out.size b9.size) (BrO ⟨1, 1, 0, [], false, [], r1, r2, r3, gt⟩ (.slice a9 0 c9))); have X9 := Lib.hid (BrAt.new w9 ⟨1, 1, 0, [], false, [], r1, r2, r3, gt⟩ (.slice a9 0 c9)); have V9 := Lib.hid ((X8.out.below b9).alloc (BrO ⟨1, 1, 0, [], false, [], r1, r2, r3, gt⟩ (.slice a9 0 c9))); have U9 := Lib.hid ((Z8.out.below b9).alloc (BrO ⟨1, 1, 0, [], false, [], r1, r2, r3, gt⟩ (.slice a9 0 c9))); clear o9 b9; obtain ⟨y0, y1, y2, y3, y4, y5, y6, y7, y8, y9⟩ := X9.out.cell; obtain ⟨i0, i1, i2, i3, i4, i5, i6, i7, i8, i9⟩ := U9.out.cell; obtain ⟨j0, j1, j2, j3, j4, j5, j6, j7, j8, j9⟩ := V9.out.cell; obtain ⟨v0, v1, v2, v3⟩ := (R0.out.of B9.out R0.out.lt).cell))
              | (go_at_call 22; ((refine (listMay_is (HR.out.below (L1.out.trans (B9.out.mono L1.out.size))) HT.out HA.out).mono ?_); rintro e wz ⟨rfl, nz, rfl⟩)))
            go_ret
            exact ⟨rfl, L1.out.trans ((B9.out.mono L1.out.size).trans ((bel_drewN _ _).mono (Nat.le_trans L1.out.size B9.out.size)))⟩
          | false =>
            have HB := Lib.hid hB
            clear hB
            go_wp2_with (first
              | (go_at_call 13; ((refine (name_at T3.out (d := 0) (s := [98]) rng0 (short_txt (by decide)) H100.out S3.out.p S3.out.n1 HF.out (by omega)).mono ?_); rintro e w4 ⟨rfl, F4, t4, x4⟩; have S4 := Lib.hid (S3.out.bind more); have P4 := Lib.hid (name_p (st := st) (g := g1) (x := ⟨seg0 1, 0, [[98]]⟩) (m := more) rfl); have T4 := Lib.hid t4; have B4 := Lib.hid (B3.out.trans (x4.below Y3.out B3.out.size)); have Y4 := Lib.hid (x4.ge Y3.out B3.out.size); clear t4 x4))
              | (go_at_call 14; ((refine (access_bad T4.out (d := 0) (s := [98]) rng0 (short_txt (by decide)) S4.out.p S4.out.n1 rfl (HR.out.below (L1.out.trans (B4.out.mono L1.out.size))) HT.out HA.out).mono ?_); rintro e w5 ⟨rfl, b5⟩; have S5 := Lib.hid S4.out; have T5 := Lib.hid (T4.out.below b5); have B5 := Lib.hid (B4.out.trans (b5.mono B4.out.size)); have Y5 := Lib.hid Y4.out; clear b5; obtain ⟨v0, v1, v2, v3⟩ := (R0.out.of B5.out R0.out.lt).cell))
              | (go_at_call 15; ((refine (ringed_bad T5.out (d := 0) (s := [98]) rng0 (short_txt (by decide)) S5.out.p S5.out.n1 rfl HB.out).mono ?_); rintro e w6 ⟨rfl, b6⟩; have S6 := Lib.hid S5.out; have T6 := Lib.hid (T5.out.below b6); have B6 := Lib.hid (B5.out.trans (b6.mono B5.out.size)); clear b6; clear v0 v1 v2 v3))
              | (go_at_call 21; ((with_reducible refine (uid_is T6.out (u := 1) (g := g1) (x := (⟨seg0 1, 0, [[98]] ++ [more]⟩ : Nd)) (B := ⟨1, 1, 0, [], false, [], 0, 0, 0, 0⟩) rng1 S6.out.u1 S6.out.n1 rfl).mono ?_); rintro e w7 ⟨a7, c7, rfl, o7, b7⟩; have T7 := Lib.hid ((T6.out.below b7).alloc (BrO ⟨1, 1, 0, [], false, [], 0, 0, 0, 0⟩ (.slice a7 0 c7))); have B7 := Lib.hid ((B6.out.trans (b7.mono B6.out.size)).alloc (Nat.le_trans B6.out.size b7.size) (BrO ⟨1, 1, 0, [], false, [], 0, 0, 0, 0⟩ (.slice a7 0 c7))); have X7 := Lib.hid (BrAt.new w7 ⟨1, 1, 0, [], false, [], 0, 0, 0, 0⟩ (.slice a7 0 c7)); clear o7 b7))
              | (go_at_call 21; ((with_reducible refine (uid_is T7.out (u := 2) (g := g2) (x := (⟨seg0 2, 0, [[99]]⟩ : Nd)) (B := ⟨1, 2, 0, [], false, [], 0, 0, 0, 0⟩) rng2 S6.out.u2 S6.out.n2 rfl).mono ?_); rintro e w8 ⟨a8, c8, rfl, o8, b8⟩; have T8 := Lib.hid ((T7.out.below b8).alloc (BrO ⟨1, 2, 0, [], false, [], 0, 0, 0, 0⟩ (.slice a8 0 c8))); have B8 := Lib.hid ((B7.out.trans (b8.mono B7.out.size)).alloc (Nat.le_trans B7.out.size b8.size) (BrO ⟨1, 2, 0, [], false, [], 0, 0, 0, 0⟩ (.slice a8 0 c8))); have X8 := Lib.hid (BrAt.new w8 ⟨1, 2, 0, [], false, [], 0, 0, 0, 0⟩ (.slice a8 0 c8)); have Z8 := Lib.hid ((X7.out.below b8).alloc (BrO ⟨1, 2, 0, [], false, [], 0, 0, 0, 0⟩ (.slice a8 0 c8))); clear o8 b8))
              | (go_at_call 16; ((refine (look_is T8.out (d := 0) (s := more) rng0 H100.out (g := g1) (x := (⟨seg0 1, 0, [[98]] ++ [more]⟩ : Nd)) P4.out S6.out.n1 (B := ⟨1, 1, 0, [], false, [], 0, 0, 0, 0⟩) rfl).mono ?_); rintro e w9 ⟨a9, c9, rfl, o9, b9⟩; have B9 := Lib.hid ((B8.out.trans (b9.mono B8.out.size)).alloc (Nat.le_trans B8.out.size b9.size) (BrO ⟨1, 1, 0, [], false, [], 0, 0, 0, 0⟩ (.slice a9 0 c9))); have X9 := Lib.hid (BrAt.new w9 ⟨1, 1, 0, [], false, [], 0, 0, 0, 0⟩ (.slice a9 0 c9)); have V9 := Lib.hid ((X8.out.below b9).alloc (BrO ⟨1, 1, 0, [], false, [], 0, 0, 0, 0⟩ (.slice a9 0 c9))); have U9 := Lib.hid ((Z8.out.below b9).alloc (BrO ⟨1, 1, 0, [], false, [], 0, 0, 0, 0⟩ (.slice a9 0 c9))); clear o9 b9; obtain ⟨y0, y1, y2, y3, y4, y5, y6, y7, y8, y9⟩ := X9.out.cell; obtain ⟨i0, i1, i2, i3, i4, i5, i6, i7, i8, i9⟩ := U9.out.cell; obtain ⟨j0, j1, j2, j3, j4, j5, j6, j7, j8, j9⟩ := V9.out.cell; obtain ⟨v0, v1, v2, v3⟩ := (R0.out.of B9.out R0.out.lt).cell))
              | (go_at_call 22; ((refine (listMay_is (HR.out.below (L1.out.trans (B9.out.mono L1.out.size))) HT.out HA.out).mono ?_); rintro e wz ⟨rfl, nz, rfl⟩)))
            go_ret
            exact ⟨rfl, L1.out.trans ((B9.out.mono L1.out.size).trans ((bel_drewN _ _).mono (Nat.le_trans L1.out.size B9.out.size)))⟩
      · have ez : (freeE st 0 more == 0) = false := by simpa using hf
        obtain ⟨fr, hfr⟩ : ∃ fr, freeE st 0 more = fr := ⟨_, rfl⟩
        rw [hfr] at ez hf
        have HF := Lib.hid hfr
        have HZ := Lib.hid hf
        clear hf hfr
        cases hA : A.lmay l with
        | true =>
          have HA := Lib.hid hA
          clear hA
          cases hB : W.bmay r1 r2 r3 gt with
          | true =>
            have HB := Lib.hid hB
            clear hB
            go_wp2_with (first
              | (go_at_call 13; ((refine (name_no T3.out (d := 0) (s := [98]) rng0 (short_txt (by decide)) H100.out S3.out.p HF.out HZ.out).mono ?_); rintro e w4 ⟨rfl, n4, rfl⟩; have S4 := Lib.hid S3.out; have T4 := Lib.hid (T3.out.drewN n4); have B4 := Lib.hid (B3.out.trans ((bel_drewN wr n4).mono B3.out.size)); have Y4 := Lib.hid Y3.out))
              | (go_at_call 14; ((refine (access_at T4.out (d := 0) (s := [98]) rng0 (short_txt (by decide)) S4.out.p S4.out.n1 rfl (HR.out.below (L1.out.trans (B4.out.mono L1.out.size))) HT.out HA.out).mono ?_); rintro e w5 ⟨rfl, F5, t5, x5⟩; have S5 := Lib.hid (S4.out.node (aclX (⟨seg0 1, 0, [[98]]⟩ : Nd) l)); have T5 := Lib.hid t5; have B5 := Lib.hid (B4.out.trans (x5.below Y4.out B4.out.size)); have Y5 := Lib.hid (x5.ge Y4.out B4.out.size); clear t5 x5; obtain ⟨v0, v1, v2, v3⟩ := (R0.out.of B5.out R0.out.lt).cell))
              | (go_at_call 15; ((refine (ringed_at T5.out (d := 0) (s := [98]) rng0 (short_txt (by decide)) S5.out.p S5.out.n1 rfl HB.out).mono ?_); rintro e w6 ⟨rfl, t6, x6⟩; have S6 := Lib.hid (S5.out.node (ringX (aclX (⟨seg0 1, 0, [[98]]⟩ : Nd) l) r1 r2 r3 gt)); have T6 := Lib.hid t6; have B6 := Lib.hid (B5.out.trans (x6.below Y5.out B5.out.size)); clear t6 x6; clear v0 v1 v2 v3))
              | (go_at_call 21; ((with_reducible refine (uid_is T6.out (u := 1) (g := g1) (x := (ringX (aclX (⟨seg0 1, 0, [[98]]⟩ : Nd) l) r1 r2 r3 gt)) (B := ⟨1, 1, 0, [], false, l, r1, r2, r3, gt⟩) rng1 S6.out.u1 S6.out.n1 rfl).mono ?_); rintro e w7 ⟨a7, c7, rfl, o7, b7⟩; have T7 := Lib.hid ((T6.out.below b7).alloc (BrO ⟨1, 1, 0, [], false, l, r1, r2, r3, gt⟩ (.slice a7 l.length c7))); have B7 := Lib.hid ((B6.out.trans (b7.mono B6.out.size)).alloc (Nat.le_trans B6.out.size b7.size) (BrO ⟨1, 1, 0, [], false, l, r1, r2, r3, gt⟩ (.slice a7 l.length c7))); have X7 := Lib.hid (BrAt.new w7 ⟨1, 1, 0, [], false, l, r1, r2, r3, gt⟩ (.slice a7 l.length c7)); clear o7 b7))
              | (go_at_call 21; ((with_reducible refine (uid_is T7.out (u := 2) (g := g2) (x := (⟨seg0 2, 0, [[99]]⟩ : Nd)) (B := ⟨1, 2, 0, [], false, [], 0, 0, 0, 0⟩) rng2 S6.out.u2 S6.out.n2 rfl).mono ?_); rintro e w8 ⟨a8, c8, rfl, o8, b8⟩; have T8 := Lib.hid ((T7.out.below b8).alloc (BrO ⟨1, 2, 0, [], false, [], 0, 0, 0, 0⟩ (.slice a8 0 c8))); have B8 := Lib.hid ((B7.out.trans (b8.mono B7.out.size)).alloc (Nat.le_trans B7.out.size b8.size) (BrO ⟨1, 2, 0, [], false, [], 0, 0, 0, 0⟩ (.slice a8 0 c8))); have X8 := Lib.hid (BrAt.new w8 ⟨1, 2, 0, [], false, [], 0, 0, 0, 0⟩ (.slice a8 0 c8)); have Z8 := Lib.hid ((X7.out.below b8).alloc (BrO ⟨1, 2, 0, [], false, [], 0, 0, 0, 0⟩ (.slice a8 0 c8))); clear o8 b8; obtain ⟨i0, i1, i2, i3, i4, i5, i6, i7, i8, i9⟩ := Z8.out.cell; obtain ⟨j0, j1, j2, j3, j4, j5, j6, j7, j8, j9⟩ := X8.out.cell; obtain ⟨v0, v1, v2, v3⟩ := (R0.out.of B8.out R0.out.lt).cell))
              | (go_at_call 22; ((refine (listMay_is (HR.out.below (L1.out.trans (B8.out.mono L1.out.size))) HT.out HA.out).mono ?_); rintro e wz ⟨rfl, nz, rfl⟩)))
            go_ret
            exact ⟨rfl, L1.out.trans ((B8.out.mono L1.out.size).trans ((bel_drewN _ _).mono (Nat.le_trans L1.out.size B8.out.size)))⟩
          | false =>
            have HB := Lib.hid hB
            clear hB
            go_wp2_with (first
              | (go_at_call 13; ((refine (name_no T3.out (d := 0) (s := [98]) rng0 (short_txt (by decide)) H100.out S3.out.p HF.out HZ.out).mono ?_); rintro e w4 ⟨rfl, n4, rfl⟩; have S4 := Lib.hid S3.out; have T4 := Lib.hid (T3.out.drewN n4); have B4 := Lib.hid (B3.out.trans ((bel_drewN wr n4).mono B3.out.size)); have Y4 := Lib.hid Y3.out))
              | (go_at_call 14; ((refine (access_at T4.out (d := 0) (s := [98]) rng0 (short_txt (by decide)) S4.out.p S4.out.n1 rfl (HR.out.below (L1.out.trans (B4.out.mono L1.out.size))) HT.out HA.out).mono ?_); rintro e w5 ⟨rfl, F5, t5, x5⟩; have S5 := Lib.hid (S4.out.node (aclX (⟨seg0 1, 0, [[98]]⟩ : Nd) l)); have T5 := Lib.hid t5; have B5 := Lib.hid (B4.out.trans (x5.below Y4.out B4.out.size)); have Y5 := Lib.hid (x5.ge Y4.out B4.out.size); clear t5 x5; obtain ⟨v0, v1, v2, v3⟩ := (R0.out.of B5.out R0.out.lt).cell))
              | (go_at_call 15; ((refine (ringed_bad T5.out (d := 0) (s := [98]) rng0 (short_txt (by decide)) S5.out.p S5.out.n1 rfl HB.out).mono ?_); rintro e w6 ⟨rfl, b6⟩; have S6 := Lib.hid S5.out; have T6 := Lib.hid (T5.out.below b6); have B6 := Lib.hid (B5.out.trans (b6.mono B5.out.size)); clear b6; clear v0 v1 v2 v3))
              | (go_at_call 21; ((with_reducible refine (uid_is T6.out (u := 1) (g := g1) (x := (aclX (⟨seg0 1, 0, [[98]]⟩ : Nd) l)) (B := ⟨1, 1, 0, [], false, l, 0, 0, 0, 0⟩) rng1 S6.out.u1 S6.out.n1 rfl).mono ?_); rintro e w7 ⟨a7, c7, rfl, o7, b7⟩; have T7 := Lib.hid ((T6.out.below b7).alloc (BrO ⟨1, 1, 0, [], false, l, 0, 0, 0, 0⟩ (.slice a7 l.length c7))); have B7 := Lib.hid ((B6.out.trans (b7.mono B6.out.size)).alloc (Nat.le_trans B6.out.size b7.size) (BrO ⟨1, 1, 0, [], false, l, 0, 0, 0, 0⟩ (.slice a7 l.length c7))); have X7 := Lib.hid (BrAt.new w7 ⟨1, 1, 0, [], false, l, 0, 0, 0, 0⟩ (.slice a7 l.length c7)); clear o7 b7))
              | (go_at_call 21; ((with_reducible refine (uid_is T7.out (u := 2) (g := g2) (x := (⟨seg0 2, 0, [[99]]⟩ : Nd)) (B := ⟨1, 2, 0, [], false, [], 0, 0, 0, 0⟩) rng2 S6.out.u2 S6.out.n2 rfl).mono ?_); rintro e w8 ⟨a8, c8, rfl, o8, b8⟩; have T8 := Lib.hid ((T7.out.below b8).alloc (BrO ⟨1, 2, 0, [], false, [], 0, 0, 0, 0⟩ (.slice a8 0 c8))); have B8 := Lib.hid ((B7.out.trans (b8.mono B7.out.size)).alloc (Nat.le_trans B7.out.size b8.size) (BrO ⟨1, 2, 0, [], false, [], 0, 0, 0, 0⟩ (.slice a8 0 c8))); have X8 := Lib.hid (BrAt.new w8 ⟨1, 2, 0, [], false, [], 0, 0, 0, 0⟩ (.slice a8 0 c8)); have Z8 := Lib.hid ((X7.out.below b8).alloc (BrO ⟨1, 2, 0, [], false, [], 0, 0, 0, 0⟩ (.slice a8 0 c8))); clear o8 b8; obtain ⟨i0, i1, i2, i3, i4, i5, i6, i7, i8, i9⟩ := Z8.out.cell; obtain ⟨j0, j1, j2, j3, j4, j5, j6, j7, j8, j9⟩ := X8.out.cell; obtain ⟨v0, v1, v2, v3⟩ := (R0.out.of B8.out R0.out.lt).cell))
              | (go_at_call 22; ((refine (listMay_is (HR.out.below (L1.out.trans (B8.out.mono L1.out.size))) HT.out HA.out).mono ?_); rintro e wz ⟨rfl, nz, rfl⟩)))
            go_ret
            exact ⟨rfl, L1.out.trans ((B8.out.mono L1.out.size).trans ((bel_drewN _ _).mono (Nat.le_trans L1.out.size B8.out.size)))⟩
        | false =>
          have HA := Lib.hid hA
          clear hA
          cases hB : W.bmay r1 r2 r3 gt with
          | true =>
            have HB := Lib.hid hB
            clear hB
            go_wp2_with (first
              | (go_at_call 13; ((refine (name_no T3.out (d := 0) (s := [98]) rng0 (short_txt (by decide)) H100.out S3.out.p HF.out HZ.out).mono ?_); rintro e w4 ⟨rfl, n4, rfl⟩; have S4 := Lib.hid S3.out; have T4 := Lib.hid (T3.out.drewN n4); have B4 := Lib.hid (B3.out.trans ((bel_drewN wr n4).mono B3.out.size)); have Y4 := Lib.hid Y3.out))
              | (go_at_call 14; ((refine (access_bad T4.out (d := 0) (s := [98]) rng0 (short_txt (by decide)) S4.out.p S4.out.n1 rfl (HR.out.below (L1.out.trans (B4.out.mono L1.out.size))) HT.out HA.out).mono ?_); rintro e w5 ⟨rfl, b5⟩; have S5 := Lib.hid S4.out; have T5 := Lib.hid (T4.out.below b5); have B5 := Lib.hid (B4.out.trans (b5.mono B4.out.size)); have Y5 := Lib.hid Y4.out; clear b5; obtain ⟨v0, v1, v2, v3⟩ := (R0.out.of B5.out R0.out.lt).cell))
              | (go_at_call 15; ((refine (ringed_at T5.out (d := 0) (s := [98]) rng0 (short_txt (by decide)) S5.out.p S5.out.n1 rfl HB.out).mono ?_); rintro e w6 ⟨rfl, t6, x6⟩; have S6 := Lib.hid (S5.out.node (ringX (⟨seg0 1, 0, [[98]]⟩ : Nd) r1 r2 r3 gt)); have T6 := Lib.hid t6; have B6 := Lib.hid (B5.out.trans (x6.below Y5.out B5.out.size)); clear t6 x6; clear v0 v1 v2 v3))
              | (go_at_call 21; ((with_reducible refine (uid_is T6.out (u := 1) (g := g1) (x := (ringX (⟨seg0 1, 0, [[98]]⟩ : Nd) r1 r2 r3 gt)) (B := ⟨1, 1, 0, [], false, [], r1, r2, r3, gt⟩) rng1 S6.out.u1 S6.out.n1 rfl).mono ?_); rintro e w7 ⟨a7, c7, rfl, o7, b7⟩; have T7 := Lib.hid ((T6.out.below b7).alloc (BrO ⟨1, 1, 0, [], false, [], r1, r2, r3, gt⟩ (.slice a7 0 c7))); have B7 := Lib.hid ((B6.out.trans (b7.mono B6.out.size)).alloc (Nat.le_trans B6.out.size b7.size) (BrO ⟨1, 1, 0, [], false, [], r1, r2, r3, gt⟩ (.slice a7 0 c7))); have X7 := Lib.hid (BrAt.new w7 ⟨1, 1, 0, [], false, [], r1, r2, r3, gt⟩ (.slice a7 0 c7)); clear o7 b7))
              | (go_at_call 21; ((with_reducible refine (uid_is T7.out (u := 2) (g := g2) (x := (⟨seg0 2, 0, [[99]]⟩ : Nd)) (B := ⟨1, 2, 0, [], false, [], 0, 0, 0, 0⟩) rng2 S6.out.u2 S6.out.n2 rfl).mono ?_); rintro e w8 ⟨a8, c8, rfl, o8, b8⟩; have T8 := Lib.hid ((T7.out.below b8).alloc (BrO ⟨1, 2, 0, [], false, [], 0, 0, 0, 0⟩ (.slice a8 0 c8))); have B8 := Lib.hid ((B7.out.trans (b8.mono B7.out.size)).alloc (Nat.le_trans B7.out.size b8.size) (BrO ⟨1, 2, 0, [], false, [], 0, 0, 0, 0⟩ (.slice a8 0 c8))); have X8 := Lib.hid (BrAt.new w8 ⟨1, 2, 0, [], false, [], 0, 0, 0, 0⟩ (.slice a8 0 c8)); have Z8 := Lib.hid ((X7.out.below b8).alloc (BrO ⟨1, 2, 0, [], false, [], 0, 0, 0, 0⟩ (.slice a8 0 c8))); clear o8 b8; obtain ⟨i0, i1, i2, i3, i4, i5, i6, i7, i8, i9⟩ := Z8.out.cell; obtain ⟨j0, j1, j2, j3, j4, j5, j6, j7, j8, j9⟩ := X8.out.cell; obtain ⟨v0, v1, v2, v3⟩ := (R0.out.of B8.out R0.out.lt).cell))
              | (go_at_call 22; ((refine (listMay_is (HR.out.below (L1.out.trans (B8.out.mono L1.out.size))) HT.out HA.out).mono ?_); rintro e wz ⟨rfl, nz, rfl⟩)))
            go_ret
            exact ⟨rfl, L1.out.trans ((B8.out.mono L1.out.size).trans ((bel_drewN _ _).mono (Nat.le_trans L1.out.size B8.out.size)))⟩
          | false =>
            have HB := Lib.hid hB
            clear hB
            go_wp2_with (first
              | (go_at_call 13; ((refine (name_no T3.out (d := 0) (s := [98]) rng0 (short_txt (by decide)) H100.out S3.out.p HF.out HZ.out).mono ?_); rintro e w4 ⟨rfl, n4, rfl⟩; have S4 := Lib.hid S3.out; have T4 := Lib.hid (T3.out.drewN n4); have B4 := Lib.hid (B3.out.trans ((bel_drewN wr n4).mono B3.out.size)); have Y4 := Lib.hid Y3.out))
              | (go_at_call 14; ((refine (access_bad T4.out (d := 0) (s := [98]) rng0 (short_txt (by decide)) S4.out.p S4.out.n1 rfl (HR.out.below (L1.out.trans (B4.out.mono L1.out.size))) HT.out HA.out).mono ?_); rintro e w5 ⟨rfl, b5⟩; have S5 := Lib.hid S4.out; have T5 := Lib.hid (T4.out.below b5); have B5 := Lib.hid (B4.out.trans (b5.mono B4.out.size)); have Y5 := Lib.hid Y4.out; clear b5; obtain ⟨v0, v1, v2, v3⟩ := (R0.out.of B5.out R0.out.lt).cell))
              | (go_at_call 15; ((refine (ringed_bad T5.out (d := 0) (s := [98]) rng0 (short_txt (by decide)) S5.out.p S5.out.n1 rfl HB.out).mono ?_); rintro e w6 ⟨rfl, b6⟩; have S6 := Lib.hid S5.out; have T6 := Lib.hid (T5.out.below b6); have B6 := Lib.hid (B5.out.trans (b6.mono B5.out.size)); clear b6; clear v0 v1 v2 v3))
              | (go_at_call 21; ((with_reducible refine (uid_is T6.out (u := 1) (g := g1) (x := (⟨seg0 1, 0, [[98]]⟩ : Nd)) (B := ⟨1, 1, 0, [], false, [], 0, 0, 0, 0⟩) rng1 S6.out.u1 S6.out.n1 rfl).mono ?_); rintro e w7 ⟨a7, c7, rfl, o7, b7⟩; have T7 := Lib.hid ((T6.out.below b7).alloc (BrO ⟨1, 1, 0, [], false, [], 0, 0, 0, 0⟩ (.slice a7 0 c7))); have B7 := Lib.hid ((B6.out.trans (b7.mono B6.out.size)).alloc (Nat.le_trans B6.out.size b7.size) (BrO ⟨1, 1, 0, [], false, [], 0, 0, 0, 0⟩ (.slice a7 0 c7))); have X7 := Lib.hid (BrAt.new w7 ⟨1, 1, 0, [], false, [], 0, 0, 0, 0⟩ (.slice a7 0 c7)); clear o7 b7))
              | (go_at_call 21; ((with_reducible refine (uid_is T7.out (u := 2) (g := g2) (x := (⟨seg0 2, 0, [[99]]⟩ : Nd)) (B := ⟨1, 2, 0, [], false, [], 0, 0, 0, 0⟩) rng2 S6.out.u2 S6.out.n2 rfl).mono ?_); rintro e w8 ⟨a8, c8, rfl, o8, b8⟩; have T8 := Lib.hid ((T7.out.below b8).alloc (BrO ⟨1, 2, 0, [], false, [], 0, 0, 0, 0⟩ (.slice a8 0 c8))); have B8 := Lib.hid ((B7.out.trans (b8.mono B7.out.size)).alloc (Nat.le_trans B7.out.size b8.size) (BrO ⟨1, 2, 0, [], false, [], 0, 0, 0, 0⟩ (.slice a8 0 c8))); have X8 := Lib.hid (BrAt.new w8 ⟨1, 2, 0, [], false, [], 0, 0, 0, 0⟩ (.slice a8 0 c8)); have Z8 := Lib.hid ((X7.out.below b8).alloc (BrO ⟨1, 2, 0, [], false, [], 0, 0, 0, 0⟩ (.slice a8 0 c8))); clear o8 b8; obtain ⟨i0, i1, i2, i3, i4, i5, i6, i7, i8, i9⟩ := Z8.out.cell; obtain ⟨j0, j1, j2, j3, j4, j5, j6, j7, j8, j9⟩ := X8.out.cell; obtain ⟨v0, v1, v2, v3⟩ := (R0.out.of B8.out R0.out.lt).cell))
              | (go_at_call 22; ((refine (listMay_is (HR.out.below (L1.out.trans (B8.out.mono L1.out.size))) HT.out HA.out).mono ?_); rintro e wz ⟨rfl, nz, rfl⟩)))
            go_ret
            exact ⟨rfl, L1.out.trans ((B8.out.mono L1.out.size).trans ((bel_drewN _ _).mono (Nat.le_trans L1.out.size B8.out.size)))⟩

end Go.Proofs.YtfghoceigofoiaaDoor.T
