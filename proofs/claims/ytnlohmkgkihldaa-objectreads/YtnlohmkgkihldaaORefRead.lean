/-
  What the document's own read answers.
-/
import Derived.Test.YtnlohmkgkihldaaORefObW
import Derived.Deep.DeepCutAuto
import Derived.Test.YtnlohmkgkihldaaFreeLast
namespace Go.Proofs.Ytnlohmkgkihldaa.W
open Go.ChangeShapes Go.WideShapes Go.ChangeAt Go.RowKit
open Go.Proofs.Ytnlohmkgkihldaa.N (bs bs_data bs_of bs_size may may_pos retB)

/-- read's answer -/
def RefRd (w : World) (zs : List Int) (e : Ending) (w' : World) : Prop :=
  Below w.heap.size w w' ∧ ((obOk zs = true ∧ ∃ q, e = .returned (.tuple #[OV q (lOb zs), .bool true]) ∧ ObIn w' q (lOb zs)) ∨ (obOk zs = false ∧ ∃ q o, e = .returned (.tuple #[OV q o, .bool false])))
theorem obOk_map {zs : List Int} (h : mapOk zs = false) : obOk zs = false := by simp [obOk, h]
theorem map_short {zs : List Int} (h : zs.length < 5) : mapOk zs = false := by simp [mapOk, show ¬ 5 ≤ zs.length by omega]
theorem map_last {zs : List Int} (h : zs.getD (zs.length - 1) 0 ≠ 45812815077) : mapOk zs = false := by
  have : (zs.getD (zs.length - 1) 0 == 45812815077) = false := beq_eq_false_iff_ne.2 h
  unfold mapOk
  rw [this]
  simp
theorem map_big {zs : List Int} {i : Nat} (hi : i < 4) (h : ¬ zs.getD (zs.length - 5 + i) 0 ≤ 1024) : mapOk zs = false := by
  have : (List.range 4).all (fun i => decide (zs.getD (zs.length - 5 + i) 0 ≤ 1024)) = false := List.all_eq_false.2 ⟨i, List.mem_range.2 hi, by simpa using h⟩
  unfold mapOk
  rw [this]
  simp
theorem map_sum {zs : List Int} (h : ¬ mp zs 0 + mp zs 1 + 5 ≤ zs.length) : mapOk zs = false := by
  unfold mapOk
  rw [decide_eq_false h]
  simp
theorem map_yes {zs : List Int} (h1 : 5 ≤ zs.length) (h2 : zs.getD (zs.length - 1) 0 = 45812815077) (h3 : ∀ i, i < 4 → zs.getD (zs.length - 5 + i) 0 ≤ 1024) (h4 : mp zs 0 + mp zs 1 + 5 ≤ zs.length) : mapOk zs = true := by
  unfold mapOk
  rw [decide_eq_true h1, h2, decide_eq_true h4]
  simp only [beq_self_eq_true, Bool.and_true, Bool.true_and, List.all_eq_true, List.mem_range, decide_eq_true_eq]
  exact h3

/-- the map's numbers, the first k of them -/
def mrow (z0 z1 z2 z3 : Int) (k : Nat) : Array Value := #[.int .i64 (if 0 < k then z0 else 0), .int .i64 (if 1 < k then z1 else 0), .int .i64 (if 2 < k then z2 else 0), .int .i64 (if 3 < k then z3 else 0)]
def MLoop (w : World) (z0 z1 z2 z3 : Int) (k : Nat) (W : World) : Prop := W.heap[w.heap.size + 1]? = some (.cells (mrow z0 z1 z2 z3 k) 68) ∧ W.heap[w.heap.size]? = some (OO nilPl nilOb) ∧ Below w.heap.size w W
theorem mloop_set {w W : World} {z0 z1 z2 z3 : Int} {k : Nat} {v : Value} (h : MLoop w z0 z1 z2 z3 k W) (hv : (mrow z0 z1 z2 z3 k).setIfInBounds k v = mrow z0 z1 z2 z3 (k + 1)) : MLoop w z0 z1 z2 z3 (k + 1) (W.setCell ⟨w.heap.size + 1, k, none⟩ v) := by
  obtain ⟨h1, h2, h3⟩ := h
  have hs := set_row h1 k v
  rw [hv] at hs
  exact ⟨hs, ((grown_set W (w.heap.size + 1) k v).block _ (block_lt h2) (fun e => by have := Option.some.inj e; omega)).trans h2, grown_below h3 h3.size (grown_set W (w.heap.size + 1) k v) (by omega)⟩

/-- the object so far, in a box of its own -/
def CutO (w W0 : World) (t s : List Int) (v : Value) (W : World) : Prop := ∃ ob q, v = .pointer (some ⟨ob, 0, none⟩) ∧ W.heap[ob]? = some (OO q ⟨t, s, [], []⟩) ∧ OwnOb w.heap.size W q ⟨t, s, [], []⟩ ∧ W0.heap.size ≤ ob ∧ Below W0.heap.size W0 W
section
variable {w W0 W W' V : World} {t s : List Int} {p1 p2 : Option Addr} {c1 c2 m0 m1 : Nat}
/-- what was laid so far of it -/
structure Part (w W0 W : World) (p : Option Addr) (m c : Nat) (t : List Int) : Prop where
  own : OwnW w.heap.size W (.slice p m c) t
  len : t.length = m
def Boxed (W0 W : World) (g : Nat) : Prop := W.heap[g]? = some (OO nilPl nilOb) ∧ W0.heap.size ≤ g
theorem Part.below {p : Option Addr} {m c : Nat} (h : Part w W0 W p m c t) (hb : Below W.heap.size W W') : Part w W0 W' p m c t := ⟨h.own.below hb, h.len⟩
theorem Boxed.below {g : Nat} (h : Boxed W0 W g) (hb : Below W.heap.size W W') : Boxed W0 W' g := ⟨(hb.block _ (block_lt h.1)).trans h.1, h.2⟩
theorem boxed_new (hc : Below W0.heap.size W0 V) (hb : Below (V.alloc (OO nilPl nilOb)).heap.size (V.alloc (OO nilPl nilOb)) W) : Boxed W0 W V.heap.size := ⟨(hb.block _ (by simp)).trans (heap_alloc_new V _), hc.size⟩
theorem boxed_drew (hb : Below (W0.alloc (OO nilPl nilOb)).drew.heap.size (W0.alloc (OO nilPl nilOb)).drew W) : Boxed W0 W W0.heap.size := ⟨(hb.block _ (by simp)).trans (heap_alloc_new W0 _), Nat.le_refl _⟩
theorem cutO_new (h1 : Part w W0 W p1 m0 c1 t) (h2 : Part w W0 W p2 m1 c2 s) (hc : Below W0.heap.size W0 W) : CutO w W0 t s (.pointer (some ⟨W.heap.size, 0, none⟩)) (W.alloc (.cells #[.slice p1 m0 c1, .slice p2 m1 c2, .slice none 0 0, .slice none 0 0] 27)) := by
  obtain ⟨h1, rfl⟩ := h1
  obtain ⟨h2, rfl⟩ := h2
  exact ⟨_, ⟨p1, c1, p2, c2, none, 0, none, 0⟩, rfl, heap_alloc_new W _, ⟨h1.below (one_new _ _), h2.below (one_new _ _), World.ownsRow_nil _ _ _ _, World.ownsRow_nil _ _ _ _⟩, hc.size, bel2 hc (one_new _ _)⟩
theorem cutO_set {g : Nat} (h1 : Part w W0 W p1 m0 c1 t) (h2 : Part w W0 W p2 m1 c2 s) (hc : Below W0.heap.size W0 W) (hb : Boxed W0 W g) : CutO w W0 t s (.pointer (some ⟨g, 0, none⟩)) (setOb W g (.slice p1 m0 c1) (.slice p2 m1 c2) (.slice none 0 0) (.slice none 0 0)) := by
  obtain ⟨h1, rfl⟩ := h1
  obtain ⟨h2, rfl⟩ := h2
  have hg := setOb_grown W g (.slice p1 t.length c1) (.slice p2 s.length c2) (.slice none 0 0) (.slice none 0 0)
  have hr : ∀ g', some g = some g' → ∃ cs t fr, W.heap[g']? = some (.cells cs t fr) ∧ t ≠ 37 := fun g' e => by cases e; exact ⟨_, _, _, hb.1, by decide⟩
  exact ⟨_, ⟨p1, c1, p2, c2, none, 0, none, 0⟩, rfl, setOb_row hb.1 _ _ _ _, ⟨row_keep h1 hg hr, row_keep h2 hg hr, World.ownsRow_nil _ _ _ _, World.ownsRow_nil _ _ _ _⟩, hb.2, grown_below hc hc.size hg hb.2⟩
theorem step_nil {P : Program} {t : TypeId} {i : TypeInfo} {ops : Array Oper} {o : Oper} {a : Act} {K : Act → World → Prop} {Q : Exit → Act → World → Prop} {E : Prop} (hgd : o.guard = none) (y : Operand)
    (ho : o.op = .call { callee := .builtin .append, args := #[.const (.slice none 0 0), y], argTypes := #[t, t] }) (ht : P.underlying t = some (.slice 37)) (hi : P.info? 37 = some i) (hz : i.zero = some (.int .u64 0)) (hsz : i.size = 1) (hby : i.bytes = 8)
    (p : Option Addr) (m c : Nat) (hy : a.eval y = .slice p m c) (zs : List Int) (hm : zs.length = m) (hlen : m ≤ 100000) (hN : NumsIn .u64 W p zs) (hbase : w.heap.size ≤ W.heap.size)
    (hK : ∀ p' c' w', Part w W0 w' p' m c' zs → Below W.heap.size W w' → K (a.put o.dst (.slice p' m c')) w') : if Region.wanted o (yielded ops a.tmps) = true then Oper.wp P o a W K Q else E :=
  step_nums (v := .slice none 0 0) (xs := []) (base := w.heap.size) hgd (.const (.slice none 0 0)) y ho ht hi hz hsz hby rfl ownW_nil p m c hy zs hm hN m zs (List.nil_append _) hm hlen hbase fun p' c' w' h1 h2 => hK p' c' w' ⟨h1, hm⟩ (below_grown h2 (Nat.le_refl _) (fun g e => by cases e))
end

section
variable {base : Nat} {w : World} {v : Value} {ops : Array Oper} {o : Oper} {a : Act} {K : Act → World → Prop} {Q : Exit → Act → World → Prop} {E : Prop}
theorem step_def1 {ds : List (Txt × Int)} (hgd : o.guard = none) (s y : Operand) (ho : o.op = .call { callee := .builtin .append, args := #[s, y], argTypes := #[24, 24] })
    (hs : a.eval s = v) (h : OwnD base w v ds) (d : Txt × Int) (g c : Nat) (hy : a.eval y = .slice (some ⟨g, 0, none⟩) 1 c) (hg : w.heap[g]? = some (.cells #[.string (bs d.1), .int .i64 d.2] 41)) (hlen : ds.length ≤ 1000000) (hbase : base ≤ w.heap.size) (n : Nat) (hn : ds.length + 1 = n)
    (hK : ∀ p' c' w', OwnD base w' (.slice p' n c') (ds ++ [d]) → w.grownBy w' v.ownBlock → K (a.put o.dst (.slice p' n c')) w') : if Region.wanted o (yielded ops a.tmps) = true then Oper.wp Try.prog o a w K Q else E := by
  obtain ⟨i0, hi, hz0, hz1, hz2⟩ := info_parts info_def
  subst hn
  refine step_append_lies w hgd s y 24 ho base 41 i0 _ 2 24 Try.underlying24 hi hz0 hz1 hz2 rfl (by decide) v ds.length (ds.flatMap dC) hs h ⟨g, 0, none⟩ 1 c (dC d) hy rfl (World.news_of_block hg) (by simp [dC, Value.oneCell']) (by decide) (by unfold maxLen; omega) (by omega) hbase _ rfl ?_
  intro g2 cap w' h1 h2 _ _
  refine hK _ _ _ ?_ h2
  unfold OwnD
  rw [List.length_append, List.flatMap_append, List.flatMap_singleton]
  exact h1
theorem step_link1 {ds : List (Txt × Txt × Int)} (hgd : o.guard = none) (s y : Operand) (ho : o.op = .call { callee := .builtin .append, args := #[s, y], argTypes := #[25, 25] })
    (hs : a.eval s = v) (h : OwnK base w v ds) (d : Txt × Txt × Int) (g c : Nat) (hy : a.eval y = .slice (some ⟨g, 0, none⟩) 1 c) (hg : w.heap[g]? = some (.cells #[.string (bs d.1), .string (bs d.2.1), .int .i64 d.2.2] 43)) (hlen : ds.length ≤ 1000000) (hbase : base ≤ w.heap.size) (n : Nat) (hn : ds.length + 1 = n)
    (hK : ∀ p' c' w', OwnK base w' (.slice p' n c') (ds ++ [d]) → w.grownBy w' v.ownBlock → K (a.put o.dst (.slice p' n c')) w') : if Region.wanted o (yielded ops a.tmps) = true then Oper.wp Try.prog o a w K Q else E := by
  obtain ⟨i0, hi, hz0, hz1, hz2⟩ := info_parts info_link
  subst hn
  refine step_append_lies w hgd s y 25 ho base 43 i0 _ 3 40 Try.underlying25 hi hz0 hz1 hz2 rfl (by decide) v ds.length (ds.flatMap kC) hs h ⟨g, 0, none⟩ 1 c (kC d) hy rfl (World.news_of_block hg) (by simp [kC, Value.oneCell']) (by decide) (by unfold maxLen; omega) (by omega) hbase _ rfl ?_
  intro g2 cap w' h1 h2 _ _
  refine hK _ _ _ ?_ h2
  unfold OwnK
  rw [List.length_append, List.flatMap_append, List.flatMap_singleton]
  exact h1
end
theorem lDefs_fit (zs : List Int) : ∀ (n : Nat) (s : St), (lDefs zs n s).1.length ≤ n ∧ ∀ d ∈ (lDefs zs n s).1, d.1.length ≤ 260 ∧ 0 ≤ d.2 ∧ d.2 ≤ 262143
  | 0, s => ⟨Nat.le_refl _, fun d hd => by cases hd⟩
  | n + 1, s => by
    unfold lDefs
    split
    · exact ⟨by simp, fun d hd => by cases hd⟩
    · obtain ⟨h1, h2⟩ := lDefs_fit zs n (lDef zs s).2
      refine ⟨by simpa using h1, fun d hd => ?_⟩
      rcases List.mem_cons.1 hd with rfl | hd
      · exact ⟨lt_len zs s, ln_bd zs _⟩
      · exact h2 d hd
theorem lLinks_fit (zs : List Int) : ∀ (n : Nat) (s : St), (lLinks zs n s).1.length ≤ n ∧ ∀ d ∈ (lLinks zs n s).1, d.1.length ≤ 260 ∧ d.2.1.length ≤ 260 ∧ 0 ≤ d.2.2 ∧ d.2.2 ≤ 262143
  | 0, s => ⟨Nat.le_refl _, fun d hd => by cases hd⟩
  | n + 1, s => by
    unfold lLinks
    split
    · exact ⟨by simp, fun d hd => by cases hd⟩
    · obtain ⟨h1, h2⟩ := lLinks_fit zs n (lLink zs s).2
      refine ⟨by simpa using h1, fun d hd => ?_⟩
      rcases List.mem_cons.1 hd with rfl | hd
      · exact ⟨lt_len zs s, lt_len zs _, ln_bd zs _⟩
      · exact h2 d hd
theorem lDefs_stop {zs : List Int} {n : Nat} {s : St} (h : n = 0 ∨ s.2 = true) : lDefs zs n s = ([], s) := by
  cases n with
  | zero => rfl
  | succ n => rw [lDefs, if_pos (h.resolve_left (by omega))]
theorem lDefs_go {zs : List Int} {n : Nat} {s : St} (h : s.2 = false) : lDefs zs (n + 1) s = ((lDef zs s).1 :: (lDefs zs n (lDef zs s).2).1, (lDefs zs n (lDef zs s).2).2) := by rw [lDefs, if_neg (by simp [h])]
theorem lLinks_stop {zs : List Int} {n : Nat} {s : St} (h : n = 0 ∨ s.2 = true) : lLinks zs n s = ([], s) := by
  cases n with
  | zero => rfl
  | succ n => rw [lLinks, if_pos (h.resolve_left (by omega))]
theorem lLinks_go {zs : List Int} {n : Nat} {s : St} (h : s.2 = false) : lLinks zs (n + 1) s = ((lLink zs s).1 :: (lLinks zs n (lLink zs s).2).1, (lLinks zs n (lLink zs s).2).2) := by rw [lLinks, if_neg (by simp [h])]
theorem lOb_fit {zs : List Int} (hz : W36 zs) (hl : zs.length ≤ 1500) (h2 : mp zs 2 ≤ 1024) (h3 : mp zs 3 ≤ 1024) : Fit (lOb zs) := by
  obtain ⟨d1, d2⟩ := lDefs_fit (zs.take (zs.length - 5)) (mp zs 2) (mp zs 0 + mp zs 1, false)
  obtain ⟨k1, k2⟩ := lLinks_fit (zs.take (zs.length - 5)) (mp zs 3) (lObD zs).2
  refine ⟨fun z hzm => ?_, fun z hzm => ?_, ?_, ?_, ?_, ?_, fun d hd => ?_, fun d hd => ?_⟩
  · have := hz z (List.mem_of_mem_take hzm); exact ⟨this.1, by omega⟩
  · have := hz z (List.mem_of_mem_drop (List.mem_of_mem_take hzm)); exact ⟨this.1, by omega⟩
  · show (zs.take (mp zs 0)).length ≤ maxLen
    unfold maxLen; simp; omega
  · show ((zs.drop (mp zs 0)).take (mp zs 1)).length ≤ maxLen
    unfold maxLen; simp; omega
  · show (lObD zs).1.length ≤ maxLen
    unfold maxLen lObD; omega
  · show (lObL zs).1.length ≤ maxLen
    unfold maxLen lObL; omega
  · have := d2 d hd
    unfold maxLen I64; omega
  · have := k2 d hd
    unfold maxLen I64; omega
/-- the reading begins -/
theorem rdSt_start {w W0 W : World} {r0 mb ob g o c m0 m1 m2 m3 n p : Nat} {body t s : List Int} {q : Pl} (hbel : Below w.heap.size w W0) (hb : Below W0.heap.size W0 W) (hres : W0.heap[r0]? = some (OO nilPl nilOb)) (hmb : W0.heap[mb]? = some (.cells #[.int .i64 m0, .int .i64 m1, .int .i64 m2, .int .i64 m3] 68))
    (hbox : W.heap[ob]? = some (OO q ⟨t, s, [], []⟩)) (hown : OwnOb w.heap.size W q ⟨t, s, [], []⟩) (hge : W0.heap.size ≤ ob) (hN : NumsIn .u64 W (some ⟨g, o, none⟩) body) (hg : g < w.heap.size) (hp : p ≤ body.length) (hn : body.length = n) :
    RdSt w r0 mb ob W.heap.size m0 m1 m2 m3 body q ⟨t, s, [], []⟩ (p, false) (W.alloc (RfO (some ⟨g, o, none⟩) n c p false)) := by
  subst hn
  have hob := block_lt hbox
  have h1 := one_new W (RfO (some ⟨g, o, none⟩) body.length c p false)
  refine ⟨(hbel.trans (hb.mono hbel.size)).trans (h1.mono (Nat.le_trans hbel.size hb.size)), ⟨Nat.le_trans hbel.size hb.size, Nat.le_trans hbel.size hge, by omega⟩, (h1.block _ (Nat.lt_of_lt_of_le (block_lt hres) hb.size)).trans ((hb.block _ (block_lt hres)).trans hres), (h1.block _ (Nat.lt_of_lt_of_le (block_lt hmb) hb.size)).trans ((hb.block _ (block_lt hmb)).trans hmb), (h1.block _ hob).trans hbox, hown.below h1, ⟨_, c, heap_alloc_new W _, hN.below h1, hp, fun _ g' o' e => by cases e; exact hg⟩, ?_⟩
  have := block_lt hres
  omega

theorem ob_kept {V : World} {ob r0 : Nat} {q : Pl} {x : Ob} (h : V.heap[ob]? = some (OO q x)) (hne : r0 ≠ ob) (v0 v1 v2 v3 : Value) : (setOb V r0 v0 v1 v2 v3).cell? ⟨ob, 0, none⟩ = some (.slice q.ta x.text.length q.tc) ∧ (setOb V r0 v0 v1 v2 v3).cell? ⟨ob, 1, none⟩ = some (.slice q.sa x.stat.length q.sc) ∧ (setOb V r0 v0 v1 v2 v3).cell? ⟨ob, 2, none⟩ = some (.slice q.da x.defs.length q.dc) ∧ (setOb V r0 v0 v1 v2 v3).cell? ⟨ob, 3, none⟩ = some (.slice q.la x.links.length q.lc) := by
  have hb := ((setOb_grown V r0 v0 v1 v2 v3).block ob (block_lt h) (fun e => hne (Option.some.inj e).symm)).trans h
  obtain ⟨a, b, c, d, -⟩ := four_cells hb
  exact ⟨a, b, c, d⟩
theorem RdSt.d2 {w W : World} {r0 mb ob rd m0 m1 m2 m3 : Nat} {body : List Int} {q : Pl} {x : Ob} {S : St} (h : RdSt w r0 mb ob rd m0 m1 m2 m3 body q x S W) : W.cell? ⟨ob, 2, none⟩ = some (.slice q.da x.defs.length q.dc) ∧ ob < W.heap.size := ⟨by rw [cell_of_row _ _ _ _ _ _ h.box]; rfl, block_lt h.box⟩
theorem RdSt.l3 {w W : World} {r0 mb ob rd m0 m1 m2 m3 : Nat} {body : List Int} {q : Pl} {x : Ob} {S : St} (h : RdSt w r0 mb ob rd m0 m1 m2 m3 body q x S W) : W.cell? ⟨ob, 3, none⟩ = some (.slice q.la x.links.length q.lc) ∧ ob < W.heap.size := ⟨by rw [cell_of_row _ _ _ _ _ _ h.box]; rfl, block_lt h.box⟩

section
variable {base : Nat} {w : World} {v : Value} {o : Oper} {a : Act} {K : Act → World → Prop} {Q : Exit → Act → World → Prop}
theorem wp_def1 {ds : List (Txt × Int)} (s y : Operand) (ho : o.op = .call { callee := .builtin .append, args := #[s, y], argTypes := #[24, 24] })
    (hs : a.eval s = v) (h : OwnD base w v ds) (d : Txt × Int) (g c : Nat) (hy : a.eval y = .slice (some ⟨g, 0, none⟩) 1 c) (hg : w.heap[g]? = some (.cells #[.string (bs d.1), .int .i64 d.2] 41)) (hlen : ds.length ≤ 1000000) (hbase : base ≤ w.heap.size) (n : Nat) (hn : ds.length + 1 = n)
    (hK : ∀ p' c' w', OwnD base w' (.slice p' n c') (ds ++ [d]) → w.grownBy w' v.ownBlock → K (a.put o.dst (.slice p' n c')) w') : Oper.wp Try.prog o a w K Q := by
  obtain ⟨i0, hi, hz0, hz1, hz2⟩ := info_parts info_def
  subst hn
  refine wp_append_lies w s y 24 ho base 41 i0 _ 2 24 Try.underlying24 hi hz0 hz1 hz2 rfl (by decide) v ds.length (ds.flatMap dC) hs h ⟨g, 0, none⟩ 1 c (dC d) hy rfl (World.news_of_block hg) (by simp [dC, Value.oneCell']) (by decide) (by unfold maxLen; omega) (by omega) hbase _ rfl ?_
  intro g2 cap w' h1 h2 _ _
  refine hK _ _ _ ?_ h2
  unfold OwnD
  rw [List.length_append, List.flatMap_append, List.flatMap_singleton]
  exact h1
theorem wp_link1 {ds : List (Txt × Txt × Int)} (s y : Operand) (ho : o.op = .call { callee := .builtin .append, args := #[s, y], argTypes := #[25, 25] })
    (hs : a.eval s = v) (h : OwnK base w v ds) (d : Txt × Txt × Int) (g c : Nat) (hy : a.eval y = .slice (some ⟨g, 0, none⟩) 1 c) (hg : w.heap[g]? = some (.cells #[.string (bs d.1), .string (bs d.2.1), .int .i64 d.2.2] 43)) (hlen : ds.length ≤ 1000000) (hbase : base ≤ w.heap.size) (n : Nat) (hn : ds.length + 1 = n)
    (hK : ∀ p' c' w', OwnK base w' (.slice p' n c') (ds ++ [d]) → w.grownBy w' v.ownBlock → K (a.put o.dst (.slice p' n c')) w') : Oper.wp Try.prog o a w K Q := by
  obtain ⟨i0, hi, hz0, hz1, hz2⟩ := info_parts info_link
  subst hn
  refine wp_append_lies w s y 25 ho base 43 i0 _ 3 40 Try.underlying25 hi hz0 hz1 hz2 rfl (by decide) v ds.length (ds.flatMap kC) hs h ⟨g, 0, none⟩ 1 c (kC d) hy rfl (World.news_of_block hg) (by simp [kC, Value.oneCell']) (by decide) (by unfold maxLen; omega) (by omega) hbase _ rfl ?_
  intro g2 cap w' h1 h2 _ _
  refine hK _ _ _ ?_ h2
  unfold OwnK
  rw [List.length_append, List.flatMap_append, List.flatMap_singleton]
  exact h1
end
set_option maxRecDepth 8000 in
set_option maxHeartbeats 16000000 in
theorem refRead_walk (a : Option Addr) (c : Nat) (zs : List Int) (w : World) (hN : NumsIn .u64 w a zs) (hz : W36 zs) (hl : zs.length ≤ 1500) (hc : zs.length ≤ c) :
    Calls Try.prog 23 #[.slice a zs.length c] w (RefRd w zs) := by
  by_cases h5 : zs.length < 5
  · have hno := Lib.hid (obOk_map (map_short h5))
    have d1 : decide ((zs.length : Int) < 5) = true := decide_eq_true (by omega)
    go_enter Try.func23, Try.ntmps23
    go_wp2
    exact bodyPost_ret (v := .tuple #[OvNil, .bool false]) (by simp [results, Try.results23, go_sem]) rfl ⟨one_new _ _, Or.inr ⟨hno.out, nilPl, nilOb, rfl⟩⟩
  have d1 : decide ((zs.length : Int) < 5) = false := decide_eq_false (by omega)
  obtain ⟨g, o, rfl, hcell⟩ := hN (by omega)
  have hgl := World.block_lt_of_cell? w _ (hcell 0 (by omega))
  have HC := Lib.hid (show ∀ (V : World), Below w.heap.size w V → ∀ i, i < zs.length → V.cell? ⟨g, o + i, none⟩ = some (.int .u64 (zs.getD i 0)) from fun V hV i hi => (hV.cell (p := ⟨g, o + i, none⟩) (World.block_lt_of_cell? w _ (hcell i hi))).trans (hcell i hi))
  have HN := Lib.hid hN
  have HZ := Lib.hid hz
  have hlast := HC.out w (Below.refl _ _) (zs.length - 1) (by omega)
  have i0 : (0 : Int) ≤ (zs.length : Int) - 1 := by omega
  have i1 : (zs.length : Int) - 1 < (zs.length : Int) := by omega
  have i2 : ((zs.length : Int) - 1).toNat = zs.length - 1 := by omega
  clear hN hz hcell
  by_cases hm : zs.getD (zs.length - 1) 0 = 45812815077
  case neg =>
    have hno := Lib.hid (obOk_map (map_last hm))
    have d2 : (zs.getD (zs.length - 1) 0 != 45812815077) = true := bne_iff_ne.2 hm
    have d3 : (zs.getD (zs.length - 1) 0 == 45812815077) = false := beq_eq_false_iff_ne.2 hm
    generalize zs.getD (zs.length - 1) 0 = v at *
    go_enter Try.func23, Try.ntmps23
    go_wp2
    exact bodyPost_ret (v := .tuple #[OvNil, .bool false]) (by simp [results, Try.results23, go_sem]) rfl ⟨one_new _ _, Or.inr ⟨hno.out, nilPl, nilOb, rfl⟩⟩
  rw [hm] at hlast
  have HM := Lib.hid hm
  have HB0 : Hid (∀ i, i < 4 → 0 ≤ zs.getD (zs.length - 5 + i) 0) := Lib.hid (fun i hi => by
    have e : zs.getD (zs.length - 5 + i) 0 = zs[zs.length - 5 + i]'(by omega) := by simp [List.getD, show zs.length - 5 + i < zs.length by omega]
    rw [e]
    exact (HZ.out _ (List.getElem_mem _)).1)
  clear hm
  go_enter Try.func23, Try.ntmps23
  go_wp2
  have H0 : MLoop w (zs.getD (zs.length - 5 + 0) 0) (zs.getD (zs.length - 5 + 1) 0) (zs.getD (zs.length - 5 + 2) 0) (zs.getD (zs.length - 5 + 3) 0) 0 ((w.alloc (OO nilPl nilOb)).alloc (.cells #[.int .i64 0, .int .i64 0, .int .i64 0, .int .i64 0] 68)) := by
    refine ⟨at_new (by simp), at_old (by simp) (at_new rfl), bel2 (one_new _ _) (one_new _ _)⟩
  have H0 := Lib.hid H0
  clear hlast i0 i1 i2
  go_loopw [6] (fun i W => ∃ k : Nat, k ≤ 4 ∧ i = .int .i64 k ∧ Hid (MLoop w (zs.getD (zs.length - 5 + 0) 0) (zs.getD (zs.length - 5 + 1) 0) (zs.getD (zs.length - 5 + 2) 0) (zs.getD (zs.length - 5 + 3) 0) k W) ∧ Hid (∀ j, j < k → zs.getD (zs.length - 5 + j) 0 ≤ 1024)) (fun i _ => 4 - (intOf i).toNat)
  case atStart => exact ⟨0, by omega, rfl, H0, Lib.hid (fun j hj => by omega)⟩
  case round =>
    clear H0
    obtain ⟨k, hk, rfl, HL, HJ⟩ := hrel
    by_cases h4 : k < 4
    · have hcell := HC.out wr HL.out.2.2 (zs.length - 5 + k) (by omega)
      have j0 : (0 : Int) ≤ (zs.length : Int) - 5 + (k : Int) := by omega
      have j1 : (zs.length : Int) - 5 + (k : Int) < (zs.length : Int) := by omega
      have j2 : ((zs.length : Int) - 5 + (k : Int)).toNat = zs.length - 5 + k := by omega
      have hb := HB0.out k h4
      have HKV := Lib.hid (show (mrow (zs.getD (zs.length - 5 + 0) 0) (zs.getD (zs.length - 5 + 1) 0) (zs.getD (zs.length - 5 + 2) 0) (zs.getD (zs.length - 5 + 3) 0) k).setIfInBounds k (.int .i64 (zs.getD (zs.length - 5 + k) 0)) = mrow (zs.getD (zs.length - 5 + 0) 0) (zs.getD (zs.length - 5 + 1) 0) (zs.getD (zs.length - 5 + 2) 0) (zs.getD (zs.length - 5 + 3) 0) (k + 1) by
        obtain rfl | rfl | rfl | rfl : k = 0 ∨ k = 1 ∨ k = 2 ∨ k = 3 := by omega
        all_goals simp [mrow])
      by_cases hv : zs.getD (zs.length - 5 + k) 0 ≤ 1024
      · have HJ2 := Lib.hid (show ∀ j, j < k + 1 → zs.getD (zs.length - 5 + j) 0 ≤ 1024 from fun j hj => by
          by_cases e : j = k
          · rw [e]; exact hv
          · exact HJ.out j (by omega))
        have HS := Lib.hid (mloop_set HL.out HKV.out)
        have fk : wr.frozen? ⟨w.heap.size + 1, k, none⟩ = false := by simp [World.frozen?, HL.out.1]
        obtain ⟨vk, ck⟩ : ∃ vk, wr.cell? ⟨w.heap.size + 1, k, none⟩ = some vk := by
          rw [cell_of_row _ _ _ _ _ _ HL.out.1]
          obtain rfl | rfl | rfl | rfl : k = 0 ∨ k = 1 ∨ k = 2 ∨ k = 3 := by omega
          all_goals exact ⟨_, rfl⟩
        have hd : decide (zs.getD (zs.length - 5 + k) 0 > 1024) = false := decide_eq_false (by omega)
        have hw : wrap64 (zs.getD (zs.length - 5 + k) 0) = zs.getD (zs.length - 5 + k) 0 := by unfold wrap64; omega
        have q0 : (0 : Int) ≤ (k : Int) := by omega
        have q1 : (k : Int) < 4 := by omega
        clear hv HKV HL
        generalize zs.getD (zs.length - 5 + k) 0 = z at *
        go_wp2
        go_roundw
        case rel => exact ⟨k + 1, by omega, by go_num, HS, HJ2⟩
        case measure => simp [intOf]; omega
      · have hno := Lib.hid (obOk_map (map_big h4 hv))
        have hd : decide (zs.getD (zs.length - 5 + k) 0 > 1024) = true := decide_eq_true (by omega)
        obtain ⟨r0, r1, r2, r3, f0, f1, f2, f3⟩ := four_cells HL.out.2.1
        clear hv HKV
        generalize zs.getD (zs.length - 5 + k) 0 = z at *
        go_wp2
        change bodyPost _ _ _ _ _ (setOb wr w.heap.size (.slice none 0 0) (.slice none 0 0) (.slice none 0 0) (.slice none 0 0))
        obtain ⟨g0, g1, g2, g3, -⟩ := four_cells (setOb_row HL.out.2.1 (.slice none 0 0) (.slice none 0 0) (.slice none 0 0) (.slice none 0 0))
        have hg := grown_below HL.out.2.2 HL.out.2.2.size (setOb_grown wr w.heap.size (.slice none 0 0) (.slice none 0 0) (.slice none 0 0) (.slice none 0 0)) (Nat.le_refl _)
        generalize setOb wr w.heap.size (.slice none 0 0) (.slice none 0 0) (.slice none 0 0) (.slice none 0 0) = V5 at *
        exact bodyPost_ret (v := .tuple #[OvNil, .bool false]) (by simp [results, Try.results23, go_sem, g0, g1, g2, g3]) rfl ⟨hg, Or.inr ⟨hno.out, nilPl, nilOb, rfl⟩⟩
    · obtain rfl : k = 4 := by omega
      rw [show ((4 : Nat) : Int) = 4 from rfl]
      obtain ⟨m0, e0⟩ := Int.eq_ofNat_of_zero_le (HB0.out 0 (by omega))
      obtain ⟨m1, e1⟩ := Int.eq_ofNat_of_zero_le (HB0.out 1 (by omega))
      obtain ⟨m2, e2⟩ := Int.eq_ofNat_of_zero_le (HB0.out 2 (by omega))
      obtain ⟨m3, e3⟩ := Int.eq_ofNat_of_zero_le (HB0.out 3 (by omega))
      have l0 := HJ.out 0 (by omega)
      have l1 := HJ.out 1 (by omega)
      have l2 := HJ.out 2 (by omega)
      have l3 := HJ.out 3 (by omega)
      rw [e0] at l0
      rw [e1] at l1
      rw [e2] at l2
      rw [e3] at l3
      have hmp : Hid (mp zs 0 = m0 ∧ mp zs 1 = m1 ∧ mp zs 2 = m2 ∧ mp zs 3 = m3) := Lib.hid ⟨by unfold mp; rw [e0]; rfl, by unfold mp; rw [e1]; rfl, by unfold mp; rw [e2]; rfl, by unfold mp; rw [e3]; rfl⟩
      have HL1 := HL.out
      rw [e0, e1, e2, e3] at HL1
      obtain ⟨hmb, hres, hbel⟩ := HL1
      simp only [mrow, Nat.zero_lt_succ, if_true, show (2 : Nat) < 4 from by omega, show (3 : Nat) < 4 from by omega, show (1 : Nat) < 4 from by omega] at hmb
      have HMB := Lib.hid hmb
      have HRES := Lib.hid hres
      have HBEL := Lib.hid hbel
      clear HL e0 e1 e2 e3 h4 hk
      obtain ⟨y0, y1, y2, y3, -⟩ := four_cells hmb
      by_cases hsum : m0 + m1 + 5 ≤ zs.length
      case neg =>
        have hno := Lib.hid (obOk_map (zs := zs) (map_sum (by rw [hmp.out.1, hmp.out.2.1]; exact hsum)))
        have hd : decide ((m0 : Int) + (m1 : Int) + 5 > (zs.length : Int)) = true := decide_eq_true (by omega)
        obtain ⟨r0, r1, r2, r3, f0, f1, f2, f3⟩ := four_cells hres
        clear hmb hres hbel
        go_wp2
        change bodyPost _ _ _ _ _ (setOb wr w.heap.size (.slice none 0 0) (.slice none 0 0) (.slice none 0 0) (.slice none 0 0))
        obtain ⟨g0, g1, g2, g3, -⟩ := four_cells (setOb_row HRES.out (.slice none 0 0) (.slice none 0 0) (.slice none 0 0) (.slice none 0 0))
        have hg := grown_below HBEL.out HBEL.out.size (setOb_grown wr w.heap.size (.slice none 0 0) (.slice none 0 0) (.slice none 0 0) (.slice none 0 0)) (Nat.le_refl _)
        generalize setOb wr w.heap.size (.slice none 0 0) (.slice none 0 0) (.slice none 0 0) (.slice none 0 0) = V5 at *
        exact bodyPost_ret (v := .tuple #[OvNil, .bool false]) (by simp [results, Try.results23, go_sem, g0, g1, g2, g3]) rfl ⟨hg, Or.inr ⟨hno.out, nilPl, nilOb, rfl⟩⟩
      have hd : decide ((m0 : Int) + (m1 : Int) + 5 > (zs.length : Int)) = false := decide_eq_false (by omega)
      clear hmb hres hbel
      go_upto_region 13 with (fail)
      obtain ⟨ii, hi, hz0, hz1, hz2⟩ := info_parts info_word
      go_cut [7] (fun s7 W => CutO w wr (zs.take m0) ((zs.drop m0).take m1) s7 W)
      case first =>
        have HT1 := Lib.hid (show ∀ V : World, Below w.heap.size w V → NumsIn .u64 V (some ⟨g, o, none⟩) (zs.take m0) from fun V hV h0 => ⟨_, _, rfl, fun i hi => by
          have hik : i < m0 := by simp at hi; omega
          rw [HC.out V hV i (by omega)]
          simp [List.getD, List.getElem?_take_of_lt hik]⟩)
        have HT2 := Lib.hid (show ∀ V : World, Below w.heap.size w V → NumsIn .u64 V (some ⟨g, o + m0, none⟩) ((zs.drop m0).take m1) from fun V hV h0 => ⟨_, _, rfl, fun i hi => by
          have hik : i < m1 := by simp at hi; omega
          rw [Nat.add_assoc, HC.out V hV (m0 + i) (by omega)]
          simp [List.getD, List.getElem?_take_of_lt hik]⟩)
        have HL1 := Lib.hid (show (zs.take m0).length = m0 by simp; omega)
        have HL2 := Lib.hid (show ((zs.drop m0).take m1).length = m1 by simp; omega)
        have CUR := Lib.hid (show Below wr.heap.size wr wr.drew from below_drewN wr 1)
        have HY := Lib.hid (show wr.cell? ⟨w.heap.size + 1, 0, none⟩ = some (.int .i64 m0) ∧ wr.cell? ⟨w.heap.size + 1, 1, none⟩ = some (.int .i64 m1) from ⟨y0, y1⟩)
        have HYB := Lib.hid (show ∀ V : World, Below wr.heap.size wr V → V.cell? ⟨w.heap.size + 1, 0, none⟩ = some (.int .i64 m0) ∧ V.cell? ⟨w.heap.size + 1, 1, none⟩ = some (.int .i64 m1) from fun V hV =>
          ⟨(hV.cell (p := ⟨w.heap.size + 1, 0, none⟩) (World.block_lt_of_cell? wr _ HY.out.1)).trans HY.out.1, (hV.cell (p := ⟨w.heap.size + 1, 1, none⟩) (World.block_lt_of_cell? wr _ HY.out.2)).trans HY.out.2⟩)
        have q0 : (0 : Int) ≤ (m0 : Int) := by omega
        have q1 : (m0 : Int) ≤ (c : Int) := by omega
        have q2 : (m0 : Int) ≤ (m0 : Int) + (m1 : Int) := by omega
        have q3 : (m0 : Int) + (m1 : Int) ≤ (c : Int) := by omega
        have q4 : ((m0 : Int) + (m1 : Int)).toNat = m0 + m1 := by omega
        have q5 : ¬ c = m0 := by omega
        have q6 : m0 + m1 - m0 = m1 := by omega
        have q7 : (0 : Int) ≤ (m0 : Int) + (m1 : Int) := by omega
        have q8 : IntKind.i64.wrap ((m0 : Int) + (m1 : Int)) = (m0 : Int) + (m1 : Int) := by rw [IntKind.wrap_i64]; omega
        clear y2 y3 y0 y1
        go_region_held3 (fun V => V.cell? ⟨w.heap.size + 1, 0, none⟩ = some (.int .i64 m0) ∧ V.cell? ⟨w.heap.size + 1, 1, none⟩ = some (.int .i64 m1)) (first | exact HYB.out _ CUR.out | exact HYB.out _ (bel2 CUR.out (one_new _ _)) | exact HYB.out _ (bel2 CUR.out (one_new wr.drew (OO nilPl nilOb))) | exact HYB.out _ (grown_below CUR.out CUR.out.size (setOb_grown _ _ _ _ _ _) GB.out.2) | fail)
          ((first
            | (refine step_nil (w := w) (W0 := wr) rfl (.tmp 62) rfl Try.underlying22 hi hz0 hz1 hz2 _ _ _ rfl _ HL1.out (by omega) (HT1.out _ (by first | exact bel2 HBEL.out CUR.out | exact bel2 HBEL.out (bel2 CUR.out (one_new _ (OO nilPl nilOb))) | exact bel2 HBEL.out (bel2 CUR.out (one_new wr.drew (OO nilPl nilOb))))) (Below.size (w := w) (by first | exact bel2 HBEL.out CUR.out | exact bel2 HBEL.out (bel2 CUR.out (one_new _ (OO nilPl nilOb))) | exact bel2 HBEL.out (bel2 CUR.out (one_new wr.drew (OO nilPl nilOb))))) ?_; intro p1 c1 w1 o1 b1; have T1 := Lib.hid o1; (try have T2 := Lib.hid (T2.out.below b1)); (try have T2 := Lib.hid (T2.out.below (bel2 (one_new _ (OO nilPl nilOb)) b1))); (try have GB := Lib.hid (GB.out.below b1)); (try have GB := Lib.hid (boxed_new CUR.out b1)); (try have GB := Lib.hid (boxed_drew b1)); have CUR : Hid (Below wr.heap.size wr w1) := Lib.hid (by first | exact bel2 CUR.out b1 | exact bel2 (bel2 CUR.out (one_new _ (OO nilPl nilOb))) b1 | exact bel2 (bel2 CUR.out (one_new wr.drew (OO nilPl nilOb))) b1); clear o1 b1; (try (have hq := four_cells GB.out.1; obtain ⟨z0, z1, z2, z3, f0, f1, f2, f3⟩ := hq)))
            | (refine step_nil (w := w) (W0 := wr) rfl (.tmp 72) rfl Try.underlying22 hi hz0 hz1 hz2 _ _ _ rfl _ HL2.out (by omega) (HT2.out _ (by first | exact bel2 HBEL.out CUR.out | exact bel2 HBEL.out (bel2 CUR.out (one_new _ (OO nilPl nilOb))) | exact bel2 HBEL.out (bel2 CUR.out (one_new wr.drew (OO nilPl nilOb))))) (Below.size (w := w) (by first | exact bel2 HBEL.out CUR.out | exact bel2 HBEL.out (bel2 CUR.out (one_new _ (OO nilPl nilOb))) | exact bel2 HBEL.out (bel2 CUR.out (one_new wr.drew (OO nilPl nilOb))))) ?_; intro p2 c2 w2 o2 b2; have T2 := Lib.hid o2; (try have T1 := Lib.hid (T1.out.below b2)); (try have T1 := Lib.hid (T1.out.below (bel2 (one_new _ (OO nilPl nilOb)) b2))); (try have GB := Lib.hid (GB.out.below b2)); (try have GB := Lib.hid (boxed_new CUR.out b2)); (try have GB := Lib.hid (boxed_drew b2)); have CUR : Hid (Below wr.heap.size wr w2) := Lib.hid (by first | exact bel2 CUR.out b2 | exact bel2 (bel2 CUR.out (one_new _ (OO nilPl nilOb))) b2 | exact bel2 (bel2 CUR.out (one_new wr.drew (OO nilPl nilOb))) b2); clear o2 b2; (try (have hq := four_cells GB.out.1; obtain ⟨z0, z1, z2, z3, f0, f1, f2, f3⟩ := hq)))
            | fail))
        all_goals go_wp2
        all_goals go_meet
        all_goals first | (with_reducible exact cutO_set T1.out T2.out CUR.out GB.out) | (with_reducible exact cutO_new T1.out T2.out CUR.out) | fail
      case rest =>
        obtain ⟨ob, q, rfl, hbox, hown, hge, hb⟩ := hcut
        have HB := Lib.hid hb
        have HBOX := Lib.hid hbox
        have HOWN := Lib.hid hown
        have HGE := Lib.hid hge
        have k0 := (hb.cell (p := ⟨w.heap.size + 1, 0, none⟩) (World.block_lt_of_cell? wr _ y0)).trans y0
        have k1 := (hb.cell (p := ⟨w.heap.size + 1, 1, none⟩) (World.block_lt_of_cell? wr _ y1)).trans y1
        have HK := Lib.hid (show wc.drew.cell? ⟨w.heap.size + 1, 0, none⟩ = some (.int .i64 m0) ∧ wc.drew.cell? ⟨w.heap.size + 1, 1, none⟩ = some (.int .i64 m1) from ⟨k0, k1⟩)
        have HKK := Lib.hid (show ∀ V : World, Below wc.heap.size wc V → V.cell? ⟨w.heap.size + 1, 0, none⟩ = some (.int .i64 m0) ∧ V.cell? ⟨w.heap.size + 1, 1, none⟩ = some (.int .i64 m1) from fun V hV =>
          ⟨(hV.cell (p := ⟨w.heap.size + 1, 0, none⟩) (World.block_lt_of_cell? wc _ k0)).trans k0, (hV.cell (p := ⟨w.heap.size + 1, 1, none⟩) (World.block_lt_of_cell? wc _ k1)).trans k1⟩)
        have HT := Lib.hid (show (zs.take (zs.length - 5)).length = zs.length - 5 by simp)
        have hNB : NumsIn .u64 wc (some ⟨g, o, none⟩) (zs.take (zs.length - 5)) := fun h0 => ⟨_, _, rfl, fun i hi => by
          have hik : i < zs.length - 5 := by rw [HT.out] at hi; exact hi
          rw [HC.out wc (bel2 HBEL.out hb) i (by omega)]
          simp [List.getD, List.getElem?_take_of_lt hik]⟩
        have HST := Lib.hid (rdSt_start (c := c) (n := zs.length - 5) (p := m0 + m1) HBEL.out hb HRES.out HMB.out hbox hown hge hNB hgl (by rw [HT.out]; omega) HT.out)
        obtain ⟨nb, hnb⟩ : ∃ nb, zs.length - 5 = nb := ⟨_, rfl⟩
        rw [hnb] at HT HST
        have q0 : (0 : Int) ≤ (nb : Int) := by omega
        have q1 : (nb : Int) ≤ (c : Int) := by omega
        have q9 : IntKind.i64.wrap ((zs.length : Int) - 5) = (nb : Int) := by rw [IntKind.wrap_i64]; omega
        have q8 : IntKind.i64.wrap ((m0 : Int) + (m1 : Int)) = (m0 : Int) + (m1 : Int) := by rw [IntKind.wrap_i64]; omega
        have HNB := Lib.hid hnb
        clear hnb
        clear hb hbox hown hge hNB y0 y1 y2 y3 hd k0 k1
        obtain ⟨rd, hrd⟩ : ∃ r, wc.heap.size = r := ⟨_, rfl⟩
        rw [hrd] at HST
        have HRDN := Lib.hid hrd
        clear hrd
        go_upto_region 14 with (fail)
        go_cut [8] (fun s8 W => s8 = .pointer (some ⟨rd, 0, none⟩) ∧ RdSt w w.heap.size (w.heap.size + 1) ob rd m0 m1 m2 m3 (zs.take nb) q ⟨zs.take m0, (zs.drop m0).take m1, [], []⟩ (m0 + m1, false) W)
        case first =>
          go_region_held3 (fun V => V.cell? ⟨w.heap.size + 1, 0, none⟩ = some (.int .i64 m0) ∧ V.cell? ⟨w.heap.size + 1, 1, none⟩ = some (.int .i64 m1)) (first | exact HK.out | exact HKK.out _ (one_new _ _) | exact HKK.out _ (bel2 (one_new _ _) (below_drewN _ 1)) | fail) (fail)
          go_wp2
          go_meet
          exact ⟨by rw [HRDN.out], HST.out.below (below_drewN _ 1)⟩
        case rest =>
          obtain ⟨rfl, hst⟩ := hcut
          have HR := Lib.hid hst
          have HZB : Hid (W36 (zs.take nb)) := Lib.hid (fun z hz => HZ.out z (List.mem_of_mem_take hz))
          have HLB : Hid ((zs.take nb).length ≤ 2000) := Lib.hid (by simp; omega)
          have HLEN := Lib.hid hl
          clear hst HST HK HKK q0 q1 q8 q9 hl hc
          go_wp2
          go_loopw [9] (fun i W => ∃ (k : Nat) (q : Pl) (ds : List (Txt × Int)) (S : St), k ≤ m2 ∧ i = .int .i64 k ∧ ds.length = k ∧ Hid (RdSt w w.heap.size (w.heap.size + 1) ob rd m0 m1 m2 m3 (zs.take nb) q ⟨zs.take m0, (zs.drop m0).take m1, ds, []⟩ S W) ∧ Hid (lDefs (zs.take nb) m2 (m0 + m1, false) = (ds ++ (lDefs (zs.take nb) (m2 - k) S).1, (lDefs (zs.take nb) (m2 - k) S).2))) (fun i _ => m2 - (intOf i).toNat)
          case atStart => exact ⟨0, q, [], (m0 + m1, false), Nat.zero_le _, rfl, rfl, HR, Lib.hid (by simp)⟩
          case round =>
            clear HR
            obtain ⟨k, q, ds, ⟨p, bad⟩, hk, rfl, hdl, HR, HP⟩ := hrel
            obtain ⟨-, -, y2, -, -⟩ := four_cells HR.out.many
            obtain ⟨ra, rc, -, -, c2, -, -, -, -⟩ := rf_cells HR.out.rd
            by_cases hgo : k < m2 ∧ bad = false
            · obtain ⟨hlt, rfl⟩ := hgo
              go_upto_region 18 with (fail)
              have R0 := Lib.hid (HR.out.below (show Below wr.heap.size wr wr.drew from below_drewN wr 1))
              have ht := text_rf R0.out.rd HLB.out HZB.out
              have hnm := fun (V : World) (h : RfAt w.heap.size V rd (zs.take nb) (lt (zs.take nb) (p, false)).2) => number_rf h HLB.out HZB.out
              have hD : lDef (zs.take nb) (p, false) = (((lt (zs.take nb) (p, false)).1, (ln (zs.take nb) (lt (zs.take nb) (p, false)).2).1), (ln (zs.take nb) (lt (zs.take nb) (p, false)).2).2) := rfl
              have hgo : Hid (lDefs (zs.take nb) (m2 - k) (p, false) = ((lDef (zs.take nb) (p, false)).1 :: (lDefs (zs.take nb) (m2 - (k + 1)) (lDef (zs.take nb) (p, false)).2).1, (lDefs (zs.take nb) (m2 - (k + 1)) (lDef (zs.take nb) (p, false)).2).2)) := Lib.hid (by
                rw [show m2 - k = (m2 - (k + 1)) + 1 by omega]
                exact lDefs_go rfl)
              rw [hD] at hgo
              clear hD
              generalize (lt (zs.take nb) (p, false)).1 = t at *
              generalize (lt (zs.take nb) (p, false)).2 = S1 at *
              generalize (ln (zs.take nb) S1).1 = z at *
              generalize (ln (zs.take nb) S1).2 = S2 at *
              have hP3 := Lib.hid (show lDefs (zs.take nb) m2 (m0 + m1, false) = ((ds ++ [(t, z)]) ++ (lDefs (zs.take nb) (m2 - (k + 1)) S2).1, (lDefs (zs.take nb) (m2 - (k + 1)) S2).2) by
                rw [HP.out, hgo.out]
                simp)
              have hdl2 : ds.length ≤ 1000000 := by omega
              have HH : wr.drew.cell? ⟨ob, 2, none⟩ = some (.slice q.da ds.length q.dc) := R0.out.d2.1
              have HDL := Lib.hid hdl
              clear hdl hgo y2 c2 HR HP
              refine wp_region_noPanic ?_
              refine wp_region_last 10 (fun V => V.cell? ⟨ob, 2, none⟩ = some (.slice q.da ds.length q.dc)) (by kernel_rfl) ?_
              refine wpAnyL_take (i := 0) (v := ?_) rfl (by kernel_rfl) (by kernel_rfl) (by kernel_rfl) (by kernel_rfl) (fun _ _ _ h => h) (Or.inl ⟨by rfl, ?_⟩) HH ?_
              rotate_left 1
              · (intro w hSw; (try dsimp only at hSw); (try simp only [List.getElem_toArray]); (try simp only [List.getElem_cons_succ]); (try simp only [List.getElem_cons_zero]); go_simp; try (with_reducible rfl))
              (try simp only [List.getElem_toArray]); (try simp only [List.getElem_cons_succ]); (try simp only [List.getElem_cons_zero]); (try simp only [Act.put, List.setIfInBounds_toArray, List.set_cons_zero, List.set_cons_succ])
              refine wpAnyL_take (i := 1) (v := ?_) rfl (by kernel_rfl) (by kernel_rfl) (by kernel_rfl) (by kernel_rfl) (fun _ _ _ h => h) (Or.inl ⟨by rfl, ?_⟩) HH ?_
              rotate_left 1
              · (intro w hSw; (try dsimp only at hSw); (try simp only [List.getElem_toArray]); (try simp only [List.getElem_cons_succ]); (try simp only [List.getElem_cons_zero]); go_simp; try (with_reducible rfl))
              (try simp only [List.getElem_toArray]); (try simp only [List.getElem_cons_succ]); (try simp only [List.getElem_cons_zero]); (try simp only [Act.put, List.setIfInBounds_toArray, List.set_cons_zero, List.set_cons_succ])
              refine wpAnyL_take (i := 2) (v := ?_) rfl (by kernel_rfl) (by kernel_rfl) (by kernel_rfl) (by kernel_rfl) (fun _ _ _ h => h) (Or.inl ⟨by rfl, ?_⟩) HH ?_
              rotate_left 1
              · (intro w hSw; (try dsimp only at hSw); (try simp only [List.getElem_toArray]); (try simp only [List.getElem_cons_succ]); (try simp only [List.getElem_cons_zero]); go_simp; try (with_reducible rfl))
              (try simp only [List.getElem_toArray]); (try simp only [List.getElem_cons_succ]); (try simp only [List.getElem_cons_zero]); (try simp only [Act.put, List.setIfInBounds_toArray, List.set_cons_zero, List.set_cons_succ])
              refine wpAnyL_take (i := 4) (v := ?_) rfl (by kernel_rfl) (by kernel_rfl) (by kernel_rfl) (by kernel_rfl) (fun _ _ _ h => h) (Or.inl ⟨by rfl, ?_⟩) HH ?_
              rotate_left 1
              · (intro w hSw; (try dsimp only at hSw); (try simp only [List.getElem_toArray]); (try simp only [List.getElem_cons_succ]); (try simp only [List.getElem_cons_zero]); go_simp; try (with_reducible rfl))
              (try simp only [List.getElem_toArray]); (try simp only [List.getElem_cons_succ]); (try simp only [List.getElem_cons_zero]); (try simp only [Act.put, List.setIfInBounds_toArray, List.set_cons_zero, List.set_cons_succ])
              refine wpAnyL_one (i := 3) (by kernel_rfl) rfl rfl (fun K hK => ?_)
              (try simp only [List.getElem_toArray]); (try simp only [List.getElem_cons_succ]); (try simp only [List.getElem_cons_zero])
              go_simp
              go_at_call 32; (refine ht.mono ?_); rintro e w1 ⟨rfl, r1, g1⟩; have R1 := Lib.hid (R0.out.reader r1 g1); clear r1 g1
              have HH := R1.out.d2.1
              refine hK _ _ (fun hne => HH) ?_
              clear hK K
              (try simp only [List.getElem_toArray]); (try simp only [List.getElem_cons_succ]); (try simp only [List.getElem_cons_zero]); (try simp only [Act.put, List.setIfInBounds_toArray, List.set_cons_zero, List.set_cons_succ])
              refine wpAnyL_one (i := 5) (by kernel_rfl) rfl rfl (fun K hK => ?_)
              (try simp only [List.getElem_toArray]); (try simp only [List.getElem_cons_succ]); (try simp only [List.getElem_cons_zero])
              go_simp
              go_at_call 33; (refine (hnm _ R1.out.rd).mono ?_); rintro e w2 ⟨rfl, r2, g2⟩; have R2 := Lib.hid (R1.out.reader r2 g2); have R3 := Lib.hid (R2.out.below (one_new w2 (.cells #[.string (bs t), .int .i64 z] 41))); clear r2 g2
              have HH := R2.out.d2.1
              refine hK _ _ (fun hne => HH) ?_
              clear hK K
              (try simp only [List.getElem_toArray]); (try simp only [List.getElem_cons_succ]); (try simp only [List.getElem_cons_zero]); (try simp only [Act.put, List.setIfInBounds_toArray, List.set_cons_zero, List.set_cons_succ])
              refine wpAnyL_take (i := 6) (v := ?_) rfl (by kernel_rfl) (by kernel_rfl) (by kernel_rfl) (by kernel_rfl) (fun _ _ _ h => h) (Or.inl ⟨by rfl, ?_⟩) HH ?_
              rotate_left 1
              · (intro w hSw; (try dsimp only at hSw); (try simp only [List.getElem_toArray]); (try simp only [List.getElem_cons_succ]); (try simp only [List.getElem_cons_zero]); go_simp; try (with_reducible rfl))
              (try simp only [List.getElem_toArray]); (try simp only [List.getElem_cons_succ]); (try simp only [List.getElem_cons_zero]); (try simp only [Act.put, List.setIfInBounds_toArray, List.set_cons_zero, List.set_cons_succ])
              refine wpAnyL_one (i := 7) (by kernel_rfl) rfl rfl (fun K hK => ?_)
              (try simp only [List.getElem_toArray]); (try simp only [List.getElem_cons_succ]); (try simp only [List.getElem_cons_zero])
              go_simp
              have HH := R3.out.d2.1
              refine hK _ _ (fun hne => HH) ?_
              clear hK K
              (try simp only [List.getElem_toArray]); (try simp only [List.getElem_cons_succ]); (try simp only [List.getElem_cons_zero]); (try simp only [Act.put, List.setIfInBounds_toArray, List.set_cons_zero, List.set_cons_succ])
              refine wpAnyL_one (i := 8) (by kernel_rfl) rfl rfl (fun K hK => ?_)
              (try simp only [List.getElem_toArray]); (try simp only [List.getElem_cons_succ]); (try simp only [List.getElem_cons_zero])
              refine wp_def1 (.tmp 100) (.tmp 106) rfl rfl R3.out.own.d (t, z) w2.heap.size 1 rfl (heap_alloc_new w2 _) hdl2 R3.out.bel.size _ rfl ?_
              intro p3 c3 w3 ho3 hg3
              obtain ⟨hb3, hl3⟩ := R3.out.def1 ho3 rfl hg3
              obtain ⟨v0, v1, v2, v3, f0, f1, f2, f3⟩ := four_cells hb3
              have HL3 := Lib.hid hl3
              clear ho3 hg3 hb3 hl3
              have HH := v2
              refine hK _ _ (fun hne => HH) ?_
              clear hK K
              (try simp only [Act.put, List.setIfInBounds_toArray, List.set_cons_zero, List.set_cons_succ])
              refine wpAnyL_take (i := 9) (v := ?_) rfl (by kernel_rfl) (by kernel_rfl) (by kernel_rfl) (by kernel_rfl) (fun _ _ _ h => h) (Or.inl ⟨by rfl, ?_⟩) HH ?_
              rotate_left 1
              · (intro w hSw; (try dsimp only at hSw); (try simp only [List.getElem_toArray]); (try simp only [List.getElem_cons_succ]); (try simp only [List.getElem_cons_zero]); go_simp; try (with_reducible rfl))
              (try simp only [List.getElem_toArray]); (try simp only [List.getElem_cons_succ]); (try simp only [List.getElem_cons_zero]); (try simp only [Act.put, List.setIfInBounds_toArray, List.set_cons_zero, List.set_cons_succ])
              refine wpAnyL_one (i := 10) (by kernel_rfl) rfl rfl (fun K hK => ?_)
              (try simp only [List.getElem_toArray]); (try simp only [List.getElem_cons_succ]); (try simp only [List.getElem_cons_zero])
              go_simp
              refine hK _ _ (fun hne => absurd rfl hne) ?_
              clear hK K
              (try simp only [Act.put])
              refine wpAnyL_done (by kernel_rfl) ?_ _
              refine NoPanic.normal ?_
              go_wp2
              go_roundw
              case rel => exact ⟨k + 1, _, ds ++ [(t, z)], S2, by omega, by go_num, by have := HDL.out; simp; omega, HL3, hP3⟩
              case measure => simp [intOf]; omega
            · have HX := Lib.hid (show lDefs (zs.take nb) m2 (m0 + m1, false) = (ds, (p, bad)) by
                rw [HP.out, lDefs_stop (by
                  by_cases h : k < m2
                  · exact Or.inr (by cases bad with | true => rfl | false => exact absurd ⟨h, rfl⟩ hgo)
                  · exact Or.inl (by omega)), List.append_nil])
              go_upto_region 16 with (fail)
              go_cut [96] (fun s W => s = .bool false ∧ W = wr)
              case first =>
                by_cases hlt : k < m2
                · have hb : bad = true := by cases bad with | true => rfl | false => exact absurd ⟨hlt, rfl⟩ hgo
                  subst hb
                  go_wp2
                  go_meet
                  exact ⟨rfl, rfl⟩
                · have d2 : decide ((k : Int) < (m2 : Int)) = false := decide_eq_false (by omega)
                  go_wp2
                  go_meet
                  exact ⟨rfl, rfl⟩
              case rest =>
                obtain ⟨rfl, hw⟩ := hcut
                have hw2 := hw.symm
                clear hw
                subst hw2
                clear y2 c2 hgo hdl HP
                generalize (p, bad) = S0 at *
                go_wp2
                go_loopw [10] (fun i W => ∃ (k : Nat) (q : Pl) (ks : List (Txt × Txt × Int)) (S : St), k ≤ m3 ∧ i = .int .i64 k ∧ ks.length = k ∧ Hid (RdSt w w.heap.size (w.heap.size + 1) ob rd m0 m1 m2 m3 (zs.take nb) q ⟨zs.take m0, (zs.drop m0).take m1, ds, ks⟩ S W) ∧ Hid (lLinks (zs.take nb) m3 S0 = (ks ++ (lLinks (zs.take nb) (m3 - k) S).1, (lLinks (zs.take nb) (m3 - k) S).2))) (fun i _ => m3 - (intOf i).toNat)
                case atStart => exact ⟨0, q, [], S0, Nat.zero_le _, rfl, rfl, HR, Lib.hid (by simp)⟩
                case round =>
                  clear HR
                  obtain ⟨k, q, ks, ⟨p, bad⟩, hk, rfl, hdl, HR, HP⟩ := hrel
                  obtain ⟨-, -, -, y3, -⟩ := four_cells HR.out.many
                  obtain ⟨ra, rc, -, -, c2, -, -, -, -⟩ := rf_cells HR.out.rd
                  by_cases hgo : k < m3 ∧ bad = false
                  · obtain ⟨hlt, rfl⟩ := hgo
                    go_upto_region 22 with (fail)
                    have R0 := Lib.hid (HR.out.below (show Below wr.heap.size wr wr.drew from below_drewN wr 1))
                    have ht := text_rf R0.out.rd HLB.out HZB.out
                    have ht2 := fun (V : World) (h : RfAt w.heap.size V rd (zs.take nb) (lt (zs.take nb) (p, false)).2) => text_rf h HLB.out HZB.out
                    have hnm := fun (V : World) (h : RfAt w.heap.size V rd (zs.take nb) (lt (zs.take nb) (lt (zs.take nb) (p, false)).2).2) => number_rf h HLB.out HZB.out
                    have hD : lLink (zs.take nb) (p, false) = (((lt (zs.take nb) (p, false)).1, (lt (zs.take nb) (lt (zs.take nb) (p, false)).2).1, (ln (zs.take nb) (lt (zs.take nb) (lt (zs.take nb) (p, false)).2).2).1), (ln (zs.take nb) (lt (zs.take nb) (lt (zs.take nb) (p, false)).2).2).2) := rfl
                    have hgo : Hid (lLinks (zs.take nb) (m3 - k) (p, false) = ((lLink (zs.take nb) (p, false)).1 :: (lLinks (zs.take nb) (m3 - (k + 1)) (lLink (zs.take nb) (p, false)).2).1, (lLinks (zs.take nb) (m3 - (k + 1)) (lLink (zs.take nb) (p, false)).2).2)) := Lib.hid (by
                      rw [show m3 - k = (m3 - (k + 1)) + 1 by omega]
                      exact lLinks_go rfl)
                    rw [hD] at hgo
                    clear hD
                    generalize (lt (zs.take nb) (p, false)).1 = t at *
                    generalize (lt (zs.take nb) (p, false)).2 = S1 at *
                    generalize (lt (zs.take nb) S1).1 = u at *
                    generalize (lt (zs.take nb) S1).2 = S2 at *
                    generalize (ln (zs.take nb) S2).1 = z at *
                    generalize (ln (zs.take nb) S2).2 = S3 at *
                    have hP3 := Lib.hid (show lLinks (zs.take nb) m3 S0 = ((ks ++ [(t, u, z)]) ++ (lLinks (zs.take nb) (m3 - (k + 1)) S3).1, (lLinks (zs.take nb) (m3 - (k + 1)) S3).2) by
                      rw [HP.out, hgo.out]
                      simp)
                    have hdl2 : ks.length ≤ 1000000 := by omega
                    have HH : wr.drew.cell? ⟨ob, 3, none⟩ = some (.slice q.la ks.length q.lc) := R0.out.l3.1
                    have HDL := Lib.hid hdl
                    clear hdl hgo y3 c2 HR HP
                    refine wp_region_noPanic ?_
                    refine wp_region_last 12 (fun V => V.cell? ⟨ob, 3, none⟩ = some (.slice q.la ks.length q.lc)) (by kernel_rfl) ?_
                    refine wpAnyL_take (i := 0) (v := ?_) rfl (by kernel_rfl) (by kernel_rfl) (by kernel_rfl) (by kernel_rfl) (fun _ _ _ h => h) (Or.inl ⟨by rfl, ?_⟩) HH ?_
                    rotate_left 1
                    · (intro w hSw; (try dsimp only at hSw); (try simp only [List.getElem_toArray]); (try simp only [List.getElem_cons_succ]); (try simp only [List.getElem_cons_zero]); go_simp; try (with_reducible rfl))
                    (try simp only [List.getElem_toArray]); (try simp only [List.getElem_cons_succ]); (try simp only [List.getElem_cons_zero]); (try simp only [Act.put, List.setIfInBounds_toArray, List.set_cons_zero, List.set_cons_succ])
                    refine wpAnyL_take (i := 1) (v := ?_) rfl (by kernel_rfl) (by kernel_rfl) (by kernel_rfl) (by kernel_rfl) (fun _ _ _ h => h) (Or.inl ⟨by rfl, ?_⟩) HH ?_
                    rotate_left 1
                    · (intro w hSw; (try dsimp only at hSw); (try simp only [List.getElem_toArray]); (try simp only [List.getElem_cons_succ]); (try simp only [List.getElem_cons_zero]); go_simp; try (with_reducible rfl))
                    (try simp only [List.getElem_toArray]); (try simp only [List.getElem_cons_succ]); (try simp only [List.getElem_cons_zero]); (try simp only [Act.put, List.setIfInBounds_toArray, List.set_cons_zero, List.set_cons_succ])
                    refine wpAnyL_take (i := 2) (v := ?_) rfl (by kernel_rfl) (by kernel_rfl) (by kernel_rfl) (by kernel_rfl) (fun _ _ _ h => h) (Or.inl ⟨by rfl, ?_⟩) HH ?_
                    rotate_left 1
                    · (intro w hSw; (try dsimp only at hSw); (try simp only [List.getElem_toArray]); (try simp only [List.getElem_cons_succ]); (try simp only [List.getElem_cons_zero]); go_simp; try (with_reducible rfl))
                    (try simp only [List.getElem_toArray]); (try simp only [List.getElem_cons_succ]); (try simp only [List.getElem_cons_zero]); (try simp only [Act.put, List.setIfInBounds_toArray, List.set_cons_zero, List.set_cons_succ])
                    refine wpAnyL_take (i := 4) (v := ?_) rfl (by kernel_rfl) (by kernel_rfl) (by kernel_rfl) (by kernel_rfl) (fun _ _ _ h => h) (Or.inl ⟨by rfl, ?_⟩) HH ?_
                    rotate_left 1
                    · (intro w hSw; (try dsimp only at hSw); (try simp only [List.getElem_toArray]); (try simp only [List.getElem_cons_succ]); (try simp only [List.getElem_cons_zero]); go_simp; try (with_reducible rfl))
                    (try simp only [List.getElem_toArray]); (try simp only [List.getElem_cons_succ]); (try simp only [List.getElem_cons_zero]); (try simp only [Act.put, List.setIfInBounds_toArray, List.set_cons_zero, List.set_cons_succ])
                    refine wpAnyL_take (i := 6) (v := ?_) rfl (by kernel_rfl) (by kernel_rfl) (by kernel_rfl) (by kernel_rfl) (fun _ _ _ h => h) (Or.inl ⟨by rfl, ?_⟩) HH ?_
                    rotate_left 1
                    · (intro w hSw; (try dsimp only at hSw); (try simp only [List.getElem_toArray]); (try simp only [List.getElem_cons_succ]); (try simp only [List.getElem_cons_zero]); go_simp; try (with_reducible rfl))
                    (try simp only [List.getElem_toArray]); (try simp only [List.getElem_cons_succ]); (try simp only [List.getElem_cons_zero]); (try simp only [Act.put, List.setIfInBounds_toArray, List.set_cons_zero, List.set_cons_succ])
                    refine wpAnyL_one (i := 3) (by kernel_rfl) rfl rfl (fun K hK => ?_)
                    (try simp only [List.getElem_toArray]); (try simp only [List.getElem_cons_succ]); (try simp only [List.getElem_cons_zero])
                    go_simp
                    go_at_call 32; (refine ht.mono ?_); rintro e w1 ⟨rfl, r1, g1⟩; have R1 := Lib.hid (R0.out.reader r1 g1); clear r1 g1
                    have HH := R1.out.l3.1
                    refine hK _ _ (fun hne => HH) ?_
                    clear hK K
                    (try simp only [List.getElem_toArray]); (try simp only [List.getElem_cons_succ]); (try simp only [List.getElem_cons_zero]); (try simp only [Act.put, List.setIfInBounds_toArray, List.set_cons_zero, List.set_cons_succ])
                    refine wpAnyL_one (i := 5) (by kernel_rfl) rfl rfl (fun K hK => ?_)
                    (try simp only [List.getElem_toArray]); (try simp only [List.getElem_cons_succ]); (try simp only [List.getElem_cons_zero])
                    go_simp
                    go_at_call 32; (refine (ht2 _ R1.out.rd).mono ?_); rintro e w1b ⟨rfl, r1, g1⟩; have R1b := Lib.hid (R1.out.reader r1 g1); clear r1 g1
                    have HH := R1b.out.l3.1
                    refine hK _ _ (fun hne => HH) ?_
                    clear hK K
                    (try simp only [List.getElem_toArray]); (try simp only [List.getElem_cons_succ]); (try simp only [List.getElem_cons_zero]); (try simp only [Act.put, List.setIfInBounds_toArray, List.set_cons_zero, List.set_cons_succ])
                    refine wpAnyL_one (i := 7) (by kernel_rfl) rfl rfl (fun K hK => ?_)
                    (try simp only [List.getElem_toArray]); (try simp only [List.getElem_cons_succ]); (try simp only [List.getElem_cons_zero])
                    go_simp
                    go_at_call 33; (refine (hnm _ R1b.out.rd).mono ?_); rintro e w2 ⟨rfl, r2, g2⟩; have R2 := Lib.hid (R1b.out.reader r2 g2); have R3 := Lib.hid (R2.out.below (one_new w2 (.cells #[.string (bs t), .string (bs u), .int .i64 z] 43))); clear r2 g2
                    have HH := R2.out.l3.1
                    refine hK _ _ (fun hne => HH) ?_
                    clear hK K
                    (try simp only [List.getElem_toArray]); (try simp only [List.getElem_cons_succ]); (try simp only [List.getElem_cons_zero]); (try simp only [Act.put, List.setIfInBounds_toArray, List.set_cons_zero, List.set_cons_succ])
                    refine wpAnyL_take (i := 8) (v := ?_) rfl (by kernel_rfl) (by kernel_rfl) (by kernel_rfl) (by kernel_rfl) (fun _ _ _ h => h) (Or.inl ⟨by rfl, ?_⟩) HH ?_
                    rotate_left 1
                    · (intro w hSw; (try dsimp only at hSw); (try simp only [List.getElem_toArray]); (try simp only [List.getElem_cons_succ]); (try simp only [List.getElem_cons_zero]); go_simp; try (with_reducible rfl))
                    (try simp only [List.getElem_toArray]); (try simp only [List.getElem_cons_succ]); (try simp only [List.getElem_cons_zero]); (try simp only [Act.put, List.setIfInBounds_toArray, List.set_cons_zero, List.set_cons_succ])
                    refine wpAnyL_one (i := 9) (by kernel_rfl) rfl rfl (fun K hK => ?_)
                    (try simp only [List.getElem_toArray]); (try simp only [List.getElem_cons_succ]); (try simp only [List.getElem_cons_zero])
                    go_simp
                    have HH := R3.out.l3.1
                    refine hK _ _ (fun hne => HH) ?_
                    clear hK K
                    (try simp only [List.getElem_toArray]); (try simp only [List.getElem_cons_succ]); (try simp only [List.getElem_cons_zero]); (try simp only [Act.put, List.setIfInBounds_toArray, List.set_cons_zero, List.set_cons_succ])
                    refine wpAnyL_one (i := 10) (by kernel_rfl) rfl rfl (fun K hK => ?_)
                    (try simp only [List.getElem_toArray]); (try simp only [List.getElem_cons_succ]); (try simp only [List.getElem_cons_zero])
                    refine wp_link1 (.tmp 123) (.tmp 131) rfl rfl R3.out.own.l (t, u, z) w2.heap.size 1 rfl (heap_alloc_new w2 _) hdl2 R3.out.bel.size _ rfl ?_
                    intro p3 c3 w3 ho3 hg3
                    obtain ⟨hb3, hl3⟩ := R3.out.link1 ho3 rfl hg3
                    obtain ⟨v0, v1, v2, v3, f0, f1, f2, f3⟩ := four_cells hb3
                    have HL3 := Lib.hid hl3
                    clear ho3 hg3 hb3 hl3
                    have HH := v3
                    refine hK _ _ (fun hne => HH) ?_
                    clear hK K
                    (try simp only [Act.put, List.setIfInBounds_toArray, List.set_cons_zero, List.set_cons_succ])
                    refine wpAnyL_take (i := 11) (v := ?_) rfl (by kernel_rfl) (by kernel_rfl) (by kernel_rfl) (by kernel_rfl) (fun _ _ _ h => h) (Or.inl ⟨by rfl, ?_⟩) HH ?_
                    rotate_left 1
                    · (intro w hSw; (try dsimp only at hSw); (try simp only [List.getElem_toArray]); (try simp only [List.getElem_cons_succ]); (try simp only [List.getElem_cons_zero]); go_simp; try (with_reducible rfl))
                    (try simp only [List.getElem_toArray]); (try simp only [List.getElem_cons_succ]); (try simp only [List.getElem_cons_zero]); (try simp only [Act.put, List.setIfInBounds_toArray, List.set_cons_zero, List.set_cons_succ])
                    refine wpAnyL_one (i := 12) (by kernel_rfl) rfl rfl (fun K hK => ?_)
                    (try simp only [List.getElem_toArray]); (try simp only [List.getElem_cons_succ]); (try simp only [List.getElem_cons_zero])
                    go_simp
                    refine hK _ _ (fun hne => absurd rfl hne) ?_
                    clear hK K
                    (try simp only [Act.put])
                    refine wpAnyL_done (by kernel_rfl) ?_ _
                    refine NoPanic.normal ?_
                    go_wp2
                    go_roundw
                    case rel => exact ⟨k + 1, _, ks ++ [(t, u, z)], S3, by omega, by go_num, by have := HDL.out; simp; omega, HL3, hP3⟩
                    case measure => simp [intOf]; omega
                  · have HX2 := Lib.hid (show lLinks (zs.take nb) m3 S0 = (ks, (p, bad)) by
                      rw [HP.out, lLinks_stop (by
                        by_cases h : k < m3
                        · exact Or.inr (by cases bad with | true => rfl | false => exact absurd ⟨h, rfl⟩ hgo)
                        · exact Or.inl (by omega)), List.append_nil])
                    go_upto_region 20 with (fail)
                    go_cut [119] (fun s W => s = .bool false ∧ W = wr)
                    case first =>
                      by_cases hlt : k < m3
                      · have hb : bad = true := by cases bad with | true => rfl | false => exact absurd ⟨hlt, rfl⟩ hgo
                        subst hb
                        go_wp2
                        go_meet
                        exact ⟨rfl, rfl⟩
                      · have d2 : decide ((k : Int) < (m3 : Int)) = false := decide_eq_false (by omega)
                        go_wp2
                        go_meet
                        exact ⟨rfl, rfl⟩
                    case rest =>
                      obtain ⟨rfl, hw⟩ := hcut
                      have hw2 := hw.symm
                      clear hw
                      subst hw2
                      clear y3 c2 hgo hdl HP
                      have hO : (⟨zs.take m0, (zs.drop m0).take m1, ds, ks⟩ : Ob) = lOb zs ∧ (lObL zs).2 = (p, bad) := by
                        have e1 : lObD zs = lDefs (zs.take nb) m2 (m0 + m1, false) := by unfold lObD; rw [HNB.out, hmp.out.1, hmp.out.2.1, hmp.out.2.2.1]
                        have e2 : lObL zs = lLinks (zs.take nb) m3 S0 := by unfold lObL; rw [HNB.out, hmp.out.2.2.2, e1, HX.out]
                        unfold lOb
                        rw [hmp.out.1, hmp.out.2.1, e1, e2, HX.out, HX2.out]
                        exact ⟨rfl, rfl⟩
                      have HO := Lib.hid hO
                      have hfit := lOb_fit HZ.out HLEN.out (by rw [hmp.out.2.2.1]; omega) (by rw [hmp.out.2.2.2]; omega)
                      rw [← hO.1] at hfit
                      have HF := Lib.hid hfit
                      clear hO hfit
                      generalize hT : zs.take m0 = tx at *
                      generalize hST : (zs.drop m0).take m1 = st at *
                      clear hT hST
                      obtain ⟨a0, a1, a2, a3, -⟩ := four_cells HR.out.box
                      obtain ⟨ra, rc, c0, c1, c2, -, -, -, -⟩ := rf_cells HR.out.rd
                      have HTB := Lib.hid (show (zs.take nb).length = nb by have := HNB.out; simp; omega)
                      rw [HTB.out] at c0
                      go_upto_region 23 with (fail)
                      by_cases hbad : bad = true ∨ p ≠ nb
                      · have hno : Hid (obOk zs = false) := Lib.hid (by
                          unfold obOk
                          rw [HO.out.2]
                          rcases hbad with h | h
                          · simp [h]
                          · have hne : (p == zs.length - 5) = false := by rw [HNB.out]; exact beq_eq_false_iff_ne.2 h
                            simp only [hne, Bool.and_false, Bool.false_and])
                        cases bad with
                        | true =>
                          go_quiet (fail)
                          have R9 := Lib.hid (HR.out.below (below_drewN wr nq))
                          generalize wr.drewN nq = V at *
                          obtain ⟨r0, r1, r2, r3, f0, f1, f2, f3⟩ := four_cells R9.out.res
                          clear a0 a1 a2 a3 c0 c1 c2 hbad
                          go_wp2
                          change bodyPost _ _ _ _ _ (setOb V w.heap.size (.slice none 0 0) (.slice none 0 0) (.slice none 0 0) (.slice none 0 0))
                          obtain ⟨g0, g1, g2, g3, -⟩ := four_cells (setOb_row R9.out.res (.slice none 0 0) (.slice none 0 0) (.slice none 0 0) (.slice none 0 0))
                          have hg := grown_below R9.out.bel R9.out.bel.size (setOb_grown V w.heap.size (.slice none 0 0) (.slice none 0 0) (.slice none 0 0) (.slice none 0 0)) (Nat.le_refl _)
                          generalize setOb V w.heap.size (.slice none 0 0) (.slice none 0 0) (.slice none 0 0) (.slice none 0 0) = V5 at *
                          exact bodyPost_ret (v := .tuple #[OvNil, .bool false]) (by simp [results, Try.results23, go_sem, g0, g1, g2, g3]) rfl ⟨hg, Or.inr ⟨hno.out, nilPl, nilOb, rfl⟩⟩
                        | false =>
                          have hpn : p ≠ nb := hbad.resolve_left (by simp)
                          have e1 : ((p : Int) != (nb : Int)) = true := bne_iff_ne.2 (by omega)
                          have e2 : ((p : Int) == (nb : Int)) = false := beq_eq_false_iff_ne.2 (by omega)
                          go_quiet (fail)
                          have R9 := Lib.hid (HR.out.below (below_drewN wr nq))
                          generalize wr.drewN nq = V at *
                          obtain ⟨r0, r1, r2, r3, f0, f1, f2, f3⟩ := four_cells R9.out.res
                          clear a0 a1 a2 a3 c0 c1 c2 hbad hpn
                          go_wp2
                          change bodyPost _ _ _ _ _ (setOb V w.heap.size (.slice none 0 0) (.slice none 0 0) (.slice none 0 0) (.slice none 0 0))
                          obtain ⟨g0, g1, g2, g3, -⟩ := four_cells (setOb_row R9.out.res (.slice none 0 0) (.slice none 0 0) (.slice none 0 0) (.slice none 0 0))
                          have hg := grown_below R9.out.bel R9.out.bel.size (setOb_grown V w.heap.size (.slice none 0 0) (.slice none 0 0) (.slice none 0 0) (.slice none 0 0)) (Nat.le_refl _)
                          generalize setOb V w.heap.size (.slice none 0 0) (.slice none 0 0) (.slice none 0 0) (.slice none 0 0) = V5 at *
                          exact bodyPost_ret (v := .tuple #[OvNil, .bool false]) (by simp [results, Try.results23, go_sem, g0, g1, g2, g3]) rfl ⟨hg, Or.inr ⟨hno.out, nilPl, nilOb, rfl⟩⟩
                      · obtain rfl : bad = false := by cases bad with | false => rfl | true => exact absurd (Or.inl rfl) hbad
                        have hp2 : nb = p := by
                          by_cases h : p = nb
                          · exact h.symm
                          · exact absurd (Or.inr h) hbad
                        subst hp2
                        clear hbad
                        have HS := Lib.hid (show ∀ V : World, Below wr.heap.size wr V → (V.cell? ⟨ob, 0, none⟩ = some (.slice q.ta tx.length q.tc) ∧ V.cell? ⟨ob, 1, none⟩ = some (.slice q.sa st.length q.sc) ∧ V.cell? ⟨ob, 2, none⟩ = some (.slice q.da ds.length q.dc) ∧ V.cell? ⟨ob, 3, none⟩ = some (.slice q.la ks.length q.lc)) ∧
                            V.cell? ⟨rd, 0, none⟩ = some (.slice ra nb rc) ∧ V.cell? ⟨rd, 1, none⟩ = some (.int .i64 nb) ∧ V.cell? ⟨rd, 2, none⟩ = some (.bool false) from fun V hV =>
                          have l1 := World.block_lt_of_cell? wr _ a0
                          have l2 := World.block_lt_of_cell? wr _ c0
                          ⟨⟨(hV.cell (p := ⟨ob, 0, none⟩) l1).trans a0, (hV.cell (p := ⟨ob, 1, none⟩) l1).trans a1, (hV.cell (p := ⟨ob, 2, none⟩) l1).trans a2, (hV.cell (p := ⟨ob, 3, none⟩) l1).trans a3⟩, (hV.cell (p := ⟨rd, 0, none⟩) l2).trans c0, (hV.cell (p := ⟨rd, 1, none⟩) l2).trans c1, (hV.cell (p := ⟨rd, 2, none⟩) l2).trans c2⟩)
                        have hmay := fun (V : World) (h : Below wr.heap.size wr V) => refMay_full (w := V) (q := q) (o := (⟨tx, st, ds, ks⟩ : Ob)) ((HR.out.below h).own.obIn) HF.out
                        have e1 : ((nb : Int) != (nb : Int)) = false := by simp
                        have D1 := Lib.hid (show Below wr.heap.size wr wr.drew from below_drewN wr 1)
                        clear a0 a1 a2 a3 c0 c1 c2
                        cases hM : mayOb (⟨tx, st, ds, ks⟩ : Ob) with
                        | false =>
                          have hno : Hid (obOk zs = false) := Lib.hid (by
                            unfold obOk
                            rw [← HO.out.1, hM]
                            simp)
                          rw [hM] at hmay
                          clear hM
                          go_region_held3 (fun V => (V.cell? ⟨ob, 0, none⟩ = some (.slice q.ta tx.length q.tc) ∧ V.cell? ⟨ob, 1, none⟩ = some (.slice q.sa st.length q.sc) ∧ V.cell? ⟨ob, 2, none⟩ = some (.slice q.da ds.length q.dc) ∧ V.cell? ⟨ob, 3, none⟩ = some (.slice q.la ks.length q.lc)) ∧
                            V.cell? ⟨rd, 0, none⟩ = some (.slice ra nb rc) ∧ V.cell? ⟨rd, 1, none⟩ = some (.int .i64 nb) ∧ V.cell? ⟨rd, 2, none⟩ = some (.bool false)) (exact HS.out _ D1.out)
                            ((first
                              | (go_at_call 24; (refine (hmay _ D1.out).mono ?_); rintro e w5 ⟨rfl, b5⟩; have D1 := Lib.hid (bel2 D1.out b5); clear b5)
                              | fail))
                          have R9 := Lib.hid (HR.out.below D1.out)
                          obtain ⟨r0, r1, r2, r3, f0, f1, f2, f3⟩ := four_cells R9.out.res
                          go_wp2
                          change bodyPost _ _ _ _ _ (setOb w5 w.heap.size (.slice none 0 0) (.slice none 0 0) (.slice none 0 0) (.slice none 0 0))
                          obtain ⟨g0, g1, g2, g3, -⟩ := four_cells (setOb_row R9.out.res (.slice none 0 0) (.slice none 0 0) (.slice none 0 0) (.slice none 0 0))
                          have hg := grown_below R9.out.bel R9.out.bel.size (setOb_grown w5 w.heap.size (.slice none 0 0) (.slice none 0 0) (.slice none 0 0) (.slice none 0 0)) (Nat.le_refl _)
                          generalize setOb w5 w.heap.size (.slice none 0 0) (.slice none 0 0) (.slice none 0 0) (.slice none 0 0) = V5 at *
                          exact bodyPost_ret (v := .tuple #[OvNil, .bool false]) (by simp [results, Try.results23, go_sem, g0, g1, g2, g3]) rfl ⟨hg, Or.inr ⟨hno.out, nilPl, nilOb, rfl⟩⟩
                        | true =>
                          have HMT := Lib.hid hM
                          have HLE := Lib.hid ((may_iff (⟨tx, st, ds, ks⟩ : Ob)).1 hM).sz
                          have hwd := fun (V : World) (h : Below wr.heap.size wr V) => refObWords_yes q (⟨tx, st, ds, ks⟩ : Ob) V ((HR.out.below h).own.obIn) HF.out hM
                          rw [hM] at hmay
                          unfold WYes at hwd
                          clear hM
                          go_region_held3 (fun V => (V.cell? ⟨ob, 0, none⟩ = some (.slice q.ta tx.length q.tc) ∧ V.cell? ⟨ob, 1, none⟩ = some (.slice q.sa st.length q.sc) ∧ V.cell? ⟨ob, 2, none⟩ = some (.slice q.da ds.length q.dc) ∧ V.cell? ⟨ob, 3, none⟩ = some (.slice q.la ks.length q.lc)) ∧
                            V.cell? ⟨rd, 0, none⟩ = some (.slice ra nb rc) ∧ V.cell? ⟨rd, 1, none⟩ = some (.int .i64 nb) ∧ V.cell? ⟨rd, 2, none⟩ = some (.bool false)) (exact HS.out _ D1.out)
                            ((first
                              | (go_at_call 24; (refine (hmay _ D1.out).mono ?_); rintro e w5 ⟨rfl, b5⟩; have D1 := Lib.hid (bel2 D1.out b5); clear b5)
                              | fail))
                          clear hmay e1
                          obtain ⟨⟨a0, a1, a2, a3⟩, -⟩ := HS.out _ D1.out
                          go_upto_region 26 with (first
                            | (go_at_call 12; (refine (hwd _ D1.out).mono ?_); rintro e w6 ⟨v6, rfl, o6, b6⟩; obtain ⟨p6, c6, rfl, n6, -⟩ := own_slice o6; have N6 := Lib.hid n6; have D3 := Lib.hid (bel2 D1.out b6); clear o6 n6 b6))
                          clear a0 a1 a2 a3 hwd
                          have D1 := Lib.hid (show Below wr.heap.size wr w6.drew from bel2 D3.out (below_drewN w6 1))
                          have N7 := Lib.hid (show NumsIn .u64 w6.drew p6 (wOb (⟨tx, st, ds, ks⟩ : Ob)) from N6.out.below (below_drewN w6 1))
                          have NZ := Lib.hid (show NumsIn .u64 w6.drew (some ⟨g, o, none⟩) zs from HN.out.below (HR.out.below D1.out).bel)
                          go_region_held3 (fun V => V.cell? ⟨ob, 0, none⟩ = some (.slice q.ta tx.length q.tc) ∧ V.cell? ⟨ob, 1, none⟩ = some (.slice q.sa st.length q.sc) ∧ V.cell? ⟨ob, 2, none⟩ = some (.slice q.da ds.length q.dc) ∧ V.cell? ⟨ob, 3, none⟩ = some (.slice q.la ks.length q.lc))
                            (first | exact (HS.out _ D1.out).1 | exact ob_kept (HR.out.below D1.out).box HR.out.ro _ _ _ _ | fail)
                            ((first
                              | (go_at_call 15; (refine (same_nums (xs := wOb (⟨tx, st, ds, ks⟩ : Ob)) (ys := zs) N7.out NZ.out HLE.out rfl rfl).mono ?_); rintro e w8 ⟨rfl, n8, e8⟩; have D1 := Lib.hid (bel2 D1.out (drewN_below e8)); clear e8; have hq := four_cells (HR.out.below D1.out).res; obtain ⟨r0, r1, r2, r3, f0, f1, f2, f3⟩ := hq)
                              | fail))
                          have R9 := Lib.hid (HR.out.below D1.out)
                          go_wp2
                          change bodyPost _ _ _ _ _ (setOb w8 w.heap.size (.slice q.ta tx.length q.tc) (.slice q.sa st.length q.sc) (.slice q.da ds.length q.dc) (.slice q.la ks.length q.lc))
                          obtain ⟨g0, g1, g2, g3, -⟩ := four_cells (setOb_row R9.out.res (.slice q.ta tx.length q.tc) (.slice q.sa st.length q.sc) (.slice q.da ds.length q.dc) (.slice q.la ks.length q.lc))
                          have hg := grown_below R9.out.bel R9.out.bel.size (setOb_grown w8 w.heap.size (.slice q.ta tx.length q.tc) (.slice q.sa st.length q.sc) (.slice q.da ds.length q.dc) (.slice q.la ks.length q.lc)) (Nat.le_refl _)
                          have hin := Lib.hid (own_keep R9.out.own (setOb_grown w8 w.heap.size (.slice q.ta tx.length q.tc) (.slice q.sa st.length q.sc) (.slice q.da ds.length q.dc) (.slice q.la ks.length q.lc)) (fun g e => by cases e; exact ⟨_, _, _, R9.out.res, by decide, by decide, by decide⟩)).obIn
                          clear r0 r1 r2 r3 f0 f1 f2 f3
                          generalize setOb w8 w.heap.size (.slice q.ta tx.length q.tc) (.slice q.sa st.length q.sc) (.slice q.da ds.length q.dc) (.slice q.la ks.length q.lc) = V5 at *
                          refine bodyPost_ret (v := .tuple #[OV q (⟨tx, st, ds, ks⟩ : Ob), .bool (decide (wOb (⟨tx, st, ds, ks⟩ : Ob) = zs))]) (by simp [results, Try.results23, go_sem, g0, g1, g2, g3]) rfl ⟨hg, ?_⟩
                          by_cases hE : wOb (⟨tx, st, ds, ks⟩ : Ob) = zs
                          · refine Or.inl ⟨?_, q, by rw [← HO.out.1, decide_eq_true hE], by rw [← HO.out.1]; exact hin.out⟩
                            unfold obOk
                            rw [map_yes (by omega) HM.out HJ.out (by rw [hmp.out.1, hmp.out.2.1]; exact hsum), HO.out.2, ← HO.out.1, HMT.out, HNB.out]
                            simp [hE]
                          · refine Or.inr ⟨?_, q, (⟨tx, st, ds, ks⟩ : Ob), by rw [decide_eq_false hE]⟩
                            have hne : (wOb (lOb zs) == zs) = false := by rw [← HO.out.1]; exact beq_eq_false_iff_ne.2 hE
                            unfold obOk
                            rw [hne, Bool.and_false]

end Go.Proofs.Ytnlohmkgkihldaa.W
