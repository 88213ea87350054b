/-
  The law ObjectKnown: the ten objects that may not be, made in whatever order.
-/
import Derived.Test.YtnlohmkgkihldaaOCutsWalk
import Derived.Test.YtnlohmkgkihldaaFree
import Derived.Great.BuildSlice
import Derived.Deep.OwnRows
namespace Go.Proofs.Ytnlohmkgkihldaa.W
open Go.ChangeShapes Go.WideShapes Go.ChangeAt Go.RowKit
open Go.Proofs.Ytnlohmkgkihldaa.N (bs bs_data bs_of bs_size may may_pos retB)

/-- what a slot holds -/
inductive Sp
  | num (zs : List Int)
  | dv (d : Txt × Int)
  | ds (l : List (Txt × Int))
  | kv (k : Txt × Txt × Int)
  | ks (l : List (Txt × Txt × Int))
  | ob (o : Ob)
  | obs (l : List Ob)
  | is (v : Value)
  | pr (v : Value)
  | any
def ObAt4 (w : World) (g p : Nat) (q : Pl) (o : Ob) : Prop := w.cell? ⟨g, p, none⟩ = some (.slice q.ta o.text.length q.tc) ∧ w.cell? ⟨g, p + 1, none⟩ = some (.slice q.sa o.stat.length q.sc) ∧ w.cell? ⟨g, p + 2, none⟩ = some (.slice q.da o.defs.length q.dc) ∧ w.cell? ⟨g, p + 3, none⟩ = some (.slice q.la o.links.length q.lc)
def ObsAt (w : World) (v : Value) (l : List Ob) : Prop := ∃ g p c, v = .slice (some ⟨g, p, none⟩) l.length c ∧ g < w.heap.size ∧ ∀ j (h : j < l.length), ∃ q, ObAt4 w g (p + j * 4) q l[j] ∧ ObIn w q l[j]
def FS (w : World) (v : Value) : Sp → Prop
  | .num zs => ∃ a c, v = .slice a zs.length c ∧ NumsIn .u64 w a zs
  | .dv d => v = .agg #[.string (bs d.1), .int .i64 d.2]
  | .ds l => ∃ a c, v = .slice a l.length c ∧ DRow w a l
  | .kv k => v = .agg #[.string (bs k.1), .string (bs k.2.1), .int .i64 k.2.2]
  | .ks l => ∃ a c, v = .slice a l.length c ∧ KRow w a l
  | .ob o => ∃ q, v = OV q o ∧ ObIn w q o
  | .obs l => ObsAt w v l
  | .is u => v = u
  | .pr u => ∃ x, v = .tuple #[x, u]
  | .any => True
theorem ObAt4.below {w w' : World} {g p : Nat} {q : Pl} {o : Ob} (h : ObAt4 w g p q o) (hg : g < w.heap.size) (hb : Below w.heap.size w w') : ObAt4 w' g p q o :=
  ⟨(hb.cell (p := ⟨g, p, none⟩) hg).trans h.1, (hb.cell (p := ⟨g, p + 1, none⟩) hg).trans h.2.1, (hb.cell (p := ⟨g, p + 2, none⟩) hg).trans h.2.2.1, (hb.cell (p := ⟨g, p + 3, none⟩) hg).trans h.2.2.2⟩
theorem ObsAt.below {w w' : World} {v : Value} {l : List Ob} (h : ObsAt w v l) (hb : Below w.heap.size w w') : ObsAt w' v l := by
  obtain ⟨g, p, c, e, hg, hc⟩ := h
  exact ⟨g, p, c, e, Nat.lt_of_lt_of_le hg hb.size, fun j hj => by
    obtain ⟨q, h1, h2⟩ := hc j hj
    exact ⟨q, h1.below hg hb, h2.below hb⟩⟩
theorem FS.below {w w' : World} {v : Value} {s : Sp} (h : FS w v s) (hb : Below w.heap.size w w') : FS w' v s := by
  cases s with
  | num zs => obtain ⟨a, c, e, h⟩ := h; exact ⟨a, c, e, h.below hb⟩
  | dv d => exact h
  | ds l => obtain ⟨a, c, e, h⟩ := h; exact ⟨a, c, e, h.below hb⟩
  | kv k => exact h
  | ks l => obtain ⟨a, c, e, h⟩ := h; exact ⟨a, c, e, h.below hb⟩
  | ob o => obtain ⟨q, e, h⟩ := h; exact ⟨q, e, h.below hb⟩
  | obs l => exact ObsAt.below h hb
  | is u => exact h
  | pr u => exact h
  | any => trivial

def kF (sp : Nat → Sp) (t : Nat) (v : Value) (w : World) : Prop := FS w v (sp t)
/-- an operation of such a region: what it does, given what it reads -/
def KDo (sp : Nat → Sp) (dl : List Nat) (o : Oper) : Prop := ∀ a w, (∀ t ∈ tmpsOf o, t ∈ dl → kF sp t (a.eval (.tmp t)) w) → Does Try.prog (kF sp) o a w
def AllK (sp : Nat → Sp) (dl : List Nat) : List Oper → Prop
  | [] => True
  | o :: r => KDo sp dl o ∧ AllK sp dl r
theorem allK_mem {sp : Nat → Sp} {dl : List Nat} : ∀ {l : List Oper}, AllK sp dl l → ∀ o ∈ l, KDo sp dl o
  | [], _, o, h => by cases h
  | x :: r, hA, o, h => by
    rcases List.mem_cons.1 h with rfl | h
    · exact hA.1
    · exact allK_mem hA.2 o h
/-- a region of such operations -/
theorem wp_known {id : Nat} {ops : Array Oper} {Q : Exit → Act → World → Prop} {a0 : Act} {w0 : World} (sp : Nat → Sp) (dl : List Nat) (hok : freeOk ops dl a0.tmps.size = true) (hA : AllK sp dl ops.toList)
    (hfin : ∀ V w, (∀ t ∈ dl, FS w (V t) (sp t)) → Below w0.heap.size w0 w → Q .normal (puts V dl a0) w) : (Code.region id ops true).wp Try.prog Q a0 w0 :=
  wp_free (by kernel_rfl) dl (kF sp) hok (fun _ _ _ _ h hb => FS.below h hb) (fun o ho a w _ _ hF => allK_mem hA o ho a w hF) hfin

section
variable {sp : Nat → Sp} {dl : List Nat}
theorem kf_of {d : Nat} {v : Value} {w : World} {s : Sp} (h : sp d = s) (hf : FS w v s) : kF sp d v w := by unfold kF; rw [h]; exact hf
theorem does_build {o : Oper} {a : Act} {w : World} {t d : Nat} {parts : Array (Nat × Operand)} (ho : o.op = .build t parts) (hd : o.dst = some d) (vs : List (Nat × Value)) (hp : (parts.map fun (i, x) => (i, a.eval x)).toList = vs) {cells : Array Value} (hv : Try.prog.built t vs = some cells) (hf : kF sp d (.agg cells) w) : Does Try.prog (kF sp) o a w := by
  refine does_run (.agg cells) w ?_ (fun d' h => ?_) (Below.refl _ _)
  · unfold execOp
    simp only [ho, Sem.run_bind, run_build w t _ cells (by rw [hp]; exact hv), Result.andThen_ok]
    rfl
  · rw [hd] at h; cases h; exact hf
theorem does_row {o : Oper} {a : Act} {w : World} {t e d len : Nat} {parts : Array (Nat × Operand)} (ho : o.op = .buildSlice t len parts) (hd : o.dst = some d) (vs : List (Nat × Value)) (hp : (parts.map fun (i, x) => (i, a.eval x)).toList = vs) {cells : Array Value} {z : Value} {size bytes : Nat}
    (hu : Try.prog.underlying t = some (.slice e)) (hinfo : (Try.prog.info? e).map (fun i => (i.zero, i.size, i.bytes)) = some (some z, size, bytes)) (hsmall : len * size ≤ 1000) (hpos : 0 < len * size)
    (h : Instr.fill (fun i => some (i * size, size)) ((Array.range (len * size)).map (z.cells[· % z.cells.size]!)) vs = some cells)
    (hf : kF sp d (.slice (some ⟨w.heap.size, 0, none⟩) len len) (w.alloc (.cells cells e))) : Does Try.prog (kF sp) o a w := by
  obtain ⟨i0, hi, hz0, hz1, hz2⟩ := info_parts hinfo
  subst hz1
  refine does_run (.slice (some ⟨w.heap.size, 0, none⟩) len len) (w.alloc (.cells cells e)) ?_ (fun d' h => ?_) (one_new w (.cells cells e))
  · unfold execOp
    simp only [ho, Sem.run_bind, run_buildSlice w t e len _ cells i0 z hu hi hz0 (by omega) (by omega) (by rw [hp]; exact h), Result.andThen_ok]
    rfl
  · rw [hd] at h; cases h; exact hf

theorem kn_make {o : Oper} {d n : Nat} {m : Int} (hs : sp d = .num (List.replicate n 0)) (ho : o.op = .makeSlice 22 (.const (.int .i64 m)) (.const (.int .i64 m))) (hm : m = (n : Int)) (hn : n ≤ 100000) (hd : o.dst = some d) : KDo sp dl o := by
  intro a w _
  subst hm
  have hr := run_make_row' (P := Try.prog) 22 37 (.int .u64 0) 8 Try.underlying22 info_word rfl .i64 .i64 n (by omega) (by omega) w
  rw [made_row] at hr
  refine does_run (.slice (some ⟨w.heap.size, 0, none⟩) n n) (w.alloc (.cells (List.replicate n (Value.int .u64 0)).toArray 37)) ?_ (fun d' h => ?_) (one_new w (.cells (List.replicate n (Value.int .u64 0)).toArray 37))
  · unfold execOp
    simp only [ho, eval_const, Sem.run_bind, hr, Result.andThen_ok]
    rfl
  · rw [hd] at h
    cases h
    refine kf_of hs ⟨_, _, by rw [List.length_replicate], ?_⟩
    have := nums_new w (List.replicate n 0)
    rw [List.map_replicate] at this
    exact this
theorem kn_num {o : Oper} {d : Nat} {x : Int} (hs : sp d = .num [x]) (ho : o.op = .buildSlice 22 1 #[(0, .const (.int .u64 x))]) (hd : o.dst = some d) : KDo sp dl o := by
  intro a w _
  exact does_row ho hd [(0, .int .u64 x)] (by simp [eval_const]) Try.underlying22 info_word (by omega) (by omega) (cells := #[.int .u64 x]) (by kernel_rfl) (kf_of hs ⟨_, _, rfl, one_num w x⟩)
theorem kn_dv {o : Oper} {d : Nat} {x : Txt × Int} {parts : Array (Nat × Operand)} (vs : List (Nat × Value)) (hs : sp d = .dv x) (ho : o.op = .build 41 parts) (hp : ∀ a : Act, (parts.map fun (i, x) => (i, a.eval x)).toList = vs) (hb : Try.prog.built 41 vs = some #[.string (bs x.1), .int .i64 x.2]) (hd : o.dst = some d) : KDo sp dl o := by
  intro a w _
  exact does_build ho hd vs (hp a) hb (kf_of hs rfl)
theorem kn_kv {o : Oper} {d : Nat} {x : Txt × Txt × Int} {parts : Array (Nat × Operand)} (vs : List (Nat × Value)) (hs : sp d = .kv x) (ho : o.op = .build 43 parts) (hp : ∀ a : Act, (parts.map fun (i, x) => (i, a.eval x)).toList = vs) (hb : Try.prog.built 43 vs = some #[.string (bs x.1), .string (bs x.2.1), .int .i64 x.2.2]) (hd : o.dst = some d) : KDo sp dl o := by
  intro a w _
  exact does_build ho hd vs (hp a) hb (kf_of hs rfl)
/-- what is known of a slot that is read -/
theorem kn_in {o : Oper} {a : Act} {w : World} {t : Nat} {s : Sp} (hF : ∀ t ∈ tmpsOf o, t ∈ dl → kF sp t (a.eval (.tmp t)) w) (h1 : t ∈ tmpsOf o) (h2 : t ∈ dl) (hs : sp t = s) : FS w (a.eval (.tmp t)) s := by
  have := hF t h1 h2
  unfold kF at this
  rw [hs] at this
  exact this
theorem dcells {w : World} {l : List (Txt × Int)} {cs : Array Value} (h : ∀ j (h : j < l.length), cs[j * 2]? = some (.string (bs l[j].1)) ∧ cs[j * 2 + 1]? = some (.int .i64 l[j].2)) : DRow (w.alloc (.cells cs 41)) (some ⟨w.heap.size, 0, none⟩) l := fun _ =>
  ⟨_, _, rfl, by simp, fun j hj => by
    have := h j hj
    rw [Nat.zero_add]
    exact ⟨by rw [cell_of_row _ _ _ _ _ _ (heap_alloc_new w _)]; exact this.1, by rw [cell_of_row _ _ _ _ _ _ (heap_alloc_new w _)]; exact this.2⟩⟩
theorem kcells {w : World} {l : List (Txt × Txt × Int)} {cs : Array Value} (h : ∀ j (h : j < l.length), cs[j * 3]? = some (.string (bs l[j].1)) ∧ cs[j * 3 + 1]? = some (.string (bs l[j].2.1)) ∧ cs[j * 3 + 2]? = some (.int .i64 l[j].2.2)) : KRow (w.alloc (.cells cs 43)) (some ⟨w.heap.size, 0, none⟩) l := fun _ =>
  ⟨_, _, rfl, by simp, fun j hj => by
    have := h j hj
    rw [Nat.zero_add]
    exact ⟨by rw [cell_of_row _ _ _ _ _ _ (heap_alloc_new w _)]; exact this.1, by rw [cell_of_row _ _ _ _ _ _ (heap_alloc_new w _)]; exact this.2.1, by rw [cell_of_row _ _ _ _ _ _ (heap_alloc_new w _)]; exact this.2.2⟩⟩
theorem kn_d1 {o : Oper} {d s : Nat} {x : Txt × Int} (hs : sp d = .ds [x]) (h1 : sp s = .dv x) (h2 : s ∈ dl) (ho : o.op = .buildSlice 24 1 #[(0, .tmp s)]) (hd : o.dst = some d) : KDo sp dl o := by
  intro a w hF
  have e : a.eval (.tmp s) = _ := kn_in hF (by simp [tmpsOf, ho, Op.operands]) h2 h1
  exact does_row ho hd [(0, .agg #[.string (bs x.1), .int .i64 x.2])] (by simp [e]) Try.underlying24 info_def (by omega) (by omega) (cells := #[.string (bs x.1), .int .i64 x.2]) (by kernel_rfl) (kf_of hs ⟨_, _, rfl, dcells (fun j hj => by
    obtain rfl : j = 0 := by simp at hj; exact hj
    exact ⟨rfl, rfl⟩)⟩)
theorem kn_d2 {o : Oper} {d s s' : Nat} {x y : Txt × Int} (hs : sp d = .ds [x, y]) (h1 : sp s = .dv x) (h2 : s ∈ dl) (h3 : sp s' = .dv y) (h4 : s' ∈ dl) (ho : o.op = .buildSlice 24 2 #[(0, .tmp s), (1, .tmp s')]) (hd : o.dst = some d) : KDo sp dl o := by
  intro a w hF
  have e : a.eval (.tmp s) = _ := kn_in hF (by simp [tmpsOf, ho, Op.operands]) h2 h1
  have e' : a.eval (.tmp s') = _ := kn_in hF (by simp [tmpsOf, ho, Op.operands]) h4 h3
  exact does_row ho hd [(0, .agg #[.string (bs x.1), .int .i64 x.2]), (1, .agg #[.string (bs y.1), .int .i64 y.2])] (by simp [e, e']) Try.underlying24 info_def (by omega) (by omega) (cells := #[.string (bs x.1), .int .i64 x.2, .string (bs y.1), .int .i64 y.2]) (by kernel_rfl) (kf_of hs ⟨_, _, rfl, dcells (fun j hj => by
    have hj2 : j < 2 := hj
    obtain rfl | rfl : j = 0 ∨ j = 1 := by omega
    · exact ⟨rfl, rfl⟩
    · exact ⟨rfl, rfl⟩)⟩)
theorem kn_k1 {o : Oper} {d s : Nat} {x : Txt × Txt × Int} (hs : sp d = .ks [x]) (h1 : sp s = .kv x) (h2 : s ∈ dl) (ho : o.op = .buildSlice 25 1 #[(0, .tmp s)]) (hd : o.dst = some d) : KDo sp dl o := by
  intro a w hF
  have e : a.eval (.tmp s) = _ := kn_in hF (by simp [tmpsOf, ho, Op.operands]) h2 h1
  exact does_row ho hd [(0, .agg #[.string (bs x.1), .string (bs x.2.1), .int .i64 x.2.2])] (by simp [e]) Try.underlying25 info_link (by omega) (by omega) (cells := #[.string (bs x.1), .string (bs x.2.1), .int .i64 x.2.2]) (by kernel_rfl) (kf_of hs ⟨_, _, rfl, kcells (fun j hj => by
    obtain rfl : j = 0 := by simp at hj; exact hj
    exact ⟨rfl, rfl, rfl⟩)⟩)
theorem made_at (k : Nat) (h : k < 99) : (madeCells #[.string ByteArray.empty, .string ByteArray.empty, .int .i64 0] 99)[k]? = (#[.string ByteArray.empty, .string ByteArray.empty, .int .i64 0] : Array Value)[k % 3]? := by
  have h3 : k % 3 < 3 := by omega
  simp [madeCells, h, h3]
theorem kn_links {o : Oper} {d : Nat} (hs : sp d = .ks (List.replicate 33 ([], [], 0))) (ho : o.op = .makeSlice 25 (.const (.int .i64 33)) (.const (.int .i64 33))) (hd : o.dst = some d) : KDo sp dl o := by
  intro a w _
  obtain ⟨i0, hi, hz0, hz1, hz2⟩ := info_parts info_link
  have hr := run_makeSlice (P := Try.prog) w 25 43 i0 _ Try.underlying25 hi hz0 .i64 .i64 33 33 (by omega) (by omega) (by rw [hz1]; decide) (by rw [hz2]; decide) (by decide)
  rw [hz1] at hr
  refine does_run (.slice (some ⟨w.heap.size, 0, none⟩) 33 33) (w.alloc (.cells (madeCells #[.string ByteArray.empty, .string ByteArray.empty, .int .i64 0] 99) 43)) ?_ (fun d' h => ?_) (one_new w (.cells (madeCells #[.string ByteArray.empty, .string ByteArray.empty, .int .i64 0] 99) 43))
  · unfold execOp
    simp only [ho, eval_const, Sem.run_bind, hr, Result.andThen_ok]
    rfl
  · rw [hd] at h
    cases h
    refine kf_of hs ⟨_, _, by rw [List.length_replicate], kcells (fun j hj => ?_)⟩
    rw [List.length_replicate] at hj
    rw [made_at _ (by omega), made_at _ (by omega), made_at _ (by omega), show j * 3 % 3 = 0 by omega, show (j * 3 + 1) % 3 = 1 by omega, show (j * 3 + 2) % 3 = 2 by omega, List.getElem_replicate]
    exact ⟨rfl, rfl, rfl⟩
theorem no_drow (w : World) : DRow w none [] := fun h => by simp at h
theorem no_krow (w : World) : KRow w none [] := fun h => by simp at h
theorem no_nums (w : World) : NumsIn .u64 w none [] := fun h => by simp at h
theorem kn_o0 {o : Oper} {d : Nat} {s0 : Nat} {x0 : List Int} (hs : sp d = .ob ⟨x0, [], [], []⟩) (h0 : sp s0 = .num x0) (g0 : s0 ∈ dl) (ho : o.op = .build 27 #[(0, .tmp s0)]) (hd : o.dst = some d) : KDo sp dl o := by
  intro a w hF
  obtain ⟨a0, c0, e0, n0⟩ := kn_in hF (by simp [tmpsOf, ho, Op.operands]) g0 h0
  exact does_build ho hd [(0, .slice a0 x0.length c0)] (by simp [e0]) (cells := #[.slice a0 x0.length c0, .slice none 0 0, .slice none 0 0, .slice none 0 0]) (by kernel_rfl) (kf_of hs ⟨⟨a0, c0, none, 0, none, 0, none, 0⟩, rfl, n0, no_nums w, no_drow w, no_krow w⟩)
theorem kn_o1 {o : Oper} {d : Nat} {s1 : Nat} {x1 : List Int} (hs : sp d = .ob ⟨[], x1, [], []⟩) (h1 : sp s1 = .num x1) (g1 : s1 ∈ dl) (ho : o.op = .build 27 #[(1, .tmp s1)]) (hd : o.dst = some d) : KDo sp dl o := by
  intro a w hF
  obtain ⟨a1, c1, e1, n1⟩ := kn_in hF (by simp [tmpsOf, ho, Op.operands]) g1 h1
  exact does_build ho hd [(1, .slice a1 x1.length c1)] (by simp [e1]) (cells := #[.slice none 0 0, .slice a1 x1.length c1, .slice none 0 0, .slice none 0 0]) (by kernel_rfl) (kf_of hs ⟨⟨none, 0, a1, c1, none, 0, none, 0⟩, rfl, no_nums w, n1, no_drow w, no_krow w⟩)
theorem kn_o2 {o : Oper} {d : Nat} {s2 : Nat} {x2 : List (Txt × Int)} (hs : sp d = .ob ⟨[], [], x2, []⟩) (h2 : sp s2 = .ds x2) (g2 : s2 ∈ dl) (ho : o.op = .build 27 #[(2, .tmp s2)]) (hd : o.dst = some d) : KDo sp dl o := by
  intro a w hF
  obtain ⟨a2, c2, e2, n2⟩ := kn_in hF (by simp [tmpsOf, ho, Op.operands]) g2 h2
  exact does_build ho hd [(2, .slice a2 x2.length c2)] (by simp [e2]) (cells := #[.slice none 0 0, .slice none 0 0, .slice a2 x2.length c2, .slice none 0 0]) (by kernel_rfl) (kf_of hs ⟨⟨none, 0, none, 0, a2, c2, none, 0⟩, rfl, no_nums w, no_nums w, n2, no_krow w⟩)
theorem kn_o02 {o : Oper} {d : Nat} {s0 : Nat} {x0 : List Int} {s2 : Nat} {x2 : List (Txt × Int)} (hs : sp d = .ob ⟨x0, [], x2, []⟩) (h0 : sp s0 = .num x0) (g0 : s0 ∈ dl) (h2 : sp s2 = .ds x2) (g2 : s2 ∈ dl) (ho : o.op = .build 27 #[(0, .tmp s0), (2, .tmp s2)]) (hd : o.dst = some d) : KDo sp dl o := by
  intro a w hF
  obtain ⟨a0, c0, e0, n0⟩ := kn_in hF (by simp [tmpsOf, ho, Op.operands]) g0 h0
  obtain ⟨a2, c2, e2, n2⟩ := kn_in hF (by simp [tmpsOf, ho, Op.operands]) g2 h2
  exact does_build ho hd [(0, .slice a0 x0.length c0), (2, .slice a2 x2.length c2)] (by simp [e0, e2]) (cells := #[.slice a0 x0.length c0, .slice none 0 0, .slice a2 x2.length c2, .slice none 0 0]) (by kernel_rfl) (kf_of hs ⟨⟨a0, c0, none, 0, a2, c2, none, 0⟩, rfl, n0, no_nums w, n2, no_krow w⟩)
theorem kn_o01 {o : Oper} {d : Nat} {s0 : Nat} {x0 : List Int} {s1 : Nat} {x1 : List Int} (hs : sp d = .ob ⟨x0, x1, [], []⟩) (h0 : sp s0 = .num x0) (g0 : s0 ∈ dl) (h1 : sp s1 = .num x1) (g1 : s1 ∈ dl) (ho : o.op = .build 27 #[(0, .tmp s0), (1, .tmp s1)]) (hd : o.dst = some d) : KDo sp dl o := by
  intro a w hF
  obtain ⟨a0, c0, e0, n0⟩ := kn_in hF (by simp [tmpsOf, ho, Op.operands]) g0 h0
  obtain ⟨a1, c1, e1, n1⟩ := kn_in hF (by simp [tmpsOf, ho, Op.operands]) g1 h1
  exact does_build ho hd [(0, .slice a0 x0.length c0), (1, .slice a1 x1.length c1)] (by simp [e0, e1]) (cells := #[.slice a0 x0.length c0, .slice a1 x1.length c1, .slice none 0 0, .slice none 0 0]) (by kernel_rfl) (kf_of hs ⟨⟨a0, c0, a1, c1, none, 0, none, 0⟩, rfl, n0, n1, no_drow w, no_krow w⟩)
theorem kn_o3 {o : Oper} {d : Nat} {s3 : Nat} {x3 : List (Txt × Txt × Int)} (hs : sp d = .ob ⟨[], [], [], x3⟩) (h3 : sp s3 = .ks x3) (g3 : s3 ∈ dl) (ho : o.op = .build 27 #[(3, .tmp s3)]) (hd : o.dst = some d) : KDo sp dl o := by
  intro a w hF
  obtain ⟨a3, c3, e3, n3⟩ := kn_in hF (by simp [tmpsOf, ho, Op.operands]) g3 h3
  exact does_build ho hd [(3, .slice a3 x3.length c3)] (by simp [e3]) (cells := #[.slice none 0 0, .slice none 0 0, .slice none 0 0, .slice a3 x3.length c3]) (by kernel_rfl) (kf_of hs ⟨⟨none, 0, none, 0, none, 0, a3, c3⟩, rfl, no_nums w, no_nums w, no_drow w, n3⟩)
theorem kn_move {o : Oper} {d s : Nat} (hs : sp d = sp s) (h2 : s ∈ dl) (ho : o.op = .move (.tmp s) ∨ o.op = .assign (.tmp s)) (hd : o.dst = some d) : KDo sp dl o := by
  intro a w hF
  have h := kn_in hF (t := s) (by rcases ho with ho | ho <;> simp [tmpsOf, ho, Op.operands]) h2 rfl
  refine does_run (a.eval (.tmp s)) w ?_ (fun d h' => ?_) (Below.refl _ _)
  · unfold execOp
    rcases ho with ho | ho <;> simp only [ho] <;> rfl
  · rw [hd] at h'; cases h'; exact kf_of hs h
theorem kn_snd {o : Oper} {d s : Nat} {u : Value} (hs : sp d = .is u) (h1 : sp s = .pr u) (h2 : s ∈ dl) (ho : o.op = .extract (.tmp s) 1) (hd : o.dst = some d) : KDo sp dl o := by
  intro a w hF
  obtain ⟨x, e⟩ := kn_in hF (by simp [tmpsOf, ho, Op.operands]) h2 h1
  refine does_run u w ?_ (fun d h' => ?_) (Below.refl _ _)
  · unfold execOp
    simp only [ho, e]
    rfl
  · rw [hd] at h'; cases h'; exact kf_of hs rfl
theorem kn_fst {o : Oper} {d s : Nat} {u : Value} (hs : sp d = .any) (h1 : sp s = .pr u) (h2 : s ∈ dl) (ho : o.op = .extract (.tmp s) 0) (hd : o.dst = some d) : KDo sp dl o := by
  intro a w hF
  obtain ⟨x, e⟩ := kn_in hF (by simp [tmpsOf, ho, Op.operands]) h2 h1
  refine does_run x w ?_ (fun d h' => ?_) (Below.refl _ _)
  · unfold execOp
    simp only [ho, e]
    rfl
  · rw [hd] at h'; cases h'; exact kf_of hs trivial
end

def tA : Txt := [97]
def bads : List Ob := [⟨List.replicate 513 0, [], [], []⟩, ⟨[], List.replicate 65 0, [], []⟩, ⟨[68719476736], [], [], []⟩, ⟨[], [], [(tA, 0)], []⟩, ⟨List.replicate 1 0, [], [(tA, 0), (tA, 0)], []⟩, ⟨List.replicate 1 0, [], [([], 0)], []⟩, ⟨[], [], [], [([], [], 0)]⟩, ⟨[], [], [], [([], tA, -1)]⟩, ⟨[], [], [], [([], tA, 262144)]⟩, ⟨[], [], [], List.replicate 33 ([], [], 0)⟩]
def kTab : List Sp := [.num (List.replicate 513 0), .ob ⟨List.replicate 513 0, [], [], []⟩, .num (List.replicate 65 0), .ob ⟨[], List.replicate 65 0, [], []⟩, .num [68719476736], .ob ⟨[68719476736], [], [], []⟩, .dv (tA, 0), .ds [(tA, 0)], .ob ⟨[], [], [(tA, 0)], []⟩, .num (List.replicate 1 0), .dv (tA, 0), .dv (tA, 0), .ds [(tA, 0), (tA, 0)], .ob ⟨List.replicate 1 0, [], [(tA, 0), (tA, 0)], []⟩, .num (List.replicate 1 0), .dv ([], 0), .ds [([], 0)], .ob ⟨List.replicate 1 0, [], [([], 0)], []⟩, .kv ([], [], 0), .ks [([], [], 0)], .ob ⟨[], [], [], [([], [], 0)]⟩, .kv ([], tA, -1), .ks [([], tA, -1)], .ob ⟨[], [], [], [([], tA, -1)]⟩, .kv ([], tA, 262144), .ks [([], tA, 262144)], .ob ⟨[], [], [], [([], tA, 262144)]⟩, .ks (List.replicate 33 ([], [], 0)), .ob ⟨[], [], [], List.replicate 33 ([], [], 0)⟩, .obs bads]
def kSp (t : Nat) : Sp := if t = 5 then .obs bads else kTab.getD (t - 38) (.num [])
def kDs : List Nat := [38, 39, 40, 41, 42, 43, 44, 45, 46, 47, 48, 49, 50, 51, 52, 53, 54, 55, 56, 57, 58, 59, 60, 61, 62, 63, 64, 65, 66, 67, 5]

theorem info_object : (Try.prog.info? 27).map (fun i => (i.zero, i.size, i.bytes)) = some (some (.agg #[.slice none 0 0, .slice none 0 0, .slice none 0 0, .slice none 0 0]), 4, 96) := by kernel_rfl
def fitB (o : Ob) : Bool := o.text.all (fun z => decide (0 ≤ z) && decide (z ≤ 68719476736)) && o.stat.all (fun z => decide (0 ≤ z) && decide (z ≤ 68719476736)) && decide (o.text.length ≤ 1000) && decide (o.stat.length ≤ 1000) && decide (o.defs.length ≤ 1000) && decide (o.links.length ≤ 1000) &&
  o.defs.all (fun d => decide (d.1.length ≤ 1000) && (decide (-1 ≤ d.2) && decide (d.2 ≤ 1000000))) && o.links.all (fun d => decide (d.1.length ≤ 1000) && (decide (d.2.1.length ≤ 1000) && (decide (-1 ≤ d.2.2) && decide (d.2.2 ≤ 1000000))))
theorem fit_of {o : Ob} (h : fitB o = true) : Fit o := by
  simp only [fitB, Bool.and_eq_true, List.all_eq_true, decide_eq_true_eq] at h
  obtain ⟨⟨⟨⟨⟨⟨⟨a, b⟩, c⟩, d⟩, e⟩, f⟩, g⟩, k⟩ := h
  refine ⟨fun z hz => ?_, fun z hz => ?_, by unfold maxLen; omega, by unfold maxLen; omega, by unfold maxLen; omega, by unfold maxLen; omega, fun x hx => ?_, fun x hx => ?_⟩
  · have := a z hz; exact ⟨by omega, by omega⟩
  · have := b z hz; exact ⟨by omega, by omega⟩
  · have := g x hx; unfold maxLen I64; omega
  · have := k x hx; unfold maxLen I64; omega

theorem new_lt (w : World) (o : Obj) : w.heap.size < (w.alloc o).heap.size := by simp
set_option maxRecDepth 20000 in
theorem kn_obs {o : Oper} (ho : o.op = .buildSlice 47 10 #[(0, .tmp 39), (1, .tmp 41), (2, .tmp 43), (3, .tmp 46), (4, .tmp 51), (5, .tmp 55), (6, .tmp 58), (7, .tmp 61), (8, .tmp 64), (9, .tmp 66)]) (hd : o.dst = some 67) : KDo kSp kDs o := by
  intro a w hF
  obtain ⟨q0, e0, n0⟩ : ∃ q, a.eval (.tmp 39) = OV q ⟨List.replicate 513 0, [], [], []⟩ ∧ ObIn w q ⟨List.replicate 513 0, [], [], []⟩ := kn_in hF (by simp [tmpsOf, ho, Op.operands]) (by decide) (s := .ob ⟨List.replicate 513 0, [], [], []⟩) rfl
  obtain ⟨q1, e1, n1⟩ : ∃ q, a.eval (.tmp 41) = OV q ⟨[], List.replicate 65 0, [], []⟩ ∧ ObIn w q ⟨[], List.replicate 65 0, [], []⟩ := kn_in hF (by simp [tmpsOf, ho, Op.operands]) (by decide) (s := .ob ⟨[], List.replicate 65 0, [], []⟩) rfl
  obtain ⟨q2, e2, n2⟩ : ∃ q, a.eval (.tmp 43) = OV q ⟨[68719476736], [], [], []⟩ ∧ ObIn w q ⟨[68719476736], [], [], []⟩ := kn_in hF (by simp [tmpsOf, ho, Op.operands]) (by decide) (s := .ob ⟨[68719476736], [], [], []⟩) rfl
  obtain ⟨q3, e3, n3⟩ : ∃ q, a.eval (.tmp 46) = OV q ⟨[], [], [(tA, 0)], []⟩ ∧ ObIn w q ⟨[], [], [(tA, 0)], []⟩ := kn_in hF (by simp [tmpsOf, ho, Op.operands]) (by decide) (s := .ob ⟨[], [], [(tA, 0)], []⟩) rfl
  obtain ⟨q4, e4, n4⟩ : ∃ q, a.eval (.tmp 51) = OV q ⟨List.replicate 1 0, [], [(tA, 0), (tA, 0)], []⟩ ∧ ObIn w q ⟨List.replicate 1 0, [], [(tA, 0), (tA, 0)], []⟩ := kn_in hF (by simp [tmpsOf, ho, Op.operands]) (by decide) (s := .ob ⟨List.replicate 1 0, [], [(tA, 0), (tA, 0)], []⟩) rfl
  obtain ⟨q5, e5, n5⟩ : ∃ q, a.eval (.tmp 55) = OV q ⟨List.replicate 1 0, [], [([], 0)], []⟩ ∧ ObIn w q ⟨List.replicate 1 0, [], [([], 0)], []⟩ := kn_in hF (by simp [tmpsOf, ho, Op.operands]) (by decide) (s := .ob ⟨List.replicate 1 0, [], [([], 0)], []⟩) rfl
  obtain ⟨q6, e6, n6⟩ : ∃ q, a.eval (.tmp 58) = OV q ⟨[], [], [], [([], [], 0)]⟩ ∧ ObIn w q ⟨[], [], [], [([], [], 0)]⟩ := kn_in hF (by simp [tmpsOf, ho, Op.operands]) (by decide) (s := .ob ⟨[], [], [], [([], [], 0)]⟩) rfl
  obtain ⟨q7, e7, n7⟩ : ∃ q, a.eval (.tmp 61) = OV q ⟨[], [], [], [([], tA, -1)]⟩ ∧ ObIn w q ⟨[], [], [], [([], tA, -1)]⟩ := kn_in hF (by simp [tmpsOf, ho, Op.operands]) (by decide) (s := .ob ⟨[], [], [], [([], tA, -1)]⟩) rfl
  obtain ⟨q8, e8, n8⟩ : ∃ q, a.eval (.tmp 64) = OV q ⟨[], [], [], [([], tA, 262144)]⟩ ∧ ObIn w q ⟨[], [], [], [([], tA, 262144)]⟩ := kn_in hF (by simp [tmpsOf, ho, Op.operands]) (by decide) (s := .ob ⟨[], [], [], [([], tA, 262144)]⟩) rfl
  obtain ⟨q9, e9, n9⟩ : ∃ q, a.eval (.tmp 66) = OV q ⟨[], [], [], List.replicate 33 ([], [], 0)⟩ ∧ ObIn w q ⟨[], [], [], List.replicate 33 ([], [], 0)⟩ := kn_in hF (by simp [tmpsOf, ho, Op.operands]) (by decide) (s := .ob ⟨[], [], [], List.replicate 33 ([], [], 0)⟩) rfl
  refine does_row ho hd [(0, OV q0 ⟨List.replicate 513 0, [], [], []⟩), (1, OV q1 ⟨[], List.replicate 65 0, [], []⟩), (2, OV q2 ⟨[68719476736], [], [], []⟩), (3, OV q3 ⟨[], [], [(tA, 0)], []⟩), (4, OV q4 ⟨List.replicate 1 0, [], [(tA, 0), (tA, 0)], []⟩), (5, OV q5 ⟨List.replicate 1 0, [], [([], 0)], []⟩), (6, OV q6 ⟨[], [], [], [([], [], 0)]⟩), (7, OV q7 ⟨[], [], [], [([], tA, -1)]⟩), (8, OV q8 ⟨[], [], [], [([], tA, 262144)]⟩), (9, OV q9 ⟨[], [], [], List.replicate 33 ([], [], 0)⟩)] (by simp only [List.map_toArray, List.map_cons, List.map_nil, e0, e1, e2, e3, e4, e5, e6, e7, e8, e9]) Try.underlying47 info_object (by omega) (by omega) (cells := #[.slice q0.ta (⟨List.replicate 513 0, [], [], []⟩ : Ob).text.length q0.tc, .slice q0.sa (⟨List.replicate 513 0, [], [], []⟩ : Ob).stat.length q0.sc, .slice q0.da (⟨List.replicate 513 0, [], [], []⟩ : Ob).defs.length q0.dc, .slice q0.la (⟨List.replicate 513 0, [], [], []⟩ : Ob).links.length q0.lc, .slice q1.ta (⟨[], List.replicate 65 0, [], []⟩ : Ob).text.length q1.tc, .slice q1.sa (⟨[], List.replicate 65 0, [], []⟩ : Ob).stat.length q1.sc, .slice q1.da (⟨[], List.replicate 65 0, [], []⟩ : Ob).defs.length q1.dc, .slice q1.la (⟨[], List.replicate 65 0, [], []⟩ : Ob).links.length q1.lc, .slice q2.ta (⟨[68719476736], [], [], []⟩ : Ob).text.length q2.tc, .slice q2.sa (⟨[68719476736], [], [], []⟩ : Ob).stat.length q2.sc, .slice q2.da (⟨[68719476736], [], [], []⟩ : Ob).defs.length q2.dc, .slice q2.la (⟨[68719476736], [], [], []⟩ : Ob).links.length q2.lc, .slice q3.ta (⟨[], [], [(tA, 0)], []⟩ : Ob).text.length q3.tc, .slice q3.sa (⟨[], [], [(tA, 0)], []⟩ : Ob).stat.length q3.sc, .slice q3.da (⟨[], [], [(tA, 0)], []⟩ : Ob).defs.length q3.dc, .slice q3.la (⟨[], [], [(tA, 0)], []⟩ : Ob).links.length q3.lc, .slice q4.ta (⟨List.replicate 1 0, [], [(tA, 0), (tA, 0)], []⟩ : Ob).text.length q4.tc, .slice q4.sa (⟨List.replicate 1 0, [], [(tA, 0), (tA, 0)], []⟩ : Ob).stat.length q4.sc, .slice q4.da (⟨List.replicate 1 0, [], [(tA, 0), (tA, 0)], []⟩ : Ob).defs.length q4.dc, .slice q4.la (⟨List.replicate 1 0, [], [(tA, 0), (tA, 0)], []⟩ : Ob).links.length q4.lc, .slice q5.ta (⟨List.replicate 1 0, [], [([], 0)], []⟩ : Ob).text.length q5.tc, .slice q5.sa (⟨List.replicate 1 0, [], [([], 0)], []⟩ : Ob).stat.length q5.sc, .slice q5.da (⟨List.replicate 1 0, [], [([], 0)], []⟩ : Ob).defs.length q5.dc, .slice q5.la (⟨List.replicate 1 0, [], [([], 0)], []⟩ : Ob).links.length q5.lc, .slice q6.ta (⟨[], [], [], [([], [], 0)]⟩ : Ob).text.length q6.tc, .slice q6.sa (⟨[], [], [], [([], [], 0)]⟩ : Ob).stat.length q6.sc, .slice q6.da (⟨[], [], [], [([], [], 0)]⟩ : Ob).defs.length q6.dc, .slice q6.la (⟨[], [], [], [([], [], 0)]⟩ : Ob).links.length q6.lc, .slice q7.ta (⟨[], [], [], [([], tA, -1)]⟩ : Ob).text.length q7.tc, .slice q7.sa (⟨[], [], [], [([], tA, -1)]⟩ : Ob).stat.length q7.sc, .slice q7.da (⟨[], [], [], [([], tA, -1)]⟩ : Ob).defs.length q7.dc, .slice q7.la (⟨[], [], [], [([], tA, -1)]⟩ : Ob).links.length q7.lc, .slice q8.ta (⟨[], [], [], [([], tA, 262144)]⟩ : Ob).text.length q8.tc, .slice q8.sa (⟨[], [], [], [([], tA, 262144)]⟩ : Ob).stat.length q8.sc, .slice q8.da (⟨[], [], [], [([], tA, 262144)]⟩ : Ob).defs.length q8.dc, .slice q8.la (⟨[], [], [], [([], tA, 262144)]⟩ : Ob).links.length q8.lc, .slice q9.ta (⟨[], [], [], List.replicate 33 ([], [], 0)⟩ : Ob).text.length q9.tc, .slice q9.sa (⟨[], [], [], List.replicate 33 ([], [], 0)⟩ : Ob).stat.length q9.sc, .slice q9.da (⟨[], [], [], List.replicate 33 ([], [], 0)⟩ : Ob).defs.length q9.dc, .slice q9.la (⟨[], [], [], List.replicate 33 ([], [], 0)⟩ : Ob).links.length q9.lc]) (by kernel_rfl) (kf_of (s := .obs bads) rfl ⟨_, _, _, rfl, new_lt w _, fun j hj => ?_⟩)
  have hj2 : j < 10 := hj
  have hr := heap_alloc_new w (.cells #[.slice q0.ta (⟨List.replicate 513 0, [], [], []⟩ : Ob).text.length q0.tc, .slice q0.sa (⟨List.replicate 513 0, [], [], []⟩ : Ob).stat.length q0.sc, .slice q0.da (⟨List.replicate 513 0, [], [], []⟩ : Ob).defs.length q0.dc, .slice q0.la (⟨List.replicate 513 0, [], [], []⟩ : Ob).links.length q0.lc, .slice q1.ta (⟨[], List.replicate 65 0, [], []⟩ : Ob).text.length q1.tc, .slice q1.sa (⟨[], List.replicate 65 0, [], []⟩ : Ob).stat.length q1.sc, .slice q1.da (⟨[], List.replicate 65 0, [], []⟩ : Ob).defs.length q1.dc, .slice q1.la (⟨[], List.replicate 65 0, [], []⟩ : Ob).links.length q1.lc, .slice q2.ta (⟨[68719476736], [], [], []⟩ : Ob).text.length q2.tc, .slice q2.sa (⟨[68719476736], [], [], []⟩ : Ob).stat.length q2.sc, .slice q2.da (⟨[68719476736], [], [], []⟩ : Ob).defs.length q2.dc, .slice q2.la (⟨[68719476736], [], [], []⟩ : Ob).links.length q2.lc, .slice q3.ta (⟨[], [], [(tA, 0)], []⟩ : Ob).text.length q3.tc, .slice q3.sa (⟨[], [], [(tA, 0)], []⟩ : Ob).stat.length q3.sc, .slice q3.da (⟨[], [], [(tA, 0)], []⟩ : Ob).defs.length q3.dc, .slice q3.la (⟨[], [], [(tA, 0)], []⟩ : Ob).links.length q3.lc, .slice q4.ta (⟨List.replicate 1 0, [], [(tA, 0), (tA, 0)], []⟩ : Ob).text.length q4.tc, .slice q4.sa (⟨List.replicate 1 0, [], [(tA, 0), (tA, 0)], []⟩ : Ob).stat.length q4.sc, .slice q4.da (⟨List.replicate 1 0, [], [(tA, 0), (tA, 0)], []⟩ : Ob).defs.length q4.dc, .slice q4.la (⟨List.replicate 1 0, [], [(tA, 0), (tA, 0)], []⟩ : Ob).links.length q4.lc, .slice q5.ta (⟨List.replicate 1 0, [], [([], 0)], []⟩ : Ob).text.length q5.tc, .slice q5.sa (⟨List.replicate 1 0, [], [([], 0)], []⟩ : Ob).stat.length q5.sc, .slice q5.da (⟨List.replicate 1 0, [], [([], 0)], []⟩ : Ob).defs.length q5.dc, .slice q5.la (⟨List.replicate 1 0, [], [([], 0)], []⟩ : Ob).links.length q5.lc, .slice q6.ta (⟨[], [], [], [([], [], 0)]⟩ : Ob).text.length q6.tc, .slice q6.sa (⟨[], [], [], [([], [], 0)]⟩ : Ob).stat.length q6.sc, .slice q6.da (⟨[], [], [], [([], [], 0)]⟩ : Ob).defs.length q6.dc, .slice q6.la (⟨[], [], [], [([], [], 0)]⟩ : Ob).links.length q6.lc, .slice q7.ta (⟨[], [], [], [([], tA, -1)]⟩ : Ob).text.length q7.tc, .slice q7.sa (⟨[], [], [], [([], tA, -1)]⟩ : Ob).stat.length q7.sc, .slice q7.da (⟨[], [], [], [([], tA, -1)]⟩ : Ob).defs.length q7.dc, .slice q7.la (⟨[], [], [], [([], tA, -1)]⟩ : Ob).links.length q7.lc, .slice q8.ta (⟨[], [], [], [([], tA, 262144)]⟩ : Ob).text.length q8.tc, .slice q8.sa (⟨[], [], [], [([], tA, 262144)]⟩ : Ob).stat.length q8.sc, .slice q8.da (⟨[], [], [], [([], tA, 262144)]⟩ : Ob).defs.length q8.dc, .slice q8.la (⟨[], [], [], [([], tA, 262144)]⟩ : Ob).links.length q8.lc, .slice q9.ta (⟨[], [], [], List.replicate 33 ([], [], 0)⟩ : Ob).text.length q9.tc, .slice q9.sa (⟨[], [], [], List.replicate 33 ([], [], 0)⟩ : Ob).stat.length q9.sc, .slice q9.da (⟨[], [], [], List.replicate 33 ([], [], 0)⟩ : Ob).defs.length q9.dc, .slice q9.la (⟨[], [], [], List.replicate 33 ([], [], 0)⟩ : Ob).links.length q9.lc] 27)
  obtain rfl | rfl | rfl | rfl | rfl | rfl | rfl | rfl | rfl | rfl : j = 0 ∨ j = 1 ∨ j = 2 ∨ j = 3 ∨ j = 4 ∨ j = 5 ∨ j = 6 ∨ j = 7 ∨ j = 8 ∨ j = 9 := by omega
  · exact ⟨q0, ⟨by rw [cell_of_row _ _ _ _ _ _ hr]; rfl, by rw [cell_of_row _ _ _ _ _ _ hr]; rfl, by rw [cell_of_row _ _ _ _ _ _ hr]; rfl, by rw [cell_of_row _ _ _ _ _ _ hr]; rfl⟩, n0.below (one_new _ _)⟩
  · exact ⟨q1, ⟨by rw [cell_of_row _ _ _ _ _ _ hr]; rfl, by rw [cell_of_row _ _ _ _ _ _ hr]; rfl, by rw [cell_of_row _ _ _ _ _ _ hr]; rfl, by rw [cell_of_row _ _ _ _ _ _ hr]; rfl⟩, n1.below (one_new _ _)⟩
  · exact ⟨q2, ⟨by rw [cell_of_row _ _ _ _ _ _ hr]; rfl, by rw [cell_of_row _ _ _ _ _ _ hr]; rfl, by rw [cell_of_row _ _ _ _ _ _ hr]; rfl, by rw [cell_of_row _ _ _ _ _ _ hr]; rfl⟩, n2.below (one_new _ _)⟩
  · exact ⟨q3, ⟨by rw [cell_of_row _ _ _ _ _ _ hr]; rfl, by rw [cell_of_row _ _ _ _ _ _ hr]; rfl, by rw [cell_of_row _ _ _ _ _ _ hr]; rfl, by rw [cell_of_row _ _ _ _ _ _ hr]; rfl⟩, n3.below (one_new _ _)⟩
  · exact ⟨q4, ⟨by rw [cell_of_row _ _ _ _ _ _ hr]; rfl, by rw [cell_of_row _ _ _ _ _ _ hr]; rfl, by rw [cell_of_row _ _ _ _ _ _ hr]; rfl, by rw [cell_of_row _ _ _ _ _ _ hr]; rfl⟩, n4.below (one_new _ _)⟩
  · exact ⟨q5, ⟨by rw [cell_of_row _ _ _ _ _ _ hr]; rfl, by rw [cell_of_row _ _ _ _ _ _ hr]; rfl, by rw [cell_of_row _ _ _ _ _ _ hr]; rfl, by rw [cell_of_row _ _ _ _ _ _ hr]; rfl⟩, n5.below (one_new _ _)⟩
  · exact ⟨q6, ⟨by rw [cell_of_row _ _ _ _ _ _ hr]; rfl, by rw [cell_of_row _ _ _ _ _ _ hr]; rfl, by rw [cell_of_row _ _ _ _ _ _ hr]; rfl, by rw [cell_of_row _ _ _ _ _ _ hr]; rfl⟩, n6.below (one_new _ _)⟩
  · exact ⟨q7, ⟨by rw [cell_of_row _ _ _ _ _ _ hr]; rfl, by rw [cell_of_row _ _ _ _ _ _ hr]; rfl, by rw [cell_of_row _ _ _ _ _ _ hr]; rfl, by rw [cell_of_row _ _ _ _ _ _ hr]; rfl⟩, n7.below (one_new _ _)⟩
  · exact ⟨q8, ⟨by rw [cell_of_row _ _ _ _ _ _ hr]; rfl, by rw [cell_of_row _ _ _ _ _ _ hr]; rfl, by rw [cell_of_row _ _ _ _ _ _ hr]; rfl, by rw [cell_of_row _ _ _ _ _ _ hr]; rfl⟩, n8.below (one_new _ _)⟩
  · exact ⟨q9, ⟨by rw [cell_of_row _ _ _ _ _ _ hr]; rfl, by rw [cell_of_row _ _ _ _ _ _ hr]; rfl, by rw [cell_of_row _ _ _ _ _ _ hr]; rfl, by rw [cell_of_row _ _ _ _ _ _ hr]; rfl⟩, n9.below (one_new _ _)⟩
theorem bads_no : ∀ j (h : j < bads.length), mayOb bads[j] = false ∧ Fit bads[j] := by
  intro j hj
  have hj2 : j < 10 := hj
  obtain rfl | rfl | rfl | rfl | rfl | rfl | rfl | rfl | rfl | rfl : j = 0 ∨ j = 1 ∨ j = 2 ∨ j = 3 ∨ j = 4 ∨ j = 5 ∨ j = 6 ∨ j = 7 ∨ j = 8 ∨ j = 9 := by omega
  all_goals refine ⟨by kernel_rfl, fit_of (by kernel_rfl)⟩

end Go.Proofs.Ytnlohmkgkihldaa.W
