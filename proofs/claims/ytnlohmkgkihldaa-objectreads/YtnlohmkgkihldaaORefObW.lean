/-
  What the document's own ObjectMay, ObjectWords and Cut answer.
-/
import Derived.Test.YtnlohmkgkihldaaORefMay
import Derived.Test.YtnlohmkgkihldaaORefReader
import Derived.Test.YtnlohmkgkihldaaOLimits
namespace Go.Proofs.Ytnlohmkgkihldaa.W
open Go.ChangeShapes Go.WideShapes Go.ChangeAt Go.RowKit
open Go.Proofs.Ytnlohmkgkihldaa.N (bs bs_data bs_of bs_size may may_pos retB)

theorem refCut_any (z : Int) (h : U64 z) (w : World) : Calls Try.prog 13 #[.int .u64 z] w fun e w' => e = .returned (.int .u64 ((z.toNat % 68719476736 : Nat) : Int)) ∧ w' = w := by
  have hm := mask_is h
  obtain ⟨m, hm2⟩ : ∃ m : Int, ((z.toNat % 68719476736 : Nat) : Int) = m := ⟨_, rfl⟩
  rw [hm2] at hm ⊢
  clear hm2
  go_enter Try.func13, Try.ntmps13
  go_wp2
  go_ret
  exact ⟨rfl, rfl⟩
theorem refMay_full {w : World} {q : Pl} {o : Ob} (ho : ObIn w q o) (hF : Fit o) : Calls Try.prog 24 #[OV q o] w fun e w' => e = .returned (.bool (mayOb o)) ∧ Below w.heap.size w w' :=
  refMay_any ho hF (fun V hV hL => refWords_any q o V ((ho.below (one_new _ _)).below hV) hL)
set_option maxHeartbeats 1000000 in
theorem refObWords_yes (q : Pl) (o : Ob) (w : World) (hO : ObIn w q o) (hF : Fit o) (hM : mayOb o = true) : Calls Try.prog 12 #[OV q o] w (WYes o w) := by
  have hI := hO.below (one_new w (OO q o))
  have h1 := refMay_full hI hF
  rw [hM] at h1
  have hmp := mayOb_parts o
  rw [hM] at hmp
  have hp : partsOb o = true := by cases h : partsOb o <;> simp [h] at hmp ⊢
  have h2 := fun (V : World) (hB : Below (w.alloc (OO q o)).heap.size (w.alloc (OO q o)) V) => refWords_any q o V (hI.below hB) (parts_lay hp)
  clear hO hF hM hmp hp hI
  go_enter Try.func12, Try.ntmps12
  go_wp2_with (first
    | (go_at_call 24; (with_reducible refine h1.mono ?_); rintro e w1 ⟨rfl, b1⟩; (have q0 := b1.cell (p := ⟨w.heap.size, 0, none⟩) (by simp)); (have q1 := b1.cell (p := ⟨w.heap.size, 1, none⟩) (by simp)); (have q2 := b1.cell (p := ⟨w.heap.size, 2, none⟩) (by simp)); (have q3 := b1.cell (p := ⟨w.heap.size, 3, none⟩) (by simp)))
    | (go_at_call 25; (with_reducible refine (h2 _ b1).mono ?_); rintro e w2 ⟨v, rfl, ho, b2⟩; obtain ⟨pv, cv, ev, -⟩ := ho.que.val; subst ev; have HO2 := Lib.hid ho; clear ho))
  go_wp2
  refine bodyPost_ret (v := .tuple #[.slice pv (wOb o).length cv, .int .i64 0]) (by simp [results, Try.results12, go_sem]) rfl ⟨_, rfl, own_base HO2.out (Nat.le_trans (one_new w (OO q o)).size b1.size), bel2 (bel2 (one_new _ _) b1) b2⟩

/-- the document's reading under way: its result's box, the map's four numbers, the object so far in its box, the reader -/
structure RdSt (w : World) (r0 mb ob rd m0 m1 m2 m3 : Nat) (body : List Int) (q : Pl) (x : Ob) (S : St) (W : World) : Prop where
  bel : Below w.heap.size w W
  ge : w.heap.size ≤ rd ∧ w.heap.size ≤ ob ∧ rd ≠ ob
  res : W.heap[r0]? = some (OO nilPl nilOb)
  many : W.heap[mb]? = some (.cells #[.int .i64 m0, .int .i64 m1, .int .i64 m2, .int .i64 m3] 68)
  box : W.heap[ob]? = some (OO q x)
  own : OwnOb w.heap.size W q x
  rd : RfAt w.heap.size W rd body S
  ro : r0 ≠ ob
theorem rf_grown {A : Nat} {w w' : World} {b : Nat} {zs : List Int} {s : St} {r : Option Nat} (h : RfAt A w b zs s) (hg : w.grownBy w' r) (hr : ∀ g, r = some g → A ≤ g ∧ g ≠ b) : RfAt A w' b zs s := by
  obtain ⟨a, c, hh, hn, hs, hB⟩ := h
  refine ⟨a, c, (hg.block b (Array.getElem?_eq_some_iff.1 hh).1 (fun e => (hr b e.symm).2 rfl)).trans hh, fun h0 => ?_, hs, hB⟩
  obtain ⟨g, o, e, hc⟩ := hn h0
  exact ⟨g, o, e, fun i hi => hg.cell (hc i hi) (fun e2 => by have h1 := (hr g e2.symm).1; have h2 := hB h0 g o e; omega)⟩
theorem own_keep {base : Nat} {w w' : World} {q : Pl} {o : Ob} {r : Option Nat} (h : OwnOb base w q o) (hg : w.grownBy w' r) (hr : ∀ g, r = some g → ∃ cs t fr, w.heap[g]? = some (.cells cs t fr) ∧ t ≠ 37 ∧ t ≠ 41 ∧ t ≠ 43) : OwnOb base w' q o :=
  ⟨row_keep h.t hg (fun g e => by obtain ⟨cs, t, fr, h1, h2, h3, h4⟩ := hr g e; exact ⟨cs, t, fr, h1, h2⟩), row_keep h.s hg (fun g e => by obtain ⟨cs, t, fr, h1, h2, h3, h4⟩ := hr g e; exact ⟨cs, t, fr, h1, h2⟩),
   row_keep h.d hg (fun g e => by obtain ⟨cs, t, fr, h1, h2, h3, h4⟩ := hr g e; exact ⟨cs, t, fr, h1, h3⟩), row_keep h.l hg (fun g e => by obtain ⟨cs, t, fr, h1, h2, h3, h4⟩ := hr g e; exact ⟨cs, t, fr, h1, h4⟩)⟩
section
variable {w W W' : World} {r0 mb ob rd m0 m1 m2 m3 : Nat} {body : List Int} {q : Pl} {x : Ob} {S S' : St}
theorem block_lt {w : World} {b : Nat} {o : Obj} (h : w.heap[b]? = some o) : b < w.heap.size := (Array.getElem?_eq_some_iff.1 h).1
theorem RdSt.below (h : RdSt w r0 mb ob rd m0 m1 m2 m3 body q x S W) (hb : Below W.heap.size W W') : RdSt w r0 mb ob rd m0 m1 m2 m3 body q x S W' :=
  ⟨h.bel.trans (hb.mono h.bel.size), h.ge, (hb.block _ (block_lt h.res)).trans h.res, (hb.block _ (block_lt h.many)).trans h.many, (hb.block _ (block_lt h.box)).trans h.box, h.own.below hb, h.rd.below hb, h.ro⟩
/-- what the reader did -/
theorem RdSt.reader (h : RdSt w r0 mb ob rd m0 m1 m2 m3 body q x S W) (hr : RfAt w.heap.size W' rd body S') (hg : W.grownBy W' (some rd)) : RdSt w r0 mb ob rd m0 m1 m2 m3 body q x S' W' := by
  obtain ⟨a, c, hh, -⟩ := h.rd
  have ne : ∀ {b : Nat} {cs : Array Value} {t : TypeId}, W.heap[b]? = some (.cells cs t (0, 0)) → t ≠ 71 → some b ≠ some rd := fun h1 h2 e => by
    cases e
    rw [hh] at h1
    cases h1
    exact h2 rfl
  refine ⟨grown_below h.bel h.bel.size hg h.ge.1, h.ge, (hg.block _ (block_lt h.res) (ne h.res (by decide))).trans h.res, (hg.block _ (block_lt h.many) (ne h.many (by decide))).trans h.many, (hg.block _ (block_lt h.box) (ne h.box (by decide))).trans h.box, own_keep h.own hg (fun g e => ?_), hr, h.ro⟩
  cases e
  exact ⟨_, _, _, hh, by decide, by decide, by decide⟩
/-- one definition more -/
theorem RdSt.def1 (h : RdSt w r0 mb ob rd m0 m1 m2 m3 body q x S W) {d : Txt × Int} {n : Nat} {p : Option Addr} {c : Nat} (ho : OwnD w.heap.size W' (.slice p n c) (x.defs ++ [d])) (hn : x.defs.length + 1 = n) (hg : W.grownBy W' (Value.ownBlock (.slice q.da x.defs.length q.dc))) :
    W'.heap[ob]? = some (OO q x) ∧ RdSt w r0 mb ob rd m0 m1 m2 m3 body { q with da := p, dc := c } { x with defs := x.defs ++ [d] } S (W'.setCell ⟨ob, 2, none⟩ (.slice p n c)) := by
  subst hn
  obtain ⟨a, c', hh, -⟩ := h.rd
  have hr : ∀ g, Value.ownBlock (.slice q.da x.defs.length q.dc) = some g → ∃ cs, W.heap[g]? = some (.cells cs 41 (0, 0)) := fun g e => row_block h.own.d e
  have keepB : ∀ {b : Nat} {cs : Array Value} {t : TypeId}, W.heap[b]? = some (.cells cs t (0, 0)) → t ≠ 41 → W'.heap[b]? = some (.cells cs t (0, 0)) := fun h1 h2 => (hg.block _ (block_lt h1) (fun e => by
    obtain ⟨cs', h3⟩ := hr _ e.symm
    rw [h1] at h3
    cases h3
    exact h2 rfl)).trans h1
  have hbox3 := keepB h.box (by decide)
  have keep : ∀ {e : TypeId} {size n : Nat} {v : Value} {xs : List Value}, e ≠ 41 → e ≠ 27 → W.ownsRow w.heap.size e size v n xs → (W'.setCell ⟨ob, 2, none⟩ (.slice p (x.defs.length + 1) c)).ownsRow w.heap.size e size v n xs := fun h1 h2 hrow =>
    row_keep (row_keep hrow hg (fun g e => by obtain ⟨cs, h3⟩ := hr g e; exact ⟨cs, _, _, h3, h1.symm⟩)) (grown_set W' ob 2 _) (fun g e => by cases e; exact ⟨_, _, _, hbox3, h2.symm⟩)
  have hB3 : Below w.heap.size w W' := h.bel.trans (below_grown hg h.bel.size (fun g hg => (World.ownsRow.lt h.own.d g hg).1))
  have setB : ∀ {b : Nat} {o : Obj}, W'.heap[b]? = some o → b ≠ ob → (W'.setCell ⟨ob, 2, none⟩ (.slice p (x.defs.length + 1) c)).heap[b]? = some o := fun h1 h2 => ((grown_set W' ob 2 _).block _ (block_lt h1) (fun e => h2 (Option.some.inj e))).trans h1
  have hmb : mb ≠ ob := fun e => by
    have h1 := h.many
    rw [e, h.box] at h1
    cases h1
  refine ⟨hbox3, grown_below hB3 hB3.size (grown_set W' ob 2 _) h.ge.2.1, h.ge, setB (keepB h.res (by decide)) h.ro, setB (keepB h.many (by decide)) hmb, ?_, ⟨keep (by decide) (by decide) h.own.t, keep (by decide) (by decide) h.own.s, ?_, keep (by decide) (by decide) h.own.l⟩, ?_, h.ro⟩
  · have := set_heap hbox3 2 (.slice p (x.defs.length + 1) c)
    rw [this]
    simp [OO]
  · have := row_keep ho (grown_set W' ob 2 (.slice p (x.defs.length + 1) c)) (fun g e => by cases e; exact ⟨_, _, _, hbox3, by decide⟩)
    unfold OwnD
    rw [List.length_append] at this ⊢
    exact this
  · refine rf_grown (rf_grown h.rd hg (fun g e => ⟨(World.ownsRow.lt h.own.d g e).1, fun e2 => ?_⟩)) (grown_set W' ob 2 _) (fun g e => by cases e; exact ⟨h.ge.2.1, h.ge.2.2.symm⟩)
    obtain ⟨cs, h3⟩ := hr g e
    rw [e2, hh] at h3
    cases h3
/-- one link more -/
theorem RdSt.link1 (h : RdSt w r0 mb ob rd m0 m1 m2 m3 body q x S W) {d : Txt × Txt × Int} {n : Nat} {p : Option Addr} {c : Nat} (ho : OwnK w.heap.size W' (.slice p n c) (x.links ++ [d])) (hn : x.links.length + 1 = n) (hg : W.grownBy W' (Value.ownBlock (.slice q.la x.links.length q.lc))) :
    W'.heap[ob]? = some (OO q x) ∧ RdSt w r0 mb ob rd m0 m1 m2 m3 body { q with la := p, lc := c } { x with links := x.links ++ [d] } S (W'.setCell ⟨ob, 3, none⟩ (.slice p n c)) := by
  subst hn
  obtain ⟨a, c', hh, -⟩ := h.rd
  have hr : ∀ g, Value.ownBlock (.slice q.la x.links.length q.lc) = some g → ∃ cs, W.heap[g]? = some (.cells cs 43 (0, 0)) := fun g e => row_block h.own.l e
  have keepB : ∀ {b : Nat} {cs : Array Value} {t : TypeId}, W.heap[b]? = some (.cells cs t (0, 0)) → t ≠ 43 → W'.heap[b]? = some (.cells cs t (0, 0)) := fun h1 h2 => (hg.block _ (block_lt h1) (fun e => by
    obtain ⟨cs', h3⟩ := hr _ e.symm
    rw [h1] at h3
    cases h3
    exact h2 rfl)).trans h1
  have hbox3 := keepB h.box (by decide)
  have keep : ∀ {e : TypeId} {size n : Nat} {v : Value} {xs : List Value}, e ≠ 43 → e ≠ 27 → W.ownsRow w.heap.size e size v n xs → (W'.setCell ⟨ob, 3, none⟩ (.slice p (x.links.length + 1) c)).ownsRow w.heap.size e size v n xs := fun h1 h2 hrow =>
    row_keep (row_keep hrow hg (fun g e => by obtain ⟨cs, h3⟩ := hr g e; exact ⟨cs, _, _, h3, h1.symm⟩)) (grown_set W' ob 3 _) (fun g e => by cases e; exact ⟨_, _, _, hbox3, h2.symm⟩)
  have hB3 : Below w.heap.size w W' := h.bel.trans (below_grown hg h.bel.size (fun g hg => (World.ownsRow.lt h.own.l g hg).1))
  have setB : ∀ {b : Nat} {o : Obj}, W'.heap[b]? = some o → b ≠ ob → (W'.setCell ⟨ob, 3, none⟩ (.slice p (x.links.length + 1) c)).heap[b]? = some o := fun h1 h2 => ((grown_set W' ob 3 _).block _ (block_lt h1) (fun e => h2 (Option.some.inj e))).trans h1
  have hmb : mb ≠ ob := fun e => by
    have h1 := h.many
    rw [e, h.box] at h1
    cases h1
  refine ⟨hbox3, grown_below hB3 hB3.size (grown_set W' ob 3 _) h.ge.2.1, h.ge, setB (keepB h.res (by decide)) h.ro, setB (keepB h.many (by decide)) hmb, ?_, ⟨keep (by decide) (by decide) h.own.t, keep (by decide) (by decide) h.own.s, keep (by decide) (by decide) h.own.d, ?_⟩, ?_, h.ro⟩
  · have := set_heap hbox3 3 (.slice p (x.links.length + 1) c)
    rw [this]
    simp [OO]
  · have := row_keep ho (grown_set W' ob 3 (.slice p (x.links.length + 1) c)) (fun g e => by cases e; exact ⟨_, _, _, hbox3, by decide⟩)
    unfold OwnK
    rw [List.length_append] at this ⊢
    exact this
  · refine rf_grown (rf_grown h.rd hg (fun g e => ⟨(World.ownsRow.lt h.own.l g e).1, fun e2 => ?_⟩)) (grown_set W' ob 3 _) (fun g e => by cases e; exact ⟨h.ge.2.1, h.ge.2.2.symm⟩)
    obtain ⟨cs, h3⟩ := hr g e
    rw [e2, hh] at h3
    cases h3
end

end Go.Proofs.Ytnlohmkgkihldaa.W
