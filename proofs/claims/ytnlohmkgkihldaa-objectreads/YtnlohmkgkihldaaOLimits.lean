/-
  The object of the law ObjectLimits, under way in its box: made, one definition more, one link more.
-/
import Derived.Test.YtnlohmkgkihldaaOCutsWalk
namespace Go.Proofs.Ytnlohmkgkihldaa.W
open Go.ChangeShapes Go.WideShapes Go.ChangeAt Go.RowKit
open Go.Proofs.Ytnlohmkgkihldaa.N (bs bs_data bs_of bs_size may may_pos retB)

theorem lim_fit (a b d l : Nat) (ha : a ≤ 600) (hb : b ≤ 600) (hd : d ≤ 100) (hl : l ≤ 100) : Fit (limOb a b d l) := by
  refine ⟨fun z hz => ?_, fun z hz => ?_, by simp [limOb]; unfold maxLen; omega, by simp [limOb]; unfold maxLen; omega, by simp [limOb]; unfold maxLen; omega, by simp [limOb]; unfold maxLen; omega, fun e he => ?_, fun e he => ?_⟩
  · rw [List.eq_of_mem_replicate hz]; exact ⟨by decide, by decide⟩
  · rw [List.eq_of_mem_replicate hz]; exact ⟨by decide, by decide⟩
  · obtain ⟨i, hi, rfl⟩ := List.mem_map.1 he
    exact ⟨by simp [dN, maxLen], by simp, by simp⟩
  · rw [List.eq_of_mem_replicate he]
    exact ⟨by simp [maxLen], by simp [maxLen], by decide, by decide⟩
/-- a row of noughts that was made -/
theorem own_made {base : Nat} {w : World} (n : Nat) (hb : base ≤ w.heap.size) (hn : n ≤ 1000000) : OwnW base (w.alloc (.cells (Array.replicate n (Value.int .u64 0)) 37)) (.slice (some ⟨w.heap.size, 0, none⟩) n n) (List.replicate n 0) :=
  ⟨by simp, Or.inr ⟨w.heap.size, n, Array.replicate n (Value.int .u64 0), by simp, hb, heap_alloc_new w _, by simp, by unfold maxLen; omega, by simp, by simp⟩⟩

theorem at_new {w : World} {o : Obj} {n : Nat} (h : n = w.heap.size) : (w.alloc o).heap[n]? = some o := by rw [h]; exact heap_alloc_new w o
theorem at_old {w : World} {o : Obj} {n : Nat} {r : Option Obj} (h : n < w.heap.size) (h2 : w.heap[n]? = r) : (w.alloc o).heap[n]? = r := (heap_alloc_old w o h).trans h2
theorem own_at {base : Nat} {W : World} {g n : Nat} (h : W.heap[g]? = some (.cells (Array.replicate n (Value.int .u64 0)) 37)) (hb : base ≤ g) (hn : n ≤ 1000000) : OwnW base W (.slice (some ⟨g, 0, none⟩) n n) (List.replicate n 0) :=
  ⟨by simp, Or.inr ⟨g, n, Array.replicate n (Value.int .u64 0), by simp, hb, h, by simp, by unfold maxLen; omega, by simp, by simp⟩⟩
/-- the object under way, in its box -/
structure LimAt (w1 : World) (ob a b d l : Nat) (q : Pl) (W : World) : Prop where
  bel : Below w1.heap.size w1 W
  ge : w1.heap.size ≤ ob
  box : W.heap[ob]? = some (OO q (limOb a b d l))
  own : OwnOb w1.heap.size W q (limOb a b d l)

theorem lim_start {w1 W : World} {ob g1 g2 a b : Nat} (hB : Below w1.heap.size w1 W) (h0 : w1.heap.size ≤ ob) (h1 : w1.heap.size ≤ g1) (h2 : w1.heap.size ≤ g2) (ha : a ≤ 600) (hb : b ≤ 600)
    (k0 : W.heap[ob]? = some (.cells #[.slice (some ⟨g1, 0, none⟩) a a, .slice (some ⟨g2, 0, none⟩) b b, .slice none 0 0, .slice none 0 0] 27)) (k1 : W.heap[g1]? = some (.cells (Array.replicate a (Value.int .u64 0)) 37)) (k2 : W.heap[g2]? = some (.cells (Array.replicate b (Value.int .u64 0)) 37)) :
    LimAt w1 ob a b 0 0 ⟨some ⟨g1, 0, none⟩, a, some ⟨g2, 0, none⟩, b, none, 0, none, 0⟩ W := by
  refine ⟨hB, h0, by rw [k0]; simp [OO, limOb], ?_, ?_, World.ownsRow_nil _ _ _ _, World.ownsRow_nil _ _ _ _⟩
  · simpa [limOb] using own_at k1 h1 (by omega)
  · simpa [limOb] using own_at k2 h2 (by omega)
/-- a row of its own is kept where blocks of other types change -/
theorem row_keep {base : Nat} {w w' : World} {e : TypeId} {size n : Nat} {v : Value} {xs : List Value} {r : Option Nat} (h : w.ownsRow base e size v n xs) (hg : w.grownBy w' r) (hr : ∀ g, r = some g → ∃ cs t fr, w.heap[g]? = some (.cells cs t fr) ∧ t ≠ e) : w'.ownsRow base e size v n xs := by
  obtain ⟨hl, h⟩ := h
  refine ⟨hl, ?_⟩
  rcases h with h | ⟨g, cap, cur, e1, hgb, hh, rr⟩
  · exact Or.inl h
  · refine Or.inr ⟨g, cap, cur, e1, hgb, (hg.block g (Array.getElem?_eq_some_iff.1 hh).1 (fun e2 => ?_)).trans hh, rr⟩
    obtain ⟨cs, t, fr, h1, h2⟩ := hr g e2.symm
    rw [hh] at h1
    cases h1
    exact h2 rfl
theorem row_block {base : Nat} {w : World} {e : TypeId} {size n : Nat} {v : Value} {xs : List Value} (h : w.ownsRow base e size v n xs) {g : Nat} (hg : v.ownBlock = some g) : ∃ cs, w.heap[g]? = some (.cells cs e (0, 0)) := by
  rcases h.2 with ⟨rfl, _⟩ | ⟨g', cap, cur, rfl, _, hh, _⟩
  · simp [Value.ownBlock] at hg
  · simp [Value.ownBlock] at hg
    subst hg
    exact ⟨cur, hh⟩
theorem cat_dN (k : Nat) {t : ByteArray} (ht : t = strOfNums [48 + (k : Int) / 10, 48 + (k : Int) % 10]) : (⟨#[101]⟩ : ByteArray) ++ t = bs (dN k) ∧ t.size = 2 := by
  subst ht
  refine ⟨?_, by simp [strOfNums_size]⟩
  rw [← bs_of ((⟨#[101]⟩ : ByteArray) ++ _)]
  congr 1
theorem lim_defs_succ (a b k l : Nat) : (limOb a b k l).defs ++ [(dN k, 0)] = (limOb a b (k + 1) l).defs := by simp [limOb, List.range_succ]
theorem lim_links_succ (a b k l : Nat) : (limOb a b k l).links ++ [([], [120], 0)] = (limOb a b k (l + 1)).links := by simp [limOb, List.replicate_succ']
theorem lim_dl (a b k l : Nat) : (limOb a b k l).defs.length = k := by simp [limOb]
theorem lim_ll (a b k l : Nat) : (limOb a b k l).links.length = l := by simp [limOb]
theorem set_heap {w : World} {b : Nat} {cs : Array Value} {t : TypeId} (h : w.heap[b]? = some (.cells cs t (0, 0))) (j : Nat) (v : Value) : (w.setCell ⟨b, j, none⟩ v).heap[b]? = some (.cells (cs.setIfInBounds j v) t (0, 0)) := set_row h j v

/-- one definition more -/
theorem LimAt.def1 {w1 W W' W3 : World} {ob a b k l : Nat} {q : Pl} (h : LimAt w1 ob a b k l q W) (hb : Below W.heap.size W W') {p : Option Addr} {c : Nat} (ho : OwnD w1.heap.size W3 (.slice p (k + 1) c) ((limOb a b k l).defs ++ [(dN k, 0)])) (hg : W'.grownBy W3 (Value.ownBlock (.slice q.da (limOb a b k l).defs.length q.dc))) :
    W3.heap[ob]? = some (OO q (limOb a b k l)) ∧ LimAt w1 ob a b (k + 1) l { q with da := p, dc := c } (W3.setCell ⟨ob, 2, none⟩ (.slice p (k + 1) c)) := by
  have hO := h.own.below hb
  have hbox := (hb.block ob (Array.getElem?_eq_some_iff.1 h.box).1).trans h.box
  have hr : ∀ g, Value.ownBlock (.slice q.da (limOb a b k l).defs.length q.dc) = some g → ∃ cs, W'.heap[g]? = some (.cells cs 41 (0, 0)) := fun g e => row_block hO.d e
  have hbox3 : W3.heap[ob]? = some (OO q (limOb a b k l)) := (hg.block ob (Array.getElem?_eq_some_iff.1 hbox).1 (fun e => by
    obtain ⟨cs, h1⟩ := hr ob e.symm
    rw [hbox] at h1
    cases h1)).trans hbox
  have keep : ∀ {e : TypeId} {size n : Nat} {v : Value} {xs : List Value}, e ≠ 41 → e ≠ 27 → W'.ownsRow w1.heap.size e size v n xs → (W3.setCell ⟨ob, 2, none⟩ (.slice p (k + 1) c)).ownsRow w1.heap.size e size v n xs := fun h1 h2 hrow =>
    row_keep (row_keep hrow hg (fun g e => by obtain ⟨cs, h3⟩ := hr g e; exact ⟨cs, _, _, h3, h1.symm⟩)) (grown_set W3 ob 2 _) (fun g e => by cases e; exact ⟨_, _, _, hbox3, h2.symm⟩)
  rw [lim_defs_succ] at ho
  have hB3 : Below w1.heap.size w1 W3 := (h.bel.trans (hb.mono h.bel.size)).trans (below_grown hg (Nat.le_trans h.bel.size hb.size) (fun g e => (World.ownsRow.lt hO.d g e).1))
  refine ⟨hbox3, grown_below hB3 hB3.size (grown_set W3 ob 2 _) h.ge, h.ge, ?_, ⟨keep (by decide) (by decide) hO.t, keep (by decide) (by decide) hO.s, ?_, keep (by decide) (by decide) hO.l⟩⟩
  · have := set_heap hbox3 2 (.slice p (k + 1) c)
    rw [this]
    simp [OO, limOb]
  · have := row_keep ho (grown_set W3 ob 2 (.slice p (k + 1) c)) (fun g e => by cases e; exact ⟨_, _, _, hbox3, by decide⟩)
    unfold OwnD
    rw [lim_dl]
    unfold OwnD at this
    rw [lim_dl] at this
    exact this
/-- one link more -/
theorem LimAt.link1 {w1 W W' W3 : World} {ob a b k l : Nat} {q : Pl} (h : LimAt w1 ob a b k l q W) (hb : Below W.heap.size W W') {p : Option Addr} {c : Nat} (ho : OwnK w1.heap.size W3 (.slice p (l + 1) c) ((limOb a b k l).links ++ [([], [120], 0)])) (hg : W'.grownBy W3 (Value.ownBlock (.slice q.la (limOb a b k l).links.length q.lc))) :
    W3.heap[ob]? = some (OO q (limOb a b k l)) ∧ LimAt w1 ob a b k (l + 1) { q with la := p, lc := c } (W3.setCell ⟨ob, 3, none⟩ (.slice p (l + 1) c)) := by
  have hO := h.own.below hb
  have hbox := (hb.block ob (Array.getElem?_eq_some_iff.1 h.box).1).trans h.box
  have hr : ∀ g, Value.ownBlock (.slice q.la (limOb a b k l).links.length q.lc) = some g → ∃ cs, W'.heap[g]? = some (.cells cs 43 (0, 0)) := fun g e => row_block hO.l e
  have hbox3 : W3.heap[ob]? = some (OO q (limOb a b k l)) := (hg.block ob (Array.getElem?_eq_some_iff.1 hbox).1 (fun e => by
    obtain ⟨cs, h1⟩ := hr ob e.symm
    rw [hbox] at h1
    cases h1)).trans hbox
  have keep : ∀ {e : TypeId} {size n : Nat} {v : Value} {xs : List Value}, e ≠ 43 → e ≠ 27 → W'.ownsRow w1.heap.size e size v n xs → (W3.setCell ⟨ob, 3, none⟩ (.slice p (l + 1) c)).ownsRow w1.heap.size e size v n xs := fun h1 h2 hrow =>
    row_keep (row_keep hrow hg (fun g e => by obtain ⟨cs, h3⟩ := hr g e; exact ⟨cs, _, _, h3, h1.symm⟩)) (grown_set W3 ob 3 _) (fun g e => by cases e; exact ⟨_, _, _, hbox3, h2.symm⟩)
  rw [lim_links_succ] at ho
  have hB3 : Below w1.heap.size w1 W3 := (h.bel.trans (hb.mono h.bel.size)).trans (below_grown hg (Nat.le_trans h.bel.size hb.size) (fun g e => (World.ownsRow.lt hO.l g e).1))
  refine ⟨hbox3, grown_below hB3 hB3.size (grown_set W3 ob 3 _) h.ge, h.ge, ?_, ⟨keep (by decide) (by decide) hO.t, keep (by decide) (by decide) hO.s, keep (by decide) (by decide) hO.d, ?_⟩⟩
  · have := set_heap hbox3 3 (.slice p (l + 1) c)
    rw [this]
    simp [OO, limOb]
  · have := row_keep ho (grown_set W3 ob 3 (.slice p (l + 1) c)) (fun g e => by cases e; exact ⟨_, _, _, hbox3, by decide⟩)
    unfold OwnK
    rw [lim_ll]
    unfold OwnK at this
    rw [lim_ll] at this
    exact this
def CutLim (w1 : World) (a b : Nat) (v : Value) (W : World) : Prop := ∃ ob q, v = .pointer (some ⟨ob, 0, none⟩) ∧ LimAt w1 ob a b 0 0 q W

theorem lim_six0 (w1 : World) (a b : Nat) (ha : a ≤ 600) (hb : b ≤ 600) : CutLim w1 a b (.pointer (some ⟨w1.heap.size + 1 + 1, 0, none⟩)) (((w1.alloc (.cells (Array.replicate a (Value.int .u64 0)) 37)).alloc (.cells (Array.replicate b (Value.int .u64 0)) 37)).alloc (.cells #[.slice (some ⟨w1.heap.size, 0, none⟩) a a, .slice (some ⟨w1.heap.size + 1, 0, none⟩) b b, .slice none 0 0, .slice none 0 0] 27)).drew :=
  ⟨_, _, rfl, lim_start (g1 := w1.heap.size) (g2 := w1.heap.size + 1) (bel2 (bel2 (one_new _ _) (one_new _ _)) (bel2 (one_new _ _) (below_drewN _ 1))) (by omega) (by omega) (by omega) ha hb (at_new (by simp)) (at_old (by simp; omega) (at_old (by simp) (at_new rfl))) (at_old (by simp) (at_new (by simp)))⟩
theorem lim_six1 (w1 : World) (a b : Nat) (ha : a ≤ 600) (hb : b ≤ 600) : CutLim w1 a b (.pointer (some ⟨w1.heap.size + 1, 0, none⟩)) (((w1.alloc (.cells (Array.replicate a (Value.int .u64 0)) 37)).alloc (.cells #[.slice (some ⟨w1.heap.size, 0, none⟩) a a, .slice (some ⟨w1.heap.size + 1 + 1, 0, none⟩) b b, .slice none 0 0, .slice none 0 0] 27)).alloc (.cells (Array.replicate b (Value.int .u64 0)) 37)).drew :=
  ⟨_, _, rfl, lim_start (g1 := w1.heap.size) (g2 := w1.heap.size + 1 + 1) (bel2 (bel2 (one_new _ _) (one_new _ _)) (bel2 (one_new _ _) (below_drewN _ 1))) (by omega) (by omega) (by omega) ha hb (at_old (by simp) (at_new (by simp))) (at_old (by simp; omega) (at_old (by simp) (at_new rfl))) (at_new (by simp))⟩
theorem lim_six2 (w1 : World) (a b : Nat) (ha : a ≤ 600) (hb : b ≤ 600) : CutLim w1 a b (.pointer (some ⟨w1.heap.size + 1 + 1, 0, none⟩)) (((w1.alloc (.cells (Array.replicate b (Value.int .u64 0)) 37)).alloc (.cells (Array.replicate a (Value.int .u64 0)) 37)).alloc (.cells #[.slice (some ⟨w1.heap.size + 1, 0, none⟩) a a, .slice (some ⟨w1.heap.size, 0, none⟩) b b, .slice none 0 0, .slice none 0 0] 27)).drew :=
  ⟨_, _, rfl, lim_start (g1 := w1.heap.size + 1) (g2 := w1.heap.size) (bel2 (bel2 (one_new _ _) (one_new _ _)) (bel2 (one_new _ _) (below_drewN _ 1))) (by omega) (by omega) (by omega) ha hb (at_new (by simp)) (at_old (by simp) (at_new (by simp))) (at_old (by simp; omega) (at_old (by simp) (at_new rfl)))⟩
theorem lim_six3 (w1 : World) (a b : Nat) (ha : a ≤ 600) (hb : b ≤ 600) : CutLim w1 a b (.pointer (some ⟨w1.heap.size + 1, 0, none⟩)) (((w1.alloc (.cells (Array.replicate b (Value.int .u64 0)) 37)).alloc (.cells #[.slice (some ⟨w1.heap.size + 1 + 1, 0, none⟩) a a, .slice (some ⟨w1.heap.size, 0, none⟩) b b, .slice none 0 0, .slice none 0 0] 27)).alloc (.cells (Array.replicate a (Value.int .u64 0)) 37)).drew :=
  ⟨_, _, rfl, lim_start (g1 := w1.heap.size + 1 + 1) (g2 := w1.heap.size) (bel2 (bel2 (one_new _ _) (one_new _ _)) (bel2 (one_new _ _) (below_drewN _ 1))) (by omega) (by omega) (by omega) ha hb (at_old (by simp) (at_new (by simp))) (at_new (by simp)) (at_old (by simp; omega) (at_old (by simp) (at_new rfl)))⟩
theorem lim_six4 (w1 : World) (a b : Nat) (ha : a ≤ 600) (hb : b ≤ 600) : CutLim w1 a b (.pointer (some ⟨w1.heap.size, 0, none⟩)) (((w1.alloc (.cells #[.slice (some ⟨w1.heap.size + 1, 0, none⟩) a a, .slice (some ⟨w1.heap.size + 1 + 1, 0, none⟩) b b, .slice none 0 0, .slice none 0 0] 27)).alloc (.cells (Array.replicate a (Value.int .u64 0)) 37)).alloc (.cells (Array.replicate b (Value.int .u64 0)) 37)).drew :=
  ⟨_, _, rfl, lim_start (g1 := w1.heap.size + 1) (g2 := w1.heap.size + 1 + 1) (bel2 (bel2 (one_new _ _) (one_new _ _)) (bel2 (one_new _ _) (below_drewN _ 1))) (by omega) (by omega) (by omega) ha hb (at_old (by simp; omega) (at_old (by simp) (at_new rfl))) (at_old (by simp) (at_new (by simp))) (at_new (by simp))⟩
theorem lim_six5 (w1 : World) (a b : Nat) (ha : a ≤ 600) (hb : b ≤ 600) : CutLim w1 a b (.pointer (some ⟨w1.heap.size, 0, none⟩)) (((w1.alloc (.cells #[.slice (some ⟨w1.heap.size + 1 + 1, 0, none⟩) a a, .slice (some ⟨w1.heap.size + 1, 0, none⟩) b b, .slice none 0 0, .slice none 0 0] 27)).alloc (.cells (Array.replicate b (Value.int .u64 0)) 37)).alloc (.cells (Array.replicate a (Value.int .u64 0)) 37)).drew :=
  ⟨_, _, rfl, lim_start (g1 := w1.heap.size + 1 + 1) (g2 := w1.heap.size + 1) (bel2 (bel2 (one_new _ _) (one_new _ _)) (bel2 (one_new _ _) (below_drewN _ 1))) (by omega) (by omega) (by omega) ha hb (at_old (by simp; omega) (at_old (by simp) (at_new rfl))) (at_new (by simp)) (at_old (by simp) (at_new (by simp)))⟩

end Go.Proofs.Ytnlohmkgkihldaa.W
