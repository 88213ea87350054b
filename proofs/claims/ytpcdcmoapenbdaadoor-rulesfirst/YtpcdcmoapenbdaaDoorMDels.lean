/-
  The document's own Len and Unname.
  The document's own Delete.
  The document's own Delete, of a directory.
-/
import Derived.Test.YtpcdcmoapenbdaaDoorMNames
import Derived.Test.YtpcdcmoapenbdaaDoorMName
namespace Go.Proofs.YtpcdcmoapenbdaaDoor.T
open Go.ChangeShapes Go.WideShapes Go.ChangeAt Go.RowKit
open Go.Proofs.YtpcdcmoapenbdaaDoor.N (bs bs_data bs_size bs_inj bs_of Glob)
open Go.Proofs.YtpcdcmoapenbdaaDoor.A (Tm TRow)

/-- a slice that holds these entries -/
def ERow (w : World) (a : Option Addr) (c : Nat) (l : List En) : Prop :=
  l.length ≤ c ∧ (a = none → c = 0) ∧ (0 < l.length → ∃ bk o, a = some ⟨bk, o, none⟩ ∧ bk < w.heap.size ∧ ∀ (j : Nat) u, (l.flatMap enC)[j]? = some u → w.cell? ⟨bk, o + j, none⟩ = some u)
theorem ERow.below {w w' : World} {a : Option Addr} {c : Nat} {l : List En} (h : ERow w a c l) (hb : Below w.heap.size w w') : ERow w' a c l :=
  ⟨h.1, h.2.1, fun h0 => by
    obtain ⟨bk, o, e, hl, hc⟩ := h.2.2 h0
    exact ⟨bk, o, e, Nat.lt_of_lt_of_le hl hb.size, fun j u hu => (hb.cell (p := ⟨bk, o + j, none⟩) hl).trans (hc j u hu)⟩⟩
theorem ERow.nil (w : World) (ad : Addr) (c : Nat) : ERow w (some ad) c [] := ⟨Nat.zero_le _, fun h => (by cases h), fun h => absurd h (by simp)⟩

/-- entries appended to a slice of one's own, at a step of a region that draws its order -/
theorem step_ens {P : Program} (hP : P = Tryd.prog) {base : Nat} {w : World} {v : Value} {l : List En} {ops : Array Oper} {o : Oper} {a : Act} {K : Act → World → Prop} {Q : Exit → Act → World → Prop} {EE : Prop} (hgd : o.guard = none) (s y : Operand)
    (ho : o.op = .call { callee := .builtin .append, args := #[s, y], argTypes := #[65, 65] })
    (hs : a.eval s = v) (hown : w.ownsRow base 99 3 v l.length (l.flatMap enC)) (ao : Option Addr) (c n : Nat) (ms : List En) (hn : ms.length = n) (hy : a.eval y = .slice ao n c) (hrow : ERow w ao c ms) (hlen : l.length + ms.length ≤ 100000) (hbase : base ≤ w.heap.size)
    (h : ∀ a' n' c' w', n' = l.length + n → w'.ownsRow base 99 3 (.slice a' n' c') (l ++ ms).length ((l ++ ms).flatMap enC) → w.grownBy w' v.ownBlock → K (a.put o.dst (.slice a' n' c')) w') : if Region.wanted o (yielded ops a.tmps) = true then Oper.wp P o a w K Q else EE := by
  subst hP
  subst hn
  have hw : Region.wanted o (yielded ops a.tmps) = true := by simp [Region.wanted, hgd]
  rw [if_pos hw]
  have h' : ∀ v' w', w'.ownsRow base 99 3 v' (l ++ ms).length ((l ++ ms).flatMap enC) → w.grownBy w' v.ownBlock → K (a.put o.dst v') w' := fun v' w' h1 h2 => by
    obtain ⟨a', c', e, _⟩ := row_form h1
    subst e
    exact h a' _ c' w' (by simp) h1 h2
  obtain ⟨i0, hi, hz0, hz1, hz2⟩ := info_parts info_en
  cases ao with
  | none =>
    have hc : c = 0 := hrow.2.1 rfl
    have hm : ms = [] := List.length_eq_zero_iff.1 (by have := hrow.1; omega)
    subst hc hm
    have hrun := run_append_owned_none (P := Tryd.prog) (w := w) base 65 o.type 99 i0 3 Tryd.underlying65 hi v _ _ hown
    unfold Oper.wp
    have hy' : a.eval y = .slice none 0 0 := by simpa using hy
    simp [execOp, ho, resolve, invoke, builtin, hs, hy', hrun, Result.andThen]
    exact h' v w (by simpa using hown) (World.grownBy.refl _ _)
  | some ad =>
    refine wp_append_own w s y 65 ho base 99 i0 _ 3 32 Tryd.underlying65 hi hz0 hz1 hz2 rfl (by decide) v _ _ hs hown ad ms.length c (ms.flatMap enC) hy (flat_len enC 3 enC_len ms) ?_ ?_ (by unfold maxLen; omega) (by omega) hbase ?_
    · intro j u hj
      have h0 : 0 < ms.length := by
        cases ms with
        | nil => simp at hj
        | cons => simp
      obtain ⟨bk, o', e, _, hc⟩ := hrow.2.2 h0
      cases e
      rw [Addr.add_lit]
      exact hc j u hj
    · intro u hu
      obtain ⟨e, _, he⟩ := List.mem_flatMap.1 hu
      simp only [enC, List.mem_cons, List.not_mem_nil, or_false] at he
      rcases he with rfl | rfl | rfl <;> rfl
    · intro v' w' h1 h2 _
      refine h' v' w' ?_ h2
      rw [List.length_append, List.flatMap_append]
      exact h1

section
variable {w : World} {b : Nat} {F : Nat → Prop} {m : Ms}

theorem mlen_any (h : MAt w b F m) (d : Int) : Calls Tryd.prog 51 #[TP b, .int .i64 d] w fun e w' => e = .returned (.int .i64 (cntD m.E d)) ∧ Below w.heap.size w w' := by
  have hn := mnamesD_any h d
  clear h
  go_enter Tryd.func51, Tryd.ntmps51
  go_wp2_with (go_at_call 69; ((refine hn.mono ?_); rintro e w1 ⟨a1, c1, rfl, b1⟩))
  go_ret
  exact ⟨rfl, b1⟩

/-- the entries ahead of one and behind it -/
theorem ML.parts {bl : List (Br × Value)} {E : List En} {D : List Bool} {vB vD : Value} {g cap : Nat} (h : ML w b F bl E D vB (.slice (some ⟨g, 0, none⟩) E.length cap) vD) {k : Nat} (hk : k < E.length) :
    ERow w (some ⟨g, 0, none⟩) cap (E.take k) ∧ (cap ≠ k + 1 → ERow w (some ⟨g, (k + 1) * 3, none⟩) (cap - (k + 1)) (E.drop (k + 1))) ∧ (cap = k + 1 → E.drop (k + 1) = []) ∧ k + 1 ≤ cap := by
  have hr := h.rL
  obtain ⟨a', c', e', hcc, _⟩ := row_form hr
  cases e'
  have hgl : g < w.heap.size := by
    obtain ⟨g', e, hl, _⟩ := h.eAt hk
    cases e
    exact hl
  have hcell : ∀ j u, (E.flatMap enC)[j]? = some u → w.cell? ⟨g, j, none⟩ = some u := fun j u hu => by
    rw [World.ownsRow.cellAt hr j (by rw [← flat_len enC 3 enC_len E]; exact (List.getElem?_eq_some_iff.1 hu).1)]
    exact hu
  refine ⟨⟨by rw [List.length_take]; omega, (fun e => by cases e), fun _ => ⟨g, 0, rfl, hgl, fun j u hu => ?_⟩⟩, fun _ => ⟨by rw [List.length_drop]; omega, (fun e => by cases e), fun _ => ⟨g, (k + 1) * 3, rfl, hgl, fun j u hu => ?_⟩⟩, fun e => List.drop_of_length_le (by omega), by omega⟩
  · rw [Nat.zero_add]
    refine hcell j u ?_
    have : E.flatMap enC = (E.take k).flatMap enC ++ (E.drop k).flatMap enC := by rw [← List.flatMap_append, List.take_append_drop]
    rw [this, List.getElem?_append_left (List.getElem?_eq_some_iff.1 hu).1]
    exact hu
  · refine hcell _ u ?_
    have : E.flatMap enC = (E.take (k + 1)).flatMap enC ++ (E.drop (k + 1)).flatMap enC := by rw [← List.flatMap_append, List.take_append_drop]
    have hl : ((E.take (k + 1)).flatMap enC).length = (k + 1) * 3 := by rw [flat_len enC 3 enC_len, List.length_take]; congr 1; omega
    rw [this, List.getElem?_append_right (by omega), hl, Nat.add_sub_cancel_left]
    exact hu

theorem munname_no (h : MAt w b F m) {d : Int} {s : Txt} (h1 : at? m.E d s = none) :
    Calls Tryd.prog 24 #[TP b, .int .i64 d, .string (bs s)] w fun e w' => e = .returned (.int .i64 4) ∧ w = w' := by
  have a1 := mat_is h (d := d) (s := s) (r := -1) (by rw [h1]; rfl)
  clear h h1
  go_enter Tryd.func24, Tryd.ntmps24
  go_wp2_with (go_at_call 45; ((with_reducible refine a1.mono ?_); rintro e w1 ⟨rfl, rfl⟩))
  go_ret
  exact ⟨rfl, rfl⟩

theorem mnames_is (h : MAt w b F m) {id c : Nat} (e : cntI m.E id = c) :
    Calls Tryd.prog 49 #[TP b, .int .i64 (id : Int)] w fun e w' => e = .returned (.int .i64 c) ∧ w = w' := by
  subst e
  exact mnames_any h id

theorem munname_busy (h : MAt w b F m) {d : Int} {s : Txt} {k : Nat} (h1 : at? m.E d s = some k) (hk : k < m.E.length) (hc : cntI m.E m.E[k].2.1 = 1) :
    Calls Tryd.prog 24 #[TP b, .int .i64 d, .string (bs s)] w fun e w' => e = .returned (.int .i64 16) ∧ w = w' := by
  have a1 := mat_is h (d := d) (s := s) (r := (k : Int)) (by rw [h1]; rfl)
  have a2 := mnames_is h hc
  obtain ⟨bl, vB, vL, vD, h5, hB⟩ := h
  obtain ⟨aL, cap, rfl, hcc, hn, hg⟩ := h5.eForm
  obtain ⟨g, rfl, hgl, q0, q1, q2⟩ := h5.eAt hk
  generalize m.E[k].2.1 = ii at *
  have c1 := h5.c1
  have bl5 := h5.lt
  clear h5 hB h1 hc q0 q2
  go_enter Tryd.func24, Tryd.ntmps24
  go_wp2_with (first
    | (go_at_call 45; ((with_reducible refine a1.mono ?_); rintro e w1 ⟨rfl, rfl⟩))
    | (go_at_call 49; ((refine a2.mono ?_); rintro e w1 ⟨rfl, rfl⟩)))
  go_ret
  exact ⟨rfl, rfl⟩

def unnameM (m : Ms) (k : Nat) : Ms := ⟨m.B, m.E.take k ++ m.E.drop (k + 1), m.D⟩

theorem ml_s1 {w : World} {b : Nat} {vB vL vD : Value} (h : w.heap[b]? = some (MtO vB vL vD)) : w.cell? ⟨b, 1, none⟩ = some vL := (mto_cells h).2.1

theorem un_now {bl : List (Br × Value)} {vB vL vD : Value} {F0 : Nat → Prop} (h : ML w.drew b F0 bl m.E m.D vB vL vD) (hB : bl.map Prod.fst = m.B) (hlen : m.E.length ≤ 1000) {w7 : World} {a7 : Option Addr} {n7 c7 k : Nat} (B7 : Below w.heap.size w.drew w7) (o7 : w7.ownsRow w.heap.size 99 3 (.slice a7 n7 c7) ([] ++ m.E.take k ++ m.E.drop (k + 1)).length (([] ++ m.E.take k ++ m.E.drop (k + 1)).flatMap enC)) :
    Now F0 w b (unnameM m k) (w7.setCell ⟨b, 1, none⟩ (.slice a7 n7 c7)) := by
  rw [List.nil_append] at o7
  have ap : Apd w.drew w7 vL (.slice a7 n7 c7) := ⟨B7.os, B7.tape, B7.output, B7.size, fun i hi _ => B7.block i hi, fun k e => Or.inr (World.ownsRow.lt o7 k e).1, fun k e => (World.ownsRow.lt o7 k e).2⟩
  have o8 : w7.ownsRow 0 99 3 (.slice a7 n7 c7) (m.E.take k ++ m.E.drop (k + 1)).length ((m.E.take k ++ m.E.drop (k + 1)).flatMap enC) := by
    refine ⟨o7.1, ?_⟩
    rcases o7.2 with h2 | ⟨g, cap, cur, e, h3, r⟩
    · exact Or.inl h2
    · exact Or.inr ⟨g, cap, cur, e, Nat.zero_le _, r⟩
  refine now_L (Went.refl F0 w) h hB ap o8 (by have h1 := List.length_take_le k m.E; have h2 : (m.E.take k ++ m.E.drop (k + 1)).length ≤ m.E.length := (by simp; omega); omega) (fun e he => h.ids e ?_)
  rcases List.mem_append.1 he with he | he
  · exact List.mem_of_mem_take he
  · exact List.mem_of_mem_drop he

set_option maxHeartbeats 8000000 in
set_option maxRecDepth 8000 in
theorem munname_at (h : MAt w b F m) {d : Int} {s : Txt} {k c : Nat} (h1 : at? m.E d s = some k) (hk : k < m.E.length) (hc : cntI m.E m.E[k].2.1 = c) (hc1 : ¬ c = 1) :
    Calls Tryd.prog 24 #[TP b, .int .i64 d, .string (bs s)] w fun e w' => e = .returned (.int .i64 0) ∧ Now F w b (unnameM m k) w' := by
  have a1 := mat_is h (d := d) (s := s) (r := (k : Int)) (by rw [h1]; rfl)
  have a2 := mnames_is h hc
  obtain ⟨bl, vB, vL, vD, h5, hB⟩ := h
  obtain ⟨aL, cap, rfl, hcc, hn, hg⟩ := h5.eForm
  obtain ⟨g, rfl, hgl, q0, q1, q2⟩ := h5.eAt hk
  generalize m.E[k].2.1 = ii at *
  have HM := Lib.hid (h5.below (Below.refl _ _).drew)
  have HB := Lib.hid hB
  have c1 := h5.c1
  have f1 := h5.fz
  have bl5 := h5.lt
  have hlen := h5.len.2.1
  obtain ⟨r1, r2, r3, hkc⟩ := HM.out.parts hk
  have R1 := Lib.hid r1
  clear hg hn
  have e1 : ((c : Int) == 1) = false := by rw [beq_eq_false_iff_ne]; exact fun h => hc1 (Int.ofNat.inj h)
  have v1 : (0 : Int) ≤ (k : Int) + 1 := by omega
  have v2 : (k : Int) + 1 ≤ (m.E.length : Int) := by omega
  have v3 : ((k : Int) + 1).toNat = k + 1 := by omega
  have v4 : (k : Int) + 1 ≤ (cap : Int) := by omega
  have v5 : IntKind.i64.wrap ((k : Int) + 1) = (k : Int) + 1 := IntWalk.i64_in _ (by omega)
  have v6 : (k : Int) ≤ (m.E.length : Int) := by omega
  have v7 : (k : Int) ≤ (cap : Int) := by omega
  have v8 : (k : Int) ≤ (k : Int) + 1 := by omega
  have l1 : Hid ((m.E.take k).length = k) := Lib.hid (by rw [List.length_take]; omega)
  have l2 : Hid ((m.E.drop (k + 1)).length = m.E.length - (k + 1)) := Lib.hid List.length_drop
  clear h5 hB h1 hc hc1 q0 q2 r1
  by_cases hcap : cap = k + 1
  · have R2 : Hid (ERow w.drew (some ⟨g, 0, none⟩) (cap - (k + 1)) (m.E.drop (k + 1))) := Lib.hid (by rw [r3 hcap]; exact ERow.nil _ _ _)
    have l3 : Hid ((m.E.drop (k + 1)).length = 0) := Lib.hid (by rw [r3 hcap]; rfl)
    subst hcap
    clear r2 r3
    go_enter Tryd.func24, Tryd.ntmps24
    go_wp2_with (first
      | (go_at_call 45; ((with_reducible refine a1.mono ?_); rintro e w1 ⟨rfl, rfl⟩))
      | (go_at_call 49; ((refine a2.mono ?_); rintro e w1 ⟨rfl, rfl⟩)))
    clear a1 a2 q1
    go_region_law (first
      | ((refine step_ens (P := Tryd.prog) rfl (base := w.heap.size) (w := w.drew) (v := .slice none 0 0) (l := []) rfl (.const (.slice none 0 0)) (.tmp 33) rfl rfl (World.ownsRow_nil _ _ _ _) (some ⟨g, 0, none⟩) (k + 1) k (m.E.take k) l1.out (by first | (simp [Act.eval]; done) | (simp [Act.eval, Act.put]; done)) R1.out (by have := l1.out; simp only [List.length_nil]; omega) (Nat.le_refl _) ?_; intro a6 n6 c6 w6 hn6 o6 g6; clear hn6; have B6 := Lib.hid ((Below.refl w.heap.size w.drew).grown g6 (Nat.le_refl _) (fun k e => by cases e)); have O6 := Lib.hid o6; obtain ⟨k0, k1, k2, kf, kl⟩ := mto_cells (HM.out.below B6.out).head; clear o6 g6))
      | ((refine step_ens (P := Tryd.prog) rfl (base := w.heap.size) (w := w6) (v := .slice a6 n6 c6) (l := [] ++ m.E.take k) rfl (.tmp 34) (.tmp 41) rfl (by first | (simp [Act.eval]; done) | (simp [Act.eval, Act.put]; done)) O6.out (some ⟨g, 0, none⟩) (k + 1 - (k + 1)) 0 (m.E.drop (k + 1)) l3.out (by first | (simp [Act.eval]; done) | (simp [Act.eval, Act.put]; done)) (R2.out.below B6.out) (by have := l1.out; have := l2.out; simp only [List.nil_append]; omega) B6.out.size ?_; intro a7 n7 c7 w7 hn7 o7 g7; clear hn7; have B7 := Lib.hid ((B6.out).grown g7 B6.out.size (fun k e => (World.ownsRow.lt O6.out k e).1)); have O7 := Lib.hid o7; obtain ⟨j0, j1, j2, jf, jl⟩ := mto_cells (HM.out.below B7.out).head; clear o7 g7))
      | fail)
    all_goals go_wp2
    all_goals go_ret
    all_goals exact ⟨rfl, un_now HM.out HB.out hlen B7.out O7.out⟩
  · have R2 := Lib.hid (r2 hcap)
    clear r2 r3
    go_enter Tryd.func24, Tryd.ntmps24
    go_wp2_with (first
      | (go_at_call 45; ((with_reducible refine a1.mono ?_); rintro e w1 ⟨rfl, rfl⟩))
      | (go_at_call 49; ((refine a2.mono ?_); rintro e w1 ⟨rfl, rfl⟩)))
    clear a1 a2 q1
    go_region_law (first
      | ((refine step_ens (P := Tryd.prog) rfl (base := w.heap.size) (w := w.drew) (v := .slice none 0 0) (l := []) rfl (.const (.slice none 0 0)) (.tmp 33) rfl rfl (World.ownsRow_nil _ _ _ _) (some ⟨g, 0, none⟩) cap k (m.E.take k) l1.out (by first | (simp [Act.eval]; done) | (simp [Act.eval, Act.put]; done)) R1.out (by have := l1.out; simp only [List.length_nil]; omega) (Nat.le_refl _) ?_; intro a6 n6 c6 w6 hn6 o6 g6; clear hn6; have B6 := Lib.hid ((Below.refl w.heap.size w.drew).grown g6 (Nat.le_refl _) (fun k e => by cases e)); have O6 := Lib.hid o6; obtain ⟨k0, k1, k2, kf, kl⟩ := mto_cells (HM.out.below B6.out).head; clear o6 g6))
      | ((refine step_ens (P := Tryd.prog) rfl (base := w.heap.size) (w := w6) (v := .slice a6 n6 c6) (l := [] ++ m.E.take k) rfl (.tmp 34) (.tmp 41) rfl (by first | (simp [Act.eval]; done) | (simp [Act.eval, Act.put]; done)) O6.out (some ⟨g, (k + 1) * 3, none⟩) (cap - (k + 1)) (m.E.length - (k + 1)) (m.E.drop (k + 1)) l2.out (by first | (simp [Act.eval]; done) | (simp [Act.eval, Act.put]; done)) (R2.out.below B6.out) (by have := l1.out; have := l2.out; simp only [List.nil_append]; omega) B6.out.size ?_; intro a7 n7 c7 w7 hn7 o7 g7; clear hn7; have B7 := Lib.hid ((B6.out).grown g7 B6.out.size (fun k e => (World.ownsRow.lt O6.out k e).1)); have O7 := Lib.hid o7; obtain ⟨j0, j1, j2, jf, jl⟩ := mto_cells (HM.out.below B7.out).head; clear o7 g7))
      | fail)
    all_goals go_wp2
    all_goals go_ret
    all_goals exact ⟨rfl, un_now HM.out HB.out hlen B7.out O7.out⟩

end

end Go.Proofs.YtpcdcmoapenbdaaDoor.T

namespace Go.Proofs.YtpcdcmoapenbdaaDoor.T
open Go.ChangeShapes Go.WideShapes Go.ChangeAt Go.RowKit
open Go.Proofs.YtpcdcmoapenbdaaDoor.N (bs bs_data bs_size bs_inj bs_of Glob)
open Go.Proofs.YtpcdcmoapenbdaaDoor.A (Tm TRow)

theorem ML.setD {w : World} {b : Nat} {F : Nat → Prop} {bl : List (Br × Value)} {E : List En} {D : List Bool} {vB vL : Value} {g n cap : Nat} (h : ML w b F bl E D vB vL (.slice (some ⟨g, 0, none⟩) n cap)) (i : Nat) :
    ML (w.setCell ⟨g, i, none⟩ (.bool false)) b F bl E (D.set i false) vB vL (.slice (some ⟨g, 0, none⟩) n cap) ∧ Went F w F (w.setCell ⟨g, i, none⟩ (.bool false)) := by
  obtain ⟨cs0, hg⟩ := h.tagD (k := g) rfl
  have hn : n = D.length := by
    obtain ⟨a', c', e', _⟩ := row_form h.rD
    cases e'
    rfl
  subst hn
  constructor
  · exact {
      head := (other_set _ _ (tag_ne h.head hg (by decide))).trans h.head
      inF := h.inF
      ltF := fun k hk => by simpa using h.ltF k hk
      rB := row_of h.rB (fun k e => by
        obtain ⟨cs, hcs⟩ := h.tagB e
        exact other_set _ _ (tag_ne hcs hg (by decide)))
      fB := h.fB
      rL := row_of h.rL (fun k e => by
        obtain ⟨cs, hcs⟩ := h.tagL e
        exact other_set _ _ (tag_ne hcs hg (by decide)))
      fL := h.fL
      rD := by
        have h1 := (World.ownsRow.stored h.rD i (.bool false)).1
        have h2 : (D.flatMap boC).set i (.bool false) = (D.set i false).flatMap boC := by
          have e : ∀ l : List Bool, l.flatMap boC = l.map Value.bool := fun l => by
            induction l with
            | nil => rfl
            | cons x l ih => rw [List.flatMap_cons, ih]; rfl
          rw [e, e, List.map_set]
        rw [h2] at h1
        rw [List.length_set]
        exact h1
      fD := h.fD
      acl := fun p hp => row_of (h.acl p hp) (fun k e => by
        obtain ⟨cs, hcs⟩ := h.tagA hp e
        exact other_set _ _ (tag_ne hcs hg (by decide)))
      fA := h.fA
      len := ⟨h.len.1, h.len.2.1, by rw [List.length_set]; exact h.len.2.2⟩
      ids := h.ids }
  · exact ⟨rfl, rfl, rfl, by simp, fun k hk hn => other_set _ _ (fun e => hn (by rw [e]; exact h.fD g rfl)), fun _ h => Or.inl h⟩

/-- without a branch's names -/
def delE (E : List En) (id : Nat) : List En := E.filter fun e => !decide (e.2.1 = id)
theorem del_take {E : List En} {id k : Nat} (hk : k < E.length) : delE (E.take (k + 1)) id = delE (E.take k) id ++ (if E[k].2.1 = id then [] else [E[k]]) := by
  rw [delE, delE, List.take_succ_eq_append_getElem hk, List.filter_append]
  by_cases h : E[k].2.1 = id <;> simp [h]
theorem del_len (E : List En) (id k : Nat) : (delE (E.take k) id).length ≤ k := by
  exact Nat.le_trans (List.length_filter_le _ _) (List.length_take_le k E)

theorem alloc2_new' (w : World) (o o' : Obj) : ((w.alloc o).alloc o').heap[w.heap.size + 1]? = some o' := by
  have := heap_alloc_new (w.alloc o) o'
  simpa using this
theorem del_now {F F0 : Nat → Prop} {w V W : World} {b : Nat} {m : Ms} {D : List Bool} {bl : List (Br × Value)} {vB vL vD v' : Value} (hV : Went F w F0 V) (h : ML V b F0 bl m.E D vB vL vD) (hB : bl.map Prod.fst = m.B) (B : Below V.heap.size V W) {id : Nat} (o : W.ownsRow V.heap.size 99 3 v' (delE m.E id).length ((delE m.E id).flatMap enC)) {k6 : Nat} (h6 : w.heap.size ≤ k6) (n6 : ¬ F0 k6) (l6 : k6 < V.heap.size) (x : Br) (av : Value) :
    Now F w b ⟨m.B, delE m.E id, D⟩ (setBr (W.setCell ⟨b, 1, none⟩ v') k6 x av) := by
  have ap : Apd V W vL v' := ⟨B.os, B.tape, B.output, B.size, fun i hi _ => B.block i hi, fun k e => Or.inr (World.ownsRow.lt o k e).1, fun k e => (World.ownsRow.lt o k e).2⟩
  have o8 : W.ownsRow 0 99 3 v' (delE m.E id).length ((delE m.E id).flatMap enC) := by
    refine ⟨o.1, ?_⟩
    rcases o.2 with h2 | ⟨g, cap, cur, e, h3, r⟩
    · exact Or.inl h2
    · exact Or.inr ⟨g, cap, cur, e, Nat.zero_le _, r⟩
  obtain ⟨h1, h2⟩ := h.putL ap o8 (by have := del_len m.E id m.E.length; rw [List.take_length] at this; have := h.len.2.1; omega) (fun e he => h.ids e (List.mem_filter.1 he).1)
  have out : ∀ i, (F0 i ∨ v'.ownBlock = some i) → i ≠ k6 := fun i hi e => by
    rcases hi with hi | hi
    · exact n6 (e ▸ hi)
    · have := (World.ownsRow.lt o i hi).1
      omega
  have h5 := hV.trans h2
  have h6' : Went F w F (W.setCell ⟨b, 1, none⟩ v') := ⟨h5.os, h5.tape, h5.output, h5.size, h5.block, fun _ h => Or.inl h⟩
  have h7 := (h6'.setOut h6 x av).more h5.foot
  have h8 := h1.keep (w' := setBr (W.setCell ⟨b, 1, none⟩ v') k6 x av) (Nat.le_of_eq (size_setBr _ _ _ _).symm) (fun i hi => heap_setBr (out i hi) _ _)
  exact ⟨_, ⟨_, _, _, _, h8, hB⟩, h7⟩

section
variable {w : World} {b : Nat} {F : Nat → Prop} {m : Ms}

theorem mdel_no (h : MAt w b F m) {d : Int} {s : Txt} (h1 : at? m.E d s = none) :
    Calls Tryd.prog 26 #[TP b, .int .i64 d, .string (bs s)] w fun e w' => e = .returned (.tuple #[BrV noBr (.slice none 0 0), .int .i64 4]) ∧ Below w.heap.size w w' := by
  have ha := mat_is (h.alloc (BmO noBr (.slice none 0 0))) (d := d) (s := s) (r := -1) (by rw [h1]; rfl)
  have B := Lib.hid (BmAt.new w noBr (.slice none 0 0))
  clear h h1
  go_enter Tryd.func26, Tryd.ntmps26
  go_wp2_with (go_at_call 45; ((refine ha.mono ?_); rintro e w1 ⟨rfl, rfl⟩))
  refine (show bodyPost _ _ _ _ _ (w.alloc (BmO noBr (.slice none 0 0))) from ?_)
  generalize hV : w.alloc (BmO noBr (.slice none 0 0)) = V at B ⊢
  obtain ⟨g0, g1, g2, g3, g4, g5, g6, g7, g8, g9⟩ := B.out.cell
  exact bodyPost_ret (v := .tuple #[BrV noBr (.slice none 0 0), .int .i64 4]) (by simp [results, Tryd.results26, go_sem, g0, g1, g2, g3, g4, g5, g6, g7, g8, g9]) rfl ⟨rfl, hV ▸ one_new _ _⟩

set_option maxHeartbeats 8000000 in
set_option maxRecDepth 8000 in
theorem mdel_at (h : MAt w b F m) {d : Int} {s : Txt} {k : Nat} (h1 : at? m.E d s = some k) {e : En} (hE : m.E[k]? = some e) {x : Br} (hX : m.B[e.2.1]? = some x) (hk : ¬ x.kind = 2) :
    Calls Tryd.prog 26 #[TP b, .int .i64 d, .string (bs s)] w fun e' w' => ∃ a' c', e' = .returned (.tuple #[BrV x (.slice a' x.acl.length c'), .int .i64 0]) ∧ TRow w' a' c' x.acl ∧ Now F w b ⟨m.B, delE m.E e.2.1, m.D⟩ w' := by
  have ha := mat_is (h.alloc (BmO noBr (.slice none 0 0))) (d := d) (s := s) (r := (k : Int)) (by rw [h1]; rfl)
  have X0 := Lib.hid (BmAt.new w noBr (.slice none 0 0))
  have HF := Lib.hid h.ltF
  obtain ⟨bl, vB, vL, vD, h0, hB⟩ := h
  have h5 := h0.below (one_new w (BmO noBr (.slice none 0 0)))
  have H := Lib.hid h5
  have HB := Lib.hid hB
  have hkl : k < m.E.length := (List.getElem?_eq_some_iff.1 hE).1
  have hke : m.E[k] = e := (List.getElem?_eq_some_iff.1 hE).2
  obtain ⟨aL, cap, rfl, hc, hn, hg⟩ := h5.eForm
  obtain ⟨a2, cap2, rfl, hc2, hg2, hn2⟩ := row_form h5.rB
  obtain ⟨g, rfl, hgl, q0, q1, q2⟩ := h5.eAt hkl
  have hid : e.2.1 < bl.length := by rw [← hke]; exact h5.ids _ (List.getElem_mem hkl)
  have hx : (bl[e.2.1]).1 = x := by
    rw [← hB, List.getElem?_map, List.getElem?_eq_getElem hid] at hX
    simpa using hX
  obtain ⟨g2, rfl, _, _, hgl2, r0, r1, r2, r3, r4, r5, r6, r7, r8, r9, _⟩ := h5.brAt hid
  obtain ⟨a', c', hv, hrow⟩ := own_trow (h0.acl _ (List.getElem_mem hid))
  have HA : Hid (∀ kk, (Value.slice a' x.acl.length c').ownBlock = some kk → F kk) := Lib.hid (fun kk ek => h0.fA _ (List.getElem_mem hid) kk (by rw [hv, hx]; exact ek))
  have HO : Hid (A.Own 0 w (.slice a' x.acl.length c') x.acl) := Lib.hid (by have := h0.acl _ (List.getElem_mem hid); rw [hv, hx] at this; exact this)
  rw [hke] at q1
  rw [hx] at r0 r1 r2 r3 r4 r6 r7 r8 r9 hrow hv
  rw [hv] at r5
  generalize e.2.1 = ii at *
  have c0 := h5.c0
  have c1 := h5.c1
  have bl5 := h5.lt
  have blw := h0.lt
  have hlen := h5.len.2.1
  have hlenB := h5.len.1
  have t1 : (x.kind == 2) = false := by simpa using hk
  clear h5 h0 hB h1 hE hX hke hx hk q0 q2 hv hrow hn hg hn2 hg2
  go_enter Tryd.func26, Tryd.ntmps26
  go_wp2_with (go_at_call 45; ((refine ha.mono ?_); rintro e w1 ⟨rfl, rfl⟩))
  have X6 := Lib.hid ((BmAt.new w noBr (.slice none 0 0)).below (one_new _ (BmO x (.slice a' x.acl.length c'))))
  have X10 : Hid (BmAt ((w.alloc (BmO noBr (.slice none 0 0))).alloc (BmO x (.slice a' x.acl.length c'))) (w.heap.size + 1) x (.slice a' x.acl.length c')) := Lib.hid (alloc2_new' w _ _)
  have BV := Lib.hid (bel2 (one_new w (BmO noBr (.slice none 0 0))) (one_new (w.alloc (BmO noBr (.slice none 0 0))) (BmO x (.slice a' x.acl.length c'))))
  have MV := Lib.hid (H.out.below (one_new _ (BmO x (.slice a' x.acl.length c'))))
  refine (show Code.wp _ _ _ _ ((w.alloc (BmO noBr (.slice none 0 0))).alloc (BmO x (.slice a' x.acl.length c'))) from ?_)
  clear c0 c1 q1 r0 r1 r2 r3 r4 r5 r6 r7 r8 r9 ha X0 H hgl hgl2 bl5
  generalize (w.alloc (BmO noBr (.slice none 0 0))).alloc (BmO x (.slice a' x.acl.length c')) = V at X6 X10 BV MV ⊢
  have WV : Hid (Went F w F V) := Lib.hid (Went.of_below BV.out)
  obtain ⟨i1, hj, hy0, hy1, hy2⟩ := info_parts info_en
  go_loopw [11, 12] (fun v i W => ∃ j : Nat, j ≤ m.E.length ∧ i = .int .i64 j ∧ W.ownsRow V.heap.size 99 3 v (delE (m.E.take j) ii).length ((delE (m.E.take j) ii).flatMap enC) ∧ Below V.heap.size V W) (fun _ i _ => m.E.length - (intOf i).toNat)
  case atStart => exact ⟨0, Nat.zero_le _, rfl, World.ownsRow_nil _ _ _ _, Below.refl _ _⟩
  case round =>
    obtain ⟨j, hjl, rfl, hown, hb⟩ := hrel
    have M := Lib.hid (MV.out.below hb)
    have c1 := M.out.c1
    have bl5 := M.out.lt
    have HO2 := Lib.hid hown
    have HBW := Lib.hid hb
    clear hown hb
    by_cases hlt : j < m.E.length
    · obtain ⟨g', eg, hgl, e0, e1, e2⟩ := M.out.eAt hlt
      cases eg
      have HT := Lib.hid (del_take (id := ii) hlt)
      by_cases hd : m.E[j].2.1 = ii
      · have t2 : ((m.E[j].2.1 : Int) == (ii : Int)) = true := by rw [beq_iff_eq, hd]
        have t2' : ((m.E[j].2.1 : Int) != (ii : Int)) = false := by rw [bne_eq_false_iff_eq, hd]
        have HT' : Hid (delE (m.E.take (j + 1)) ii = delE (m.E.take j) ii) := Lib.hid (by rw [HT.out, if_pos hd, List.append_nil])
        clear hd
        go_wp2
        go_roundw
        case rel => exact ⟨j + 1, by omega, by go_num, by rw [HT'.out]; exact HO2.out, HBW.out⟩
        case measure => simp [intOf]; omega
      · have t2 : ((m.E[j].2.1 : Int) == (ii : Int)) = false := by rw [beq_eq_false_iff_ne]; exact fun h => hd (Int.ofNat.inj h)
        have t2' : ((m.E[j].2.1 : Int) != (ii : Int)) = true := by rw [bne_iff_ne]; exact fun h => hd (Int.ofNat.inj h)
        have HT' : Hid (delE (m.E.take (j + 1)) ii = delE (m.E.take j) ii ++ [m.E[j]]) := Lib.hid (by rw [HT.out, if_neg hd])
        have hdl := del_len m.E ii j
        clear hd
        go_wp2_with (at_builtin; refine wpList_append_lies _ rfl (.tmp 70) (.tmp 78) 65 rfl V.heap.size 99 i1 _ 3 32 Tryd.underlying65 hj hy0 hy1 hy2 rfl (by decide) _ (delE (m.E.take j) ii).length ((delE (m.E.take j) ii).flatMap enC) rfl (World.ownsRow.alloc HO2.out _) ⟨wr.heap.size, 0, none⟩ 1 1 (enC m.E[j]) rfl rfl (World.news_of_block (heap_alloc_new _ _)) (by simp [enC, Value.oneCell']) (by omega) (by unfold maxLen; omega) (by omega) (Nat.le_trans HBW.out.size (by simp)) (wr.heap.size + 1) (by simp) ?_; intro g9 cap9 w9 o9 g9' a9 l9; have B9 : Below V.heap.size V w9 := (bel2 HBW.out (one_new wr _)).grown g9' (Nat.le_trans HBW.out.size (by simp)) (fun k e => (World.ownsRow.lt HO2.out k e).1))
        go_roundw
        case rel => exact ⟨j + 1, by omega, by go_num, by rw [HT'.out, List.length_append, List.flatMap_append]; simpa using o9, B9⟩
        case measure => simp [intOf]; omega
    · obtain rfl : j = m.E.length := by omega
      rw [List.take_length] at HO2
      obtain ⟨k0, k1, k2, kf, kl⟩ := mto_cells M.out.head
      have Y6 := X6.out.below HBW.out
      have Y10 := X10.out.below HBW.out
      obtain ⟨s0, s1, s2, s3, s4, s5, s6, s7, s8, s9⟩ := Y6.cell
      obtain ⟨y0, y1, y2, y3, y4, y5, y6, y7, y8, y9⟩ := Y10.cell
      have sf := Y6.fz
      have sl := Y6.lt
      have yl := Y10.lt
      have n1 : b ≠ w.heap.size := tag_ne M.out.head Y6 (by decide)
      have n1' : w.heap.size ≠ b := n1.symm
      have n2 : w.heap.size + 1 ≠ b := tag_ne Y10 M.out.head (by decide)
      have n2' : b ≠ w.heap.size + 1 := n2.symm
      obtain ⟨a9, c9, e9, _⟩ := row_form HO2.out
      subst e9
      go_wp2
      have hFw : ¬ F w.heap.size := fun hf => Nat.lt_irrefl _ (HF.out _ hf)
      have N := del_now WV.out MV.out HB.out HBW.out HO2.out (Nat.le_refl _) hFw X6.out.lt x (.slice a' x.acl.length c')
      have Z := BmAt.stored (w := wr.setCell ⟨b, 1, none⟩ (.slice a9 (delE m.E ii).length c9)) (k := w.heap.size) (b0 := noBr) (v0 := .slice none 0 0) ((other_set _ _ n1').trans Y6) x (.slice a' x.acl.length c')
      have R := row_of (w' := setBr (wr.setCell ⟨b, 1, none⟩ (.slice a9 (delE m.E ii).length c9)) w.heap.size x (.slice a' x.acl.length c')) HO.out (fun kk ek => by
        have hkF := HA.out kk ek
        have hkl := HF.out kk hkF
        obtain ⟨cs, hcs⟩ := row_tag HO.out ek
        have hkb : kk ≠ b := fun e => by
          subst e
          have h1 := M.out.head
          rw [HBW.out.block kk (Nat.lt_of_lt_of_le hkl BV.out.size), BV.out.block kk hkl, hcs] at h1
          injection h1 with h1
          injection h1 with h1 h2
          exact absurd h2 (by decide)
        exact (heap_setBr (by omega) _ _).trans ((other_set _ _ hkb).trans ((HBW.out.block kk (Nat.lt_of_lt_of_le hkl BV.out.size)).trans (BV.out.block kk hkl))))
      obtain ⟨a5, c5, e5, R5⟩ := own_trow R
      cases e5
      refine (show bodyPost _ _ _ _ _ (setBr (wr.setCell ⟨b, 1, none⟩ (.slice a9 (delE m.E ii).length c9)) w.heap.size x (.slice a' x.acl.length c')) from ?_)
      clear R
      generalize setBr (wr.setCell ⟨b, 1, none⟩ (.slice a9 (delE m.E ii).length c9)) w.heap.size x (.slice a' x.acl.length c') = V5 at N Z R5 ⊢
      obtain ⟨g0, g1, g2, g3, g4, g5, g6, g7, g8, g9⟩ := Z.cell
      exact bodyPost_ret (v := .tuple #[BrV x (.slice a' x.acl.length c'), .int .i64 0]) (by simp [results, Tryd.results26, go_sem, g0, g1, g2, g3, g4, g5, g6, g7, g8, g9]) rfl ⟨a', c', rfl, R5, N⟩

end

end Go.Proofs.YtpcdcmoapenbdaaDoor.T

namespace Go.Proofs.YtpcdcmoapenbdaaDoor.T
open Go.ChangeShapes Go.WideShapes Go.ChangeAt Go.RowKit
open Go.Proofs.YtpcdcmoapenbdaaDoor.N (bs bs_data bs_size bs_inj bs_of Glob)
open Go.Proofs.YtpcdcmoapenbdaaDoor.A (Tm TRow)

section
variable {w : World} {b : Nat} {F : Nat → Prop} {m : Ms}

set_option maxHeartbeats 8000000 in
set_option maxRecDepth 8000 in
theorem mdel_busy (h : MAt w b F m) {d : Int} {s : Txt} {k : Nat} (h1 : at? m.E d s = some k) {e : En} (hE : m.E[k]? = some e) {x : Br} (hX : m.B[e.2.1]? = some x) (hk : x.kind = 2) (hcn : 0 < cntD m.E x.dir) :
    Calls Tryd.prog 26 #[TP b, .int .i64 d, .string (bs s)] w fun e' w' => e' = .returned (.tuple #[BrV noBr (.slice none 0 0), .int .i64 16]) ∧ Below w.heap.size w w' := by
  have ha := mat_is (h.alloc (BmO noBr (.slice none 0 0))) (d := d) (s := s) (r := (k : Int)) (by rw [h1]; rfl)
  have X0 := Lib.hid (BmAt.new w noBr (.slice none 0 0))
  have HF := Lib.hid h.ltF
  obtain ⟨bl, vB, vL, vD, h0, hB⟩ := h
  have h5 := h0.below (one_new w (BmO noBr (.slice none 0 0)))
  have H := Lib.hid h5
  have HB := Lib.hid hB
  have hkl : k < m.E.length := (List.getElem?_eq_some_iff.1 hE).1
  have hke : m.E[k] = e := (List.getElem?_eq_some_iff.1 hE).2
  obtain ⟨aL, cap, rfl, hc, hn, hg⟩ := h5.eForm
  obtain ⟨a2, cap2, rfl, hc2, hg2, hn2⟩ := row_form h5.rB
  obtain ⟨g, rfl, hgl, q0, q1, q2⟩ := h5.eAt hkl
  have hid : e.2.1 < bl.length := by rw [← hke]; exact h5.ids _ (List.getElem_mem hkl)
  have hx : (bl[e.2.1]).1 = x := by
    rw [← hB, List.getElem?_map, List.getElem?_eq_getElem hid] at hX
    simpa using hX
  obtain ⟨g2, rfl, _, _, hgl2, r0, r1, r2, r3, r4, r5, r6, r7, r8, r9, _⟩ := h5.brAt hid
  obtain ⟨a', c', hv, hrow⟩ := own_trow (h0.acl _ (List.getElem_mem hid))
  have HA : Hid (∀ kk, (Value.slice a' x.acl.length c').ownBlock = some kk → F kk) := Lib.hid (fun kk ek => h0.fA _ (List.getElem_mem hid) kk (by rw [hv, hx]; exact ek))
  have HO : Hid (A.Own 0 w (.slice a' x.acl.length c') x.acl) := Lib.hid (by have := h0.acl _ (List.getElem_mem hid); rw [hv, hx] at this; exact this)
  rw [hke] at q1
  rw [hx] at r0 r1 r2 r3 r4 r6 r7 r8 r9 hrow hv
  rw [hv] at r5
  generalize e.2.1 = ii at *
  have c0 := h5.c0
  have c1 := h5.c1
  have bl5 := h5.lt
  have blw := h0.lt
  have hlen := h5.len.2.1
  have hlenB := h5.len.1
  have t1 : (x.kind == 2) = true := by simpa using hk
  have hL := mlen_any (w := (w.alloc (BmO noBr (.slice none 0 0))).alloc (BmO x (.slice a' x.acl.length c'))) (b := b) (F := F) (m := m) ⟨bl, _, _, _, h5.below (one_new _ _), hB⟩ x.dir
  clear h5 h0 hB h1 hE hX hke hx hk q0 q2 hv hrow hn hg hn2 hg2
  have X6 := Lib.hid ((BmAt.new w noBr (.slice none 0 0)).below (one_new _ (BmO x (.slice a' x.acl.length c'))))
  have X10 : Hid (BmAt ((w.alloc (BmO noBr (.slice none 0 0))).alloc (BmO x (.slice a' x.acl.length c'))) (w.heap.size + 1) x (.slice a' x.acl.length c')) := Lib.hid (alloc2_new' w _ _)
  have BV := Lib.hid (bel2 (one_new w (BmO noBr (.slice none 0 0))) (one_new (w.alloc (BmO noBr (.slice none 0 0))) (BmO x (.slice a' x.acl.length c'))))
  have MV := Lib.hid (H.out.below (one_new _ (BmO x (.slice a' x.acl.length c'))))
  have t3 : decide ((cntD m.E x.dir : Int) > 0) = true := by simpa using hcn
  have t4 : decide ((0 : Int) < (cntD m.E x.dir : Int)) = true := by simpa using hcn
  have n6 := X6.out.lt
  go_enter Tryd.func26, Tryd.ntmps26
  go_wp2_with (first
    | (go_at_call 45; ((refine ha.mono ?_); rintro e w1 ⟨rfl, rfl⟩))
    | (go_at_call 51; ((refine hL.mono ?_); rintro e w2 ⟨rfl, B2⟩; have Y0 := Lib.hid (BmAt.below X6.out B2); have B3 := Lib.hid (bel2 BV.out B2); have yf := Y0.out.fz; have yl := Y0.out.lt; obtain ⟨y0, y1, y2, y3, y4, y5, y6, y7, y8, y9⟩ := Y0.out.cell; clear B2)))
  refine (show bodyPost _ _ _ _ _ (setBr w2 w.heap.size noBr (.slice none 0 0)) from ?_)
  have Z := BmAt.stored Y0.out noBr (.slice none 0 0)
  have L := Below.setBr B3.out (Nat.le_refl _) noBr (.slice none 0 0)
  generalize setBr w2 w.heap.size noBr (.slice none 0 0) = V5 at Z L ⊢
  obtain ⟨g0, g1, g2, g3, g4, g5, g6, g7, g8, g9⟩ := Z.cell
  exact bodyPost_ret (v := .tuple #[BrV noBr (.slice none 0 0), .int .i64 16]) (by simp [results, Tryd.results26, go_sem, g0, g1, g2, g3, g4, g5, g6, g7, g8, g9]) rfl ⟨rfl, L⟩

set_option maxHeartbeats 8000000 in
set_option maxRecDepth 8000 in
theorem mdel_dir (h : MAt w b F m) {d : Int} {s : Txt} {k : Nat} (h1 : at? m.E d s = some k) {e : En} (hE : m.E[k]? = some e) {x : Br} (hX : m.B[e.2.1]? = some x) (hk : x.kind = 2) (hcn : cntD m.E x.dir = 0) (hd0 : 0 ≤ x.dir) (hd1 : x.dir < m.D.length) :
    Calls Tryd.prog 26 #[TP b, .int .i64 d, .string (bs s)] w fun e' w' => ∃ a' c', e' = .returned (.tuple #[BrV x (.slice a' x.acl.length c'), .int .i64 0]) ∧ TRow w' a' c' x.acl ∧ Now F w b ⟨m.B, delE m.E e.2.1, m.D.set x.dir.toNat false⟩ w' := by
  have ha := mat_is (h.alloc (BmO noBr (.slice none 0 0))) (d := d) (s := s) (r := (k : Int)) (by rw [h1]; rfl)
  have X0 := Lib.hid (BmAt.new w noBr (.slice none 0 0))
  have HF := Lib.hid h.ltF
  obtain ⟨bl, vB, vL, vD, h0, hB⟩ := h
  have h5 := h0.below (one_new w (BmO noBr (.slice none 0 0)))
  have H := Lib.hid h5
  have HB := Lib.hid hB
  have hkl : k < m.E.length := (List.getElem?_eq_some_iff.1 hE).1
  have hke : m.E[k] = e := (List.getElem?_eq_some_iff.1 hE).2
  obtain ⟨aL, cap, rfl, hc, hn, hg⟩ := h5.eForm
  obtain ⟨a2, cap2, rfl, hc2, hg2, hn2⟩ := row_form h5.rB
  obtain ⟨g, rfl, hgl, q0, q1, q2⟩ := h5.eAt hkl
  have hid : e.2.1 < bl.length := by rw [← hke]; exact h5.ids _ (List.getElem_mem hkl)
  have hx : (bl[e.2.1]).1 = x := by
    rw [← hB, List.getElem?_map, List.getElem?_eq_getElem hid] at hX
    simpa using hX
  obtain ⟨a3, cap3, rfl, hc3, hg3, hn3⟩ := row_form h5.rD
  obtain ⟨g3, rfl, hD3, _, hgl3, _, hf3⟩ := h5.dAt (i := x.dir.toNat) (by omega)
  obtain ⟨g2, rfl, _, _, hgl2, r0, r1, r2, r3, r4, r5, r6, r7, r8, r9, _⟩ := h5.brAt hid
  obtain ⟨a', c', hv, hrow⟩ := own_trow (h0.acl _ (List.getElem_mem hid))
  have HA : Hid (∀ kk, (Value.slice a' x.acl.length c').ownBlock = some kk → F kk) := Lib.hid (fun kk ek => h0.fA _ (List.getElem_mem hid) kk (by rw [hv, hx]; exact ek))
  have HO : Hid (A.Own 0 w (.slice a' x.acl.length c') x.acl) := Lib.hid (by have := h0.acl _ (List.getElem_mem hid); rw [hv, hx] at this; exact this)
  rw [hke] at q1
  rw [hx] at r0 r1 r2 r3 r4 r6 r7 r8 r9 hrow hv
  rw [hv] at r5
  generalize e.2.1 = ii at *
  have c0 := h5.c0
  have c1 := h5.c1
  have bl5 := h5.lt
  have blw := h0.lt
  have hlen := h5.len.2.1
  have hlenB := h5.len.1
  have t1 : (x.kind == 2) = true := by simpa using hk
  have hL := mlen_any (w := (w.alloc (BmO noBr (.slice none 0 0))).alloc (BmO x (.slice a' x.acl.length c'))) (b := b) (F := F) (m := m) ⟨bl, _, _, _, h5.below (one_new _ _), hB⟩ x.dir
  rw [hcn] at hL
  clear h5 h0 hB h1 hE hX hke hx hk q0 q2 hv hrow hn hg hn2 hg2 hg3 hn3 hf3
  have X6 := Lib.hid ((BmAt.new w noBr (.slice none 0 0)).below (one_new _ (BmO x (.slice a' x.acl.length c'))))
  have X10 : Hid (BmAt ((w.alloc (BmO noBr (.slice none 0 0))).alloc (BmO x (.slice a' x.acl.length c'))) (w.heap.size + 1) x (.slice a' x.acl.length c')) := Lib.hid (alloc2_new' w _ _)
  have BV := Lib.hid (bel2 (one_new w (BmO noBr (.slice none 0 0))) (one_new (w.alloc (BmO noBr (.slice none 0 0))) (BmO x (.slice a' x.acl.length c'))))
  have MV := Lib.hid (H.out.below (one_new _ (BmO x (.slice a' x.acl.length c'))))
  have n6 := X6.out.lt
  go_enter Tryd.func26, Tryd.ntmps26
  go_wp2_with (first
    | (go_at_call 45; ((refine ha.mono ?_); rintro e w1 ⟨rfl, rfl⟩))
    | (go_at_call 51; ((refine hL.mono ?_); rintro e w2 ⟨rfl, B2⟩; have Y6 := Lib.hid (BmAt.below X6.out B2); have Y10 := Lib.hid (BmAt.below X10.out B2); have B3 := Lib.hid (bel2 BV.out B2); have M2 := Lib.hid (MV.out.below B2); clear B2; have yf := Y10.out.fz; have yl := Y10.out.lt; obtain ⟨y0, y1, y2, y3, y4, y5, y6, y7, y8, y9⟩ := Y10.out.cell; have k2 := M2.out.c2; have bl6 := M2.out.lt)))
  clear X6 X10 MV BV n6
  go_still_tail 7, (by kernel_rfl)
  change wpList _ _ _ _ _ w2.drew
  have M3 : Hid (ML w2.drew b F bl m.E m.D _ _ _) := Lib.hid (M2.out.below (Below.refl _ _).drew)
  have X1 : Hid (BmAt w2.drew w.heap.size noBr (.slice none 0 0)) := Y6
  have X2 : Hid (BmAt w2.drew (w.heap.size + 1) x (.slice a' x.acl.length c')) := Y10
  have B4 : Hid (Below w.heap.size w w2.drew) := Lib.hid B3.out.drew
  clear M2 Y6 Y10 B3 yf yl y0 y1 y2 y3 y4 y5 y6 y7 y8 y9 k2 bl6 c0 c1 q1 r0 r1 r2 r3 r4 r5 r6 r7 r8 r9 ha X0 H hgl hgl2 bl5 hL
  generalize w2.drew = V1 at *
  have Q := M3.out.setD x.dir.toNat
  obtain ⟨cs3, ht3⟩ := M3.out.tagD (k := g3) rfl
  have MV := Lib.hid Q.1
  have WV := Lib.hid ((Went.of_below (F := F) B4.out).trans Q.2)
  have X6 : Hid (BmAt (V1.setCell ⟨g3, x.dir.toNat, none⟩ (.bool false)) w.heap.size noBr (.slice none 0 0)) := Lib.hid ((other_set _ _ (tag_ne X1.out ht3 (by decide))).trans X1.out)
  have X10 : Hid (BmAt (V1.setCell ⟨g3, x.dir.toNat, none⟩ (.bool false)) (w.heap.size + 1) x (.slice a' x.acl.length c')) := Lib.hid ((other_set _ _ (tag_ne X2.out ht3 (by decide))).trans X2.out)
  have HOV : Hid (A.Own 0 (V1.setCell ⟨g3, x.dir.toNat, none⟩ (.bool false)) (.slice a' x.acl.length c') x.acl) := Lib.hid (row_of HO.out (fun kk ek => by
    have hkl := HF.out kk (HA.out kk ek)
    obtain ⟨cs, hcs⟩ := row_tag HO.out ek
    exact (other_set _ _ (tag_ne ((B4.out.block kk hkl).trans hcs) ht3 (by decide))).trans (B4.out.block kk hkl)))
  obtain ⟨g', eg, _, _, gl4, gc4, gf4⟩ := M3.out.dAt (i := x.dir.toNat) (by omega)
  cases eg
  clear Q ht3 X1 X2 M3
  go_wp2
  refine (show Code.wp _ _ _ _ (V1.setCell ⟨g3, x.dir.toNat, none⟩ (.bool false)) from ?_)
  clear gc4 gf4 gl4 B4 HO
  generalize V1.setCell ⟨g3, x.dir.toNat, none⟩ (.bool false) = V at X6 X10 MV WV HOV ⊢
  obtain ⟨i1, hj, hy0, hy1, hy2⟩ := info_parts info_en
  go_loopw [11, 12] (fun v i W => ∃ j : Nat, j ≤ m.E.length ∧ i = .int .i64 j ∧ W.ownsRow V.heap.size 99 3 v (delE (m.E.take j) ii).length ((delE (m.E.take j) ii).flatMap enC) ∧ Below V.heap.size V W) (fun _ i _ => m.E.length - (intOf i).toNat)
  case atStart => exact ⟨0, Nat.zero_le _, rfl, World.ownsRow_nil _ _ _ _, Below.refl _ _⟩
  case round =>
    obtain ⟨j, hjl, rfl, hown, hb⟩ := hrel
    have M := Lib.hid (MV.out.below hb)
    have c1 := M.out.c1
    have bl5 := M.out.lt
    have HO2 := Lib.hid hown
    have HBW := Lib.hid hb
    clear hown hb
    by_cases hlt : j < m.E.length
    · obtain ⟨g', eg, hgl, e0, e1, e2⟩ := M.out.eAt hlt
      cases eg
      have HT := Lib.hid (del_take (id := ii) hlt)
      by_cases hd : m.E[j].2.1 = ii
      · have t2 : ((m.E[j].2.1 : Int) == (ii : Int)) = true := by rw [beq_iff_eq, hd]
        have t2' : ((m.E[j].2.1 : Int) != (ii : Int)) = false := by rw [bne_eq_false_iff_eq, hd]
        have HT' : Hid (delE (m.E.take (j + 1)) ii = delE (m.E.take j) ii) := Lib.hid (by rw [HT.out, if_pos hd, List.append_nil])
        clear hd
        go_wp2
        go_roundw
        case rel => exact ⟨j + 1, by omega, by go_num, by rw [HT'.out]; exact HO2.out, HBW.out⟩
        case measure => simp [intOf]; omega
      · have t2 : ((m.E[j].2.1 : Int) == (ii : Int)) = false := by rw [beq_eq_false_iff_ne]; exact fun h => hd (Int.ofNat.inj h)
        have t2' : ((m.E[j].2.1 : Int) != (ii : Int)) = true := by rw [bne_iff_ne]; exact fun h => hd (Int.ofNat.inj h)
        have HT' : Hid (delE (m.E.take (j + 1)) ii = delE (m.E.take j) ii ++ [m.E[j]]) := Lib.hid (by rw [HT.out, if_neg hd])
        have hdl := del_len m.E ii j
        clear hd
        go_wp2_with (at_builtin; refine wpList_append_lies _ rfl (.tmp 70) (.tmp 78) 65 rfl V.heap.size 99 i1 _ 3 32 Tryd.underlying65 hj hy0 hy1 hy2 rfl (by decide) _ (delE (m.E.take j) ii).length ((delE (m.E.take j) ii).flatMap enC) rfl (World.ownsRow.alloc HO2.out _) ⟨wr.heap.size, 0, none⟩ 1 1 (enC m.E[j]) rfl rfl (World.news_of_block (heap_alloc_new _ _)) (by simp [enC, Value.oneCell']) (by omega) (by unfold maxLen; omega) (by omega) (Nat.le_trans HBW.out.size (by simp)) (wr.heap.size + 1) (by simp) ?_; intro g9 cap9 w9 o9 g9' a9 l9; have B9 : Below V.heap.size V w9 := (bel2 HBW.out (one_new wr _)).grown g9' (Nat.le_trans HBW.out.size (by simp)) (fun k e => (World.ownsRow.lt HO2.out k e).1))
        go_roundw
        case rel => exact ⟨j + 1, by omega, by go_num, by rw [HT'.out, List.length_append, List.flatMap_append]; simpa using o9, B9⟩
        case measure => simp [intOf]; omega
    · obtain rfl : j = m.E.length := by omega
      rw [List.take_length] at HO2
      obtain ⟨k0, k1, k2, kf, kl⟩ := mto_cells M.out.head
      have Y6 := X6.out.below HBW.out
      have Y10 := X10.out.below HBW.out
      obtain ⟨s0, s1, s2, s3, s4, s5, s6, s7, s8, s9⟩ := Y6.cell
      obtain ⟨y0, y1, y2, y3, y4, y5, y6, y7, y8, y9⟩ := Y10.cell
      have sf := Y6.fz
      have sl := Y6.lt
      have yl := Y10.lt
      have n1 : b ≠ w.heap.size := tag_ne M.out.head Y6 (by decide)
      have n1' : w.heap.size ≠ b := n1.symm
      have n2 : w.heap.size + 1 ≠ b := tag_ne Y10 M.out.head (by decide)
      have n2' : b ≠ w.heap.size + 1 := n2.symm
      obtain ⟨a9, c9, e9, _⟩ := row_form HO2.out
      subst e9
      go_wp2
      have hFw : ¬ F w.heap.size := fun hf => Nat.lt_irrefl _ (HF.out _ hf)
      have N := del_now WV.out MV.out HB.out HBW.out HO2.out (Nat.le_refl _) hFw X6.out.lt x (.slice a' x.acl.length c')
      have Z := BmAt.stored (w := wr.setCell ⟨b, 1, none⟩ (.slice a9 (delE m.E ii).length c9)) (k := w.heap.size) (b0 := noBr) (v0 := .slice none 0 0) ((other_set _ _ n1').trans Y6) x (.slice a' x.acl.length c')
      have R := row_of (w' := setBr (wr.setCell ⟨b, 1, none⟩ (.slice a9 (delE m.E ii).length c9)) w.heap.size x (.slice a' x.acl.length c')) HOV.out (fun kk ek => by
        have hkl := HF.out kk (HA.out kk ek)
        obtain ⟨cs, hcs⟩ := row_tag HOV.out ek
        have hkb : kk ≠ b := tag_ne hcs MV.out.head (by decide)
        exact (heap_setBr (by omega) _ _).trans ((other_set _ _ hkb).trans (HBW.out.block kk (Nat.lt_of_lt_of_le hkl WV.out.size))))
      obtain ⟨a5, c5, e5, R5⟩ := own_trow R
      cases e5
      refine (show bodyPost _ _ _ _ _ (setBr (wr.setCell ⟨b, 1, none⟩ (.slice a9 (delE m.E ii).length c9)) w.heap.size x (.slice a' x.acl.length c')) from ?_)
      clear R
      generalize setBr (wr.setCell ⟨b, 1, none⟩ (.slice a9 (delE m.E ii).length c9)) w.heap.size x (.slice a' x.acl.length c') = V5 at N Z R5 ⊢
      obtain ⟨g0, g1, g2, g3, g4, g5, g6, g7, g8, g9⟩ := Z.cell
      exact bodyPost_ret (v := .tuple #[BrV x (.slice a' x.acl.length c'), .int .i64 0]) (by simp [results, Tryd.results26, go_sem, g0, g1, g2, g3, g4, g5, g6, g7, g8, g9]) rfl ⟨a', c', rfl, R5, N⟩

end

end Go.Proofs.YtpcdcmoapenbdaaDoor.T
