/-
  Access, Ringed, Delete: what they answer and what they leave.
-/
import Derived.Test.YtpcdcmoapenbdaaDoorTDeeds
namespace Go.Proofs.YtpcdcmoapenbdaaDoor.T
open Go.ChangeShapes Go.WideShapes Go.ChangeAt Go.RowKit
open Go.Proofs.YtpcdcmoapenbdaaDoor.N (bs bs_data bs_size bs_inj)
open Go.Proofs.YtpcdcmoapenbdaaDoor.A (Tm TRow)

section
variable {w : World} {b : Nat} {F : Nat → Prop} {c : Nat} {st : St} {mp mg mz : Option Nat} {av nv : Nat → Value}

/-- a node with another list, with other brackets -/
def aclX (x : Nd) (l : List Tm) : Nd := { x with br := { x.br with acl := l } }
def ringX (x : Nd) (r1 r2 r3 gt : Int) : Nd := { x with br := { x.br with r1 := r1, r2 := r2, r3 := r3, gt := gt } }

theorem TreeL.setAcl (h : TreeL w b F c st mp mg mz av nv) {g : Nat} {x : Nd} (hg : st.N g = some x) {v : Value} {l : List Tm} (hv : Ac w v l) (hl : l.length ≤ 1000000) :
    TreeL (w.setCell ⟨g, 5, none⟩ v) b (fun i => F i ∨ v.ownBlock = some i) c (nodeS st g (aclX x l)) mp mg mz (upd av g v) (upd nv g (nv g)) := by
  have h0 := h.node g x hg
  refine h.renode hg (fun _ h => Or.inl h) (fun j hj => ?_) (fun j _ hne _ => other_set _ _ hne) ?_ (fun g' y hy hne k ek ek' => hne (h.apart g' g y x hy hg k ek ek'))
  · simp
    rcases hj with hj | hj
    · exact h.ltF j hj
    · exact (World.ownsRow.lt hv j hj).2
  · exact {
      cells := by rw [head_set h0.cells]; simp [aclX]
      inF := Or.inl h0.inF
      acl := by
        refine row_of hv (fun k ek => ?_)
        obtain ⟨cs, hcs⟩ := row_tag hv ek
        exact other_set _ _ (tag_ne hcs h0.cells (by decide))
      aclF := fun k ek => Or.inr ek
      nam := by
        refine row_of h0.nam (fun k ek => ?_)
        obtain ⟨cs, hcs⟩ := row_tag h0.nam ek
        exact other_set _ _ (tag_ne hcs h0.cells (by decide))
      namF := fun k ek => Or.inl (h0.namF k ek)
      ok := ⟨h0.ok.names, h0.ok.home, h0.ok.uid, h0.ok.dir, h0.ok.txt, hl⟩ }

@[reducible] def setRg (w : World) (g : Nat) (r1 r2 r3 gt : Int) : World := (((w.setCell ⟨g, 6, none⟩ (.int .i64 r1)).setCell ⟨g, 7, none⟩ (.int .i64 r2)).setCell ⟨g, 8, none⟩ (.int .i64 r3)).setCell ⟨g, 9, none⟩ (.int .i64 gt)
theorem other_rg {w : World} {g j : Nat} (hj : j ≠ g) (r1 r2 r3 gt : Int) : (setRg w g r1 r2 r3 gt).heap[j]? = w.heap[j]? := by
  rw [other_set _ _ hj, other_set _ _ hj, other_set _ _ hj, other_set _ _ hj]
theorem TreeL.setRing (h : TreeL w b F c st mp mg mz av nv) {g : Nat} {x : Nd} (hg : st.N g = some x) (r1 r2 r3 gt : Int) :
    TreeL (setRg w g r1 r2 r3 gt) b F c (nodeS st g (ringX x r1 r2 r3 gt)) mp mg mz (upd av g (av g)) (upd nv g (nv g)) := by
  have h0 := h.node g x hg
  refine h.renode hg (fun _ h => h) (fun j hj => by simpa using h.ltF j hj) (fun j _ hne _ => other_rg hne _ _ _ _) ?_ (fun g' y hy hne k ek ek' => hne (h.apart g' g y x hy hg k ek ek'))
  exact {
    cells := by
      have h1 := head_set (head_set (head_set (head_set h0.cells 6 (.int .i64 r1)) 7 (.int .i64 r2)) 8 (.int .i64 r3)) 9 (.int .i64 gt)
      exact h1.trans (by simp [ringX])
    inF := h0.inF
    acl := by
      refine row_of h0.acl (fun k ek => ?_)
      obtain ⟨cs, hcs⟩ := row_tag h0.acl ek
      exact other_rg (tag_ne hcs h0.cells (by decide)) _ _ _ _
    aclF := h0.aclF
    nam := by
      refine row_of h0.nam (fun k ek => ?_)
      obtain ⟨cs, hcs⟩ := row_tag h0.nam ek
      exact other_rg (tag_ne hcs h0.cells (by decide)) _ _ _ _
    namF := h0.namF
    ok := ⟨h0.ok.names, h0.ok.home, h0.ok.uid, h0.ok.dir, h0.ok.txt, h0.ok.acl⟩ }

set_option maxHeartbeats 2000000 in
theorem access_at (h : TreeAt w b F c st) {d : Int} {s : Txt} (hd : rng d) (hs : s.length ≤ maxLen) {g : Nat} {x : Nd} (hP : st.P (d, s) = some g) (hN : st.N g = some x) (hk : x.br.kind = 1) {a : Option Addr} {cc : Nat} {l : List Tm} (hr : TRow w a cc l) (htx : ∀ t ∈ l, t.1.length ≤ maxLen) (hl : A.lmay l = true) :
    Calls Tryd.prog 27 #[TP b, .int .i64 d, .string (bs s), .slice a l.length cc] w fun e w' => e = .returned (.int .i64 0) ∧ ∃ F', TreeAt w' b F' c (nodeS st g (aclX x l)) ∧ Went F w F' w' := by
  have h1 := segment_yes h hd hs hP hN hk
  have h2 := aclMay_is hr htx hl
  have hal : l.length ≤ 1000000 := by have := (A.lmay_parts hl).1; omega
  have HR := Lib.hid hr
  obtain ⟨mp, mg, mz, av, nv, h⟩ := h
  have H := Lib.hid h
  have HN := Lib.hid hN
  have hg := (h.node g x hN).lt
  clear h hN hr htx hl hk
  go_enter Tryd.func27, Tryd.ntmps27
  go_wp2_with (first
    | (go_at_call 52; ((with_reducible refine h1.mono ?_); rintro e w1 ⟨rfl, rfl⟩))
    | (go_at_call 53; ((with_reducible refine h2.mono ?_); rintro e w2 ⟨rfl, b2⟩))
    | (go_at_call 54; ((refine (copied_any (HR.out.below b2) hal).mono ?_); rintro e w3 ⟨a', c', rfl, o3, b3⟩; have T3 := H.out.below (bel2 b2 b3); have c5 := (T3.node g x HN.out).cell.2.2.2.2.2.1; have f5 := (T3.node g x HN.out).fz 5)))
  go_ret
  refine ⟨rfl, _, ⟨_, _, _, _, _, T3.setAcl HN.out (own_base o3 (Nat.zero_le _)) hal⟩, ?_⟩
  have W3 : Went F w (fun i => F i ∨ (Value.slice a' l.length c').ownBlock = some i) w3 := (Went.of_below (bel2 b2 b3)).more (fun i hi => hi.elim Or.inl (fun e => Or.inr (Nat.le_trans b2.size (World.ownsRow.lt o3 i e).1)))
  exact W3.set (Or.inl (T3.node g x HN.out).inF)

theorem access_bad (h : TreeAt w b F c st) {d : Int} {s : Txt} (hd : rng d) (hs : s.length ≤ maxLen) {g : Nat} {x : Nd} (hP : st.P (d, s) = some g) (hN : st.N g = some x) (hk : x.br.kind = 1) {a : Option Addr} {cc : Nat} {l : List Tm} (hr : TRow w a cc l) (htx : ∀ t ∈ l, t.1.length ≤ maxLen) (hl : A.lmay l = false) :
    Calls Tryd.prog 27 #[TP b, .int .i64 d, .string (bs s), .slice a l.length cc] w fun e w' => e = .returned (.int .i64 1) ∧ Below w.heap.size w w' := by
  have h1 := segment_yes h hd hs hP hN hk
  have h2 := aclMay_is hr htx hl
  clear h hN hr htx hl hk
  go_enter Tryd.func27, Tryd.ntmps27
  go_wp2_with (first
    | (go_at_call 52; ((with_reducible refine h1.mono ?_); rintro e w1 ⟨rfl, rfl⟩))
    | (go_at_call 53; ((with_reducible refine h2.mono ?_); rintro e w2 ⟨rfl, b2⟩)))
  go_ret
  exact ⟨rfl, b2⟩

theorem access_kind (h : TreeAt w b F c st) {d : Int} {s : Txt} (hd : rng d) (hs : s.length ≤ maxLen) {g : Nat} {x : Nd} (hP : st.P (d, s) = some g) (hN : st.N g = some x) (hk : ¬ x.br.kind = 1) {v : Value} :
    Calls Tryd.prog 27 #[TP b, .int .i64 d, .string (bs s), v] w fun e w' => e = .returned (.int .i64 15) ∧ w = w' := by
  have h1 := segment_kind h hd hs hP hN hk
  clear h hN hk
  go_enter Tryd.func27, Tryd.ntmps27
  go_wp2_with (go_at_call 52; ((with_reducible refine h1.mono ?_); rintro e w1 ⟨rfl, rfl⟩))
  go_ret
  exact ⟨rfl, rfl⟩

theorem ringed_at (h : TreeAt w b F c st) {d : Int} {s : Txt} (hd : rng d) (hs : s.length ≤ maxLen) {g : Nat} {x : Nd} (hP : st.P (d, s) = some g) (hN : st.N g = some x) (hk : x.br.kind = 1) {r1 r2 r3 gt : Int} (hb : W.bmay r1 r2 r3 gt = true) :
    Calls Tryd.prog 29 #[TP b, .int .i64 d, .string (bs s), .agg #[.int .i64 r1, .int .i64 r2, .int .i64 r3, .int .i64 gt]] w fun e w' => e = .returned (.int .i64 0) ∧ TreeAt w' b F c (nodeS st g (ringX x r1 r2 r3 gt)) ∧ Went F w F w' := by
  have h1 := segment_yes (h.alloc (W.BO r1 r2 r3 gt)) hd hs hP hN hk
  have h2 := ringMay_is (w.alloc (W.BO r1 r2 r3 gt)) hb
  obtain ⟨mp, mg, mz, av, nv, h⟩ := h
  have H := Lib.hid h
  have HN := Lib.hid hN
  have hg := (h.node g x hN).lt
  clear h hN hk hb
  go_enter Tryd.func29, Tryd.ntmps29
  go_wp2_with (first
    | (go_at_call 52; ((with_reducible refine h1.mono ?_); rintro e w1 ⟨rfl, rfl⟩))
    | (go_at_call 56; ((with_reducible refine h2.mono ?_); rintro e w2 ⟨rfl, b2⟩; have T2 := H.out.below (bel2 (one_new w (W.BO r1 r2 r3 gt)) b2); have n2 := T2.node g x HN.out; have c6 := n2.cell.2.2.2.2.2.2; obtain ⟨c6, c7, c8, c9, _, _⟩ := c6; have f := n2.fz; have k2 := W.old_at b2; have d0 := k2 w.heap.size 0 (by simp); have d1 := k2 w.heap.size 1 (by simp); have d2 := k2 w.heap.size 2 (by simp); have d3 := k2 w.heap.size 3 (by simp); clear k2; simp [World.cell?_alloc_new] at d0 d1 d2 d3)))
  go_ret
  exact ⟨rfl, ⟨_, _, _, _, _, T2.setRing HN.out r1 r2 r3 gt⟩, ((((Went.of_below (bel2 (one_new w (W.BO r1 r2 r3 gt)) b2)).set n2.inF).set n2.inF).set n2.inF).set n2.inF⟩

theorem ringed_bad (h : TreeAt w b F c st) {d : Int} {s : Txt} (hd : rng d) (hs : s.length ≤ maxLen) {g : Nat} {x : Nd} (hP : st.P (d, s) = some g) (hN : st.N g = some x) (hk : x.br.kind = 1) {r1 r2 r3 gt : Int} (hb : W.bmay r1 r2 r3 gt = false) :
    Calls Tryd.prog 29 #[TP b, .int .i64 d, .string (bs s), .agg #[.int .i64 r1, .int .i64 r2, .int .i64 r3, .int .i64 gt]] w fun e w' => e = .returned (.int .i64 1) ∧ Below w.heap.size w w' := by
  have h1 := segment_yes (h.alloc (W.BO r1 r2 r3 gt)) hd hs hP hN hk
  have h2 := ringMay_is (w.alloc (W.BO r1 r2 r3 gt)) hb
  clear h hN hk hb
  go_enter Tryd.func29, Tryd.ntmps29
  go_wp2_with (first
    | (go_at_call 52; ((with_reducible refine h1.mono ?_); rintro e w1 ⟨rfl, rfl⟩))
    | (go_at_call 56; ((with_reducible refine h2.mono ?_); rintro e w2 ⟨rfl, b2⟩)))
  go_ret
  exact ⟨rfl, bel2 (one_new _ _) b2⟩

end

end Go.Proofs.YtpcdcmoapenbdaaDoor.T
