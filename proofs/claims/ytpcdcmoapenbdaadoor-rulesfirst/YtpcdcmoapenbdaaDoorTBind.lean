/-
  The functions of package tree that write: prepare, bind, unbind.
-/
import Derived.Test.YtpcdcmoapenbdaaDoorTCalls
namespace Go.Proofs.YtpcdcmoapenbdaaDoor.T
open Go.ChangeShapes Go.WideShapes Go.ChangeAt Go.RowKit
open Go.Proofs.YtpcdcmoapenbdaaDoor.N (bs bs_data bs_size bs_inj)
open Go.Proofs.YtpcdcmoapenbdaaDoor.A (Tm TRow)

theorem map_nil (w : World) : (binOp .eql 58 (.map none) (.map none)).run Tryd.prog w = .ok (.bool true) w := by kernel_rfl
theorem map_made (n : Nat) (w : World) : (binOp .eql 58 (.map (some n)) (.map none)).run Tryd.prog w = .ok (.bool false) w := by kernel_rfl

section
variable {w : World} {b : Nat} {F : Nat → Prop} {c : Nat} {st : St} {mp mg mz : Option Nat} {av nv : Nat → Value}

theorem went_tabled (h : TreeL w b F c st none mg mz av nv) : Went F w (fun i => F i ∨ i = w.heap.size ∨ i = w.heap.size + 1 ∨ i = w.heap.size + 1 + 1)
    (((((w.alloc (.map #[] 0)).alloc (.map #[] 0)).alloc (.map #[] 0)).setCell ⟨b, 1, none⟩ (.map (some w.heap.size))).setCell ⟨b, 2, none⟩ (.map (some (w.heap.size + 1))) |>.setCell ⟨b, 3, none⟩ (.map (some (w.heap.size + 1 + 1)))) := by
  have h1 : Below w.heap.size w (((w.alloc (.map #[] 0)).alloc (.map #[] 0)).alloc (.map #[] 0)) := bel2 (bel2 (one_new _ _) (one_new _ _)) (one_new _ _)
  have h2 : Went F w (fun i => F i ∨ i = w.heap.size ∨ i = w.heap.size + 1 ∨ i = w.heap.size + 1 + 1) (((w.alloc (.map #[] 0)).alloc (.map #[] 0)).alloc (.map #[] 0)) :=
    (Went.of_below h1).more (fun i hi => hi.imp id (fun e => by omega))
  exact ((h2.set (Or.inl h.inF)).set (Or.inl h.inF)).set (Or.inl h.inF)

/-- a tree whose maps are made -/
def Made (w : World) (b : Nat) (F : Nat → Prop) (c : Nat) (st : St) : Prop := ∃ p g z av nv, TreeL w b F c st (some p) (some g) (some z) av nv
theorem Made.at_ (h : Made w b F c st) : TreeAt w b F c st := by
  obtain ⟨p, g, z, av, nv, h⟩ := h
  exact ⟨_, _, _, _, _, h⟩
theorem Made.of (h : TreeL w b F c st mp mg mz av nv) (hp : mp.isSome) : Made w b F c st := by
  cases mp with
  | none => cases hp
  | some p =>
    obtain ⟨g, z, rfl, rfl, _⟩ := h.some_
    exact ⟨_, _, _, _, _, h⟩

theorem spell3 {b : Nat} {w : World} (hb : b < w.heap.size) (x y z : Value) (o : Obj) : (((w.setCell ⟨b, 1, none⟩ x).setCell ⟨b, 2, none⟩ y).setCell ⟨b, 3, none⟩ z).alloc o = (((w.alloc o).setCell ⟨b, 1, none⟩ x).setCell ⟨b, 2, none⟩ y).setCell ⟨b, 3, none⟩ z := by
  have h1 : b < (w.setCell ⟨b, 1, none⟩ x).heap.size := by simpa using hb
  have h2 : b < ((w.setCell ⟨b, 1, none⟩ x).setCell ⟨b, 2, none⟩ y).heap.size := by simpa using hb
  rw [World.setCell_alloc_past _ _ _ _ hb, World.setCell_alloc_past _ _ _ _ h1, World.setCell_alloc_past _ _ _ _ h2]

set_option maxHeartbeats 2000000 in
theorem prepare_at (h : TreeAt w b F c st) : Calls Tryd.prog 41 #[TP b] w fun e w' => e = .returned (.tuple #[]) ∧ ∃ F', Made w' b F' c st ∧ Went F w F' w' := by
  obtain ⟨mp, mg, mz, av, nv, h⟩ := h
  have hm0 := map_nil
  have hm1 := map_made
  have hmm := @run_makeMap Tryd.prog
  have c1 := h.c1
  cases mp with
  | some p =>
    go_enter Tryd.func41, Tryd.ntmps41
    go_wp2
    exact bodyPost_end (v := .tuple #[]) (by simp [results, Tryd.results41]) rfl ⟨rfl, F, Made.of h rfl, Went.refl _ _⟩
  | none =>
    have c2 := h.c2
    have c3 := h.c3
    have f := h.fz
    have hlt := h.lt
    have hl1 : b < w.heap.size + 1 := by omega
    have hl2 : b < w.heap.size + 1 + 1 := by omega
    have H2 := Lib.hid (went_tabled h)
    have H1 := Lib.hid h.tabled
    clear h
    go_enter Tryd.func41, Tryd.ntmps41
    go_wp2
    rw [spell3 hlt, spell3 (by simp; omega), spell3 (by simp; omega)]
    exact bodyPost_end (v := .tuple #[]) (by simp [results, Tryd.results41]) rfl ⟨rfl, _, ⟨_, _, _, _, _, H1.out⟩, H2.out⟩

/-- a node has one name more -/
theorem TreeL.named (h : TreeL w b F c st mp mg mz av nv) {g : Nat} {x : Nd} (hg : st.N g = some x) {s : Txt} (hs : s.length ≤ maxLen) {o : Obj} {v' : Value} {w' : World}
    (hown : w'.ownsRow 0 9 1 v' (x.names.length + 1) (vals x.names ++ [.string (bs s)])) (hgr : (w.alloc o).grownBy w' (nv g).ownBlock) (hat : v'.ownBlock = (nv g).ownBlock ∨ v'.ownBlock = some (w.alloc o).heap.size) :
    TreeL (w'.setCell ⟨g, 11, none⟩ v') b (fun i => F i ∨ v'.ownBlock = some i) (c + 1) { st with N := upd st.N g (some { x with names := x.names ++ [s] }) } mp mg mz (upd av g (av g)) (upd nv g v') ∧ Went F w (fun i => F i ∨ v'.ownBlock = some i) (w'.setCell ⟨g, 11, none⟩ v') ∧ w'.heap[g]? = some (NdO x (av g) (nv g)) := by
  have h0 := h.node g x hg
  have hsz : w.heap.size + 1 ≤ w'.heap.size := by have := hgr.size; simpa using this
  have oth : ∀ i, i < w.heap.size → (nv g).ownBlock ≠ some i → w'.heap[i]? = w.heap[i]? := fun i hi hne => (hgr.block i (by simp; omega) (fun e => hne e.symm)).trans (heap_alloc_old w _ hi)
  have cg : w'.heap[g]? = some (NdO x (av g) (nv g)) := (oth g (h.ltF g h0.inF) (fun e => by
    obtain ⟨cs, hcs⟩ := row_tag h0.nam e
    exact tag_ne h0.cells hcs (by decide) rfl)).trans h0.cells
  have newOr : ∀ i, v'.ownBlock = some i → F i ∨ w.heap.size ≤ i := fun i e => by
    rcases hat with e' | e'
    · rw [e'] at e
      exact Or.inl (h0.namF i e)
    · rw [e'] at e
      cases e
      right
      simp
  refine ⟨?_, ?_, cg⟩
  · refine (h.mono (Nat.le_succ c)).renode hg (fun i hi => Or.inl hi) ?_ (fun i hi hne hne' => ?_) ?_ ?_
    · intro i hi
      rw [show (w'.setCell ⟨g, 11, none⟩ v').heap.size = w'.heap.size by simp]
      rcases hi with hi | hi
      · have := h.ltF i hi
        omega
      · exact (World.ownsRow.lt hown i hi).2
    · rw [other_set _ _ hne]
      exact oth i (h.ltF i hi) hne'
    · exact {
        cells := by rw [head_set cg]; simp
        inF := Or.inl h0.inF
        acl := by
          refine row_of h0.acl (fun k ek => ?_)
          obtain ⟨cs, hcs⟩ := row_tag h0.acl ek
          rw [other_set _ _ (tag_ne hcs h0.cells (by decide))]
          refine oth k (h.ltF k (h0.aclF k ek)) (fun e => ?_)
          obtain ⟨cs', hcs'⟩ := row_tag h0.nam e
          exact tag_ne hcs hcs' (by decide) rfl
        aclF := fun k ek => Or.inl (h0.aclF k ek)
        nam := by
          have e1 : (x.names ++ [s]).length = x.names.length + 1 := by simp
          have e2 : vals (x.names ++ [s]) = vals x.names ++ [.string (bs s)] := by simp [vals]
          show World.ownsRow _ 0 9 1 v' (x.names ++ [s]).length (vals (x.names ++ [s]))
          rw [e1, e2]
          refine row_of hown (fun k ek => ?_)
          obtain ⟨cs, hcs⟩ := row_tag hown ek
          exact other_set _ _ (tag_ne hcs cg (by decide))
        namF := fun k ek => Or.inr ek
        ok := ⟨by have := h0.ok.names; simp; omega, h0.ok.home, h0.ok.uid, h0.ok.dir, fun t ht => by
          rcases List.mem_append.1 ht with ht | ht
          · exact h0.ok.txt t ht
          · rw [List.mem_singleton.1 ht]
            exact hs, h0.ok.acl⟩ }
    · intro g' y hy hne k ek ek'
      rcases hat with e' | e'
      · rw [e'] at ek'
        exact hne (h.apart g' g y x hy hg k ek ek')
      · rw [e'] at ek'
        cases ek'
        have := h.ltF _ ((h.node g' y hy).namF _ ek)
        simp at this
        omega
  · refine ⟨hgr.os, hgr.tape, hgr.output, by simp; omega, fun i hi hn => ?_, fun i hi => hi.elim Or.inl (newOr i)⟩
    rw [other_set _ _ (fun e => hn (by rw [e]; exact h0.inF))]
    exact oth i hi (fun e => hn (h0.namF i e))

theorem info_text : (Tryd.prog.info? 9).map (fun i => (i.zero, i.size, i.bytes)) = some (some (.string ByteArray.empty), 1, 16) := by kernel_rfl

/-- a state with one name more -/
def bindS (st : St) (g : Nat) (x : Nd) (s : Txt) : St :=
  { st with N := upd st.N g (some { x with names := x.names ++ [s] }), P := upd st.P (x.home, s) (some g), Z := upd st.Z x.home (some ((st.Z x.home).getD 0 + 1)) }

theorem TreeL.zget (h : TreeL w b F c st mp mg mz av nv) (d : Int) : -(c : Int) ≤ (st.Z d).getD 0 ∧ (st.Z d).getD 0 ≤ c := by
  cases e : st.Z d with
  | none => simp
  | some n => simpa [e] using h.zb d n e

theorem Went.ofdrew {F F' : Nat → Prop} {w w' : World} (h : Went F w.drew F' w') : Went F w F' w' := ⟨h.os, h.tape, h.output, h.size, h.block, h.foot⟩
theorem row_slice {w : World} {base : Nat} {e : TypeId} {sz : Nat} {v : Value} {n : Nat} {xs : List Value} (h : w.ownsRow base e sz v (n + 1) xs) : ∃ k cap, v = .slice (some ⟨k, 0, none⟩) (n + 1) cap := by
  rcases h.2 with ⟨_, e⟩ | ⟨g, cap, cur, rfl, _⟩
  · cases e
  · exact ⟨g, cap, rfl⟩
theorem one_text (w : World) (y : Txt) : ∀ (j : Nat) (u : Value), [Value.string (bs y)][j]? = some u → (w.alloc (.cells #[.string (bs y)] 9)).cell? ((⟨w.heap.size, 0, none⟩ : Addr).add j) = some u := by
  intro j u hu
  rw [Addr.add_lit, Nat.zero_add, cell_of_row _ _ _ _ _ _ (heap_alloc_new w _)]
  simpa using hu

set_option maxHeartbeats 4000000 in
theorem bind_at (h : Made w b F c st) {g : Nat} {x : Nd} (hg : st.N g = some x) {s : Txt} (hs : s.length ≤ maxLen) (hc : c < 100000) :
    Calls Tryd.prog 42 #[TP b, TP g, .string (bs s)] w fun e w' => e = .returned (.tuple #[]) ∧ ∃ F', Made w' b F' (c + 3) (bindS st g x s) ∧ Went F w F' w' := by
  obtain ⟨p, gm, z, av, nv, h⟩ := h
  have h0 := h.node g x hg
  have c11 := h0.cell.2.2.2.2.2.2.2.2.2.2.2
  have hgl := h0.lt
  have hzz := h.zget x.home
  have hhome := h0.ok.home
  have hnl := h0.ok.names
  have HN := Lib.hid h0.nam
  clear h0
  obtain ⟨i0, hi, hz0, hz1, hz2⟩ := info_parts info_text
  go_enter Tryd.func42, Tryd.ntmps42
  go_wp2_with (at_builtin; go_loud (refine wpList_append_own_at _ rfl (.tmp 10) (.tmp 12) 24 rfl 0 9 i0 _ 1 16 Tryd.underlying24 hi hz0 hz1 hz2 rfl (by decide) (nv g) x.names.length (vals x.names) rfl (HN.out.alloc _) ⟨w.heap.size, 0, none⟩ 1 1 [.string (bs s)] rfl rfl (one_text w s) (by simp [Value.oneCell']) (by unfold maxLen; omega) (by omega) (Nat.zero_le _) ?_; intro v' w' h1 h2 _ h4; have h7 := row_slice h1; obtain ⟨k1, cap, e1⟩ := h7; subst e1; have h8 := TreeL.named h hg hs h1 h2 h4; obtain ⟨h5, h6, cg⟩ := h8; have g11 : w'.cell? ⟨g, 11, none⟩ = some (nv g) := (by simp [World.cell?, cg]); have gf : w'.frozen? ⟨g, 11, none⟩ = false := (by simp [World.frozen?, cg]); clear h1 h2 h4))
  generalize (w'.setCell ⟨g, 11, none⟩ (Value.slice (some ⟨k1, 0, none⟩) (x.names.length + 1) cap)) = w2 at h5 h6 ⊢
  have d1 := h5.drew.c1
  have d10 : w2.drew.cell? ⟨g, 10, none⟩ = some (.int .i64 x.home) := (h5.drew.node g _ (upd_same _ _ _)).cell.2.2.2.2.2.2.2.2.2.2.1
  obtain ⟨w3, r3, h7, h8⟩ := h5.drew.putP (d := x.home) (s := s) hhome hs (j := g) (upd_same _ _ _) (by unfold maxLen; omega)
  have e3 := h7.drew.c3
  have e10 : w3.drew.cell? ⟨g, 10, none⟩ = some (.int .i64 x.home) := (h7.drew.node g _ (upd_same _ _ _)).cell.2.2.2.2.2.2.2.2.2.2.1
  have l3 := h7.drew.lookZ (d := x.home) hhome
  obtain ⟨w4, r4, h9, h10⟩ := h7.drew.putZ (d := x.home) (n := (st.Z x.home).getD 0 + 1) hhome (by omega) (by omega) (by unfold maxLen; omega)
  have H9 := Lib.hid h9
  have H10 := Lib.hid (h6.trans (h8.ofdrew.trans h10.ofdrew))
  clear h h5 h6 h7 h8 h9 h10 HN g11 gf c11 cg
  simp only at l3
  generalize hz : (st.Z x.home).getD 0 = zn at *
  go_region
  go_wp2
  go_region
  go_wp2
  refine bodyPost_end (v := .tuple #[]) (by simp [results, Tryd.results42]) rfl ⟨rfl, _, ?_, H10.out⟩
  unfold bindS
  rw [hz]
  exact ⟨_, _, _, _, _, H9.out⟩

/-- a state with a name less -/
def unbindS (st : St) (d : Int) (s : Txt) : St := { st with P := upd st.P (d, s) none, Z := upd st.Z d (some ((st.Z d).getD 0 - 1)) }

set_option maxHeartbeats 2000000 in
theorem unbind_L {p gm z : Nat} (h : TreeL w b F c st (some p) (some gm) (some z) av nv) {d : Int} {s : Txt} (hd : rng d) (hs : s.length ≤ maxLen) (hc : c < 100000) :
    Calls Tryd.prog 48 #[TP b, .int .i64 d, .string (bs s)] w fun e w' => e = .returned (.tuple #[]) ∧ TreeL w' b F (c + 2) (unbindS st d s) (some p) (some gm) (some z) av nv ∧ Went F w F w' := by
  have c1 := h.c1
  have hzz := h.zget d
  obtain ⟨w2, r2, h2, h3⟩ := h.dropP hd hs 0
  have e3 := h2.c3
  have l3 := h2.lookZ hd
  obtain ⟨w4, r4, h4, h5⟩ := h2.putZ (d := d) (n := (st.Z d).getD 0 - 1) hd (by omega) (by omega) (by unfold maxLen; omega)
  have H4 := Lib.hid h4
  have H5 := Lib.hid (h3.trans h5)
  clear h h2 h3 h4 h5
  simp only at l3
  generalize hz : (st.Z d).getD 0 = zn at *
  go_enter Tryd.func48, Tryd.ntmps48
  go_wp2
  refine bodyPost_end (v := .tuple #[]) (by simp [results, Tryd.results48]) rfl ⟨rfl, ?_, H5.out⟩
  unfold unbindS
  rw [hz]
  exact H4.out

end

end Go.Proofs.YtpcdcmoapenbdaaDoor.T
