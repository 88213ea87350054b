/-
  New, Look, ByUID, Home, Name, Access, Ringed: what they answer and what they leave.
-/
import Derived.Test.YtpcdcmoapenbdaaDoorTAdd
namespace Go.Proofs.YtpcdcmoapenbdaaDoor.T
open Go.ChangeShapes Go.WideShapes Go.ChangeAt Go.RowKit
open Go.Proofs.YtpcdcmoapenbdaaDoor.N (bs bs_data bs_size bs_inj)
open Go.Proofs.YtpcdcmoapenbdaaDoor.A (Tm TRow)

/-- a tree that has nothing -/
def noSt : St := ⟨0, fun _ => none, fun _ => none, fun _ => none, fun _ => none⟩
theorem tree_new (w : World) : TreeAt (w.alloc (TrO 0 none none none)) w.heap.size (fun i => i = w.heap.size) 0 noSt :=
  ⟨none, none, none, fun _ => .slice none 0 0, fun _ => .slice none 0 0, {
    head := heap_alloc_new w _
    inF := rfl
    ltF := fun i hi => by simp [hi]
    tabs := Or.inl ⟨rfl, rfl, rfl⟩
    inP := fun _ e => by cases e
    inG := fun _ e => by cases e
    inZ := fun _ e => by cases e
    mapP := ⟨fun _ _ => rfl, fun _ e => by cases e⟩
    mapG := ⟨fun _ _ => rfl, fun _ e => by cases e⟩
    mapZ := ⟨fun _ _ => rfl, fun _ e => by cases e⟩
    node := fun _ _ e => by cases e
    apart := fun _ _ _ _ e => by cases e
    thereP := fun _ _ e => by cases e
    thereG := fun _ _ e => by cases e
    zb := fun _ _ e => by cases e
    lb := ⟨Int.le_refl _, Int.le_refl _⟩ }⟩

theorem new_at (w : World) : Calls Tryd.prog 9 #[] w fun e w' => e = .returned (TP w.heap.size) ∧ TreeAt w' w.heap.size (fun i => i = w.heap.size) 0 noSt ∧ Below w.heap.size w w' ∧ w.heap.size < w'.heap.size := by
  have H := Lib.hid (tree_new w)
  go_enter Tryd.func9, Tryd.ntmps9
  go_wp2
  go_ret
  exact ⟨rfl, H.out, one_new _ _, by simp⟩

section
variable {w : World} {b : Nat} {F : Nat → Prop} {c : Nat} {st : St}

set_option maxHeartbeats 1000000 in
theorem look_no (h : TreeAt w b F c st) {d : Int} {s : Txt} (hd : rng d) (hs : s.length ≤ maxLen) (hP : st.P (d, s) = none) :
    Calls Tryd.prog 77 #[TP b, .int .i64 d, .string (bs s)] w fun e w' => e = .returned (.tuple #[BrV noBr (.slice none 0 0), .bool false]) ∧ Below w.heap.size w w' := by
  have H := Lib.hid h
  have HP := Lib.hid hP
  have B := Lib.hid (BrAt.new w noBr (.slice none 0 0))
  clear h hP
  go_enter Tryd.func77, Tryd.ntmps77
  go_wp2_with (go_at_call 44; ((refine (find_no (H.out.alloc _) hd hs HP.out).mono ?_); rintro e w1 ⟨rfl, rfl⟩))
  have L := one_new w (BrO noBr (.slice none 0 0))
  refine (show bodyPost _ _ _ _ _ (w.alloc (BrO noBr (.slice none 0 0))) from ?_)
  generalize w.alloc (BrO noBr (.slice none 0 0)) = V at B L ⊢
  obtain ⟨g0, g1, g2, g3, g4, g5, g6, g7, g8, g9⟩ := B.out.cell
  exact bodyPost_ret (v := .tuple #[BrV noBr (.slice none 0 0), .bool false]) (by simp [results, Tryd.results77, go_sem, g0, g1, g2, g3, g4, g5, g6, g7, g8, g9]) rfl ⟨rfl, L⟩

/-- a branch that a tree handed out: its list is of the caller's own -/
def Shown (w : World) (b : Br) (k : Value → Value) (e : Ending) (w' : World) : Prop :=
  ∃ a' c', e = .returned (k (BrV b (.slice a' b.acl.length c'))) ∧ A.Own w.heap.size w' (.slice a' b.acl.length c') b.acl ∧ Below w.heap.size w w'

set_option maxHeartbeats 1000000 in
theorem look_yes (h : TreeAt w b F c st) {d : Int} {s : Txt} (hd : rng d) (hs : s.length ≤ maxLen) {g : Nat} {x : Nd} (hP : st.P (d, s) = some g) (hN : st.N g = some x) :
    Calls Tryd.prog 77 #[TP b, .int .i64 d, .string (bs s)] w (Shown w x.br fun v => .tuple #[v, .bool true]) := by
  have hf := find_yes (h.alloc (BrO noBr (.slice none 0 0))) hd hs hP
  obtain ⟨mp, mg, mz, av, nv, h⟩ := h
  have HN := Lib.hid (((h.below (one_new w (BrO noBr (.slice none 0 0)))).node g x hN))
  have HF := Lib.hid hf
  have B := Lib.hid (BrAt.new w noBr (.slice none 0 0))
  clear h hf
  go_enter Tryd.func77, Tryd.ntmps77
  go_wp2_with (first
    | (go_at_call 44; ((refine HF.out.mono ?_); rintro e w1 ⟨rfl, rfl⟩))
    | (go_at_call 50; ((refine (shown_any HN.out).mono ?_); rintro e w1 ⟨a', c', rfl, o1, b1⟩; have X1 := B.out.below b1; obtain ⟨p0, p1, p2, p3, p4, p5, p6, p7, p8, p9⟩ := X1.cell; have f1 := X1.fz; have O1 := Lib.hid o1; have L1 := Lib.hid (bel2 (one_new w (BrO noBr (.slice none 0 0))) b1); clear o1 b1)))
  have B5 := X1.stored x.br (.slice a' x.br.acl.length c')
  have L5 := Below.setBr L1.out (k := w.heap.size) (Nat.le_refl _) x.br (.slice a' x.br.acl.length c')
  have O5 := own_base (base' := w.heap.size) (own_setBr (k := w.heap.size) O1.out (by simp) x.br (.slice a' x.br.acl.length c')) (by simp)
  refine (show bodyPost _ _ _ _ _ (setBr w1 w.heap.size x.br (.slice a' x.br.acl.length c')) from ?_)
  generalize setBr w1 w.heap.size x.br (.slice a' x.br.acl.length c') = V at B5 L5 O5 ⊢
  obtain ⟨g0, g1, g2, g3, g4, g5, g6, g7, g8, g9⟩ := B5.cell
  exact bodyPost_ret (v := .tuple #[BrV x.br (.slice a' x.br.acl.length c'), .bool true]) (by simp [results, Tryd.results77, go_sem, g0, g1, g2, g3, g4, g5, g6, g7, g8, g9]) rfl ⟨a', c', rfl, O5, L5⟩

theorem TreeAt.made (h : TreeAt w b F c st) {k : Int × Txt} {g : Nat} (hP : st.P k = some g) : Made w b F c st := by
  obtain ⟨mp, mg, mz, av, nv, h⟩ := h
  cases mp with
  | none =>
    rw [h.mapP.1 rfl k] at hP
    cases hP
  | some p => exact Made.of h rfl
theorem Made.drewN (h : Made w b F c st) (n : Nat) : Made (w.drewN n) b F c st := by
  obtain ⟨p, g, z, av, nv, h⟩ := h
  exact ⟨_, _, _, _, _, h.drewN n⟩

theorem name_none (h : TreeAt w b F c st) {d : Int} {s m : Txt} (hd : rng d) (hs : s.length ≤ maxLen) (hP : st.P (d, s) = none) :
    Calls Tryd.prog 21 #[TP b, .int .i64 d, .string (bs s), .string (bs m)] w fun e w' => e = .returned (.int .i64 4) ∧ w = w' := by
  have hf := find_no h hd hs hP
  go_enter Tryd.func21, Tryd.ntmps21
  go_wp2_with (go_at_call 44; ((with_reducible refine hf.mono ?_); rintro e w1 ⟨rfl, rfl⟩))
  go_ret
  exact ⟨rfl, rfl⟩

theorem name_no (h : TreeAt w b F c st) {d : Int} {s m : Txt} (hd : rng d) (hs : s.length ≤ maxLen) (hm : m.length ≤ maxLen) {g : Nat} (hP : st.P (d, s) = some g) {r : Int} (hf : freeE st d m = r) (hr : ¬ r = 0) :
    Calls Tryd.prog 21 #[TP b, .int .i64 d, .string (bs s), .string (bs m)] w fun e w' => e = .returned (.int .i64 r) ∧ ∃ n, w' = w.drewN n := by
  have h1 := find_yes h hd hs hP
  have h2 := free_at h hd hm hf
  have e1 : (r == 0) = false := by simpa using hr
  clear hr hf
  go_enter Tryd.func21, Tryd.ntmps21
  go_wp2_with (first
    | (go_at_call 44; ((with_reducible refine h1.mono ?_); rintro e w1 ⟨rfl, rfl⟩))
    | (go_at_call 39; ((with_reducible refine h2.mono ?_); rintro e w2 ⟨rfl, n, rfl⟩)))
  go_ret
  exact ⟨rfl, n, rfl⟩

theorem name_at (h : TreeAt w b F c st) {d : Int} {s m : Txt} (hd : rng d) (hs : s.length ≤ maxLen) (hm : m.length ≤ maxLen) {g : Nat} {x : Nd} (hP : st.P (d, s) = some g) (hN : st.N g = some x) (hf : freeE st d m = 0) (hc : c < 10000) :
    Calls Tryd.prog 21 #[TP b, .int .i64 d, .string (bs s), .string (bs m)] w fun e w' => e = .returned (.int .i64 0) ∧ ∃ F', TreeAt w' b F' (c + 3) (bindS st g x m) ∧ Went F w F' w' := by
  have h1 := find_yes h hd hs hP
  have h2 := free_at h hd hm hf
  have H3 := Lib.hid (h.made hP)
  have HN := Lib.hid hN
  clear hf hN
  go_enter Tryd.func21, Tryd.ntmps21
  go_wp2_with (first
    | (go_at_call 44; ((with_reducible refine h1.mono ?_); rintro e w1 ⟨rfl, rfl⟩))
    | (go_at_call 39; ((with_reducible refine h2.mono ?_); rintro e w2 ⟨rfl, n, rfl⟩))
    | (go_at_call 42; ((refine (bind_at (H3.out.drewN n) HN.out hm (by omega)).mono ?_); rintro e w3 ⟨rfl, F3, m3, g3⟩)))
  go_ret
  exact ⟨rfl, F3, m3.at_, (Went.of_below (bel_drewN _ _)).trans g3⟩

end

end Go.Proofs.YtpcdcmoapenbdaaDoor.T
