/-
  The law NamesSplit answers true.
-/
import Derived.Test.YtipohdaofnhnpaaDoorNAwake
namespace Go.Proofs.YtipohdaofnhnpaaDoor.N
open Go.ChangeShapes Go.WideShapes Go.ChangeAt Go.RowKit

/-- Split's answer where the parts are known -/
def SplitAt (X : List (List UInt8)) (n : Nat) (E : Int) (w : World) (e : Ending) (w' : World) : Prop :=
  ∃ a c, e = .returned (.tuple #[.slice a n c, .int .i64 E]) ∧ Row w' a c X ∧ Below w.heap.size w w'

theorem split_at (s : ByteArray) (w : World) (hs : s.size ≤ maxLen) (hg : Glob w) {X : List (List UInt8)} {n : Nat} {E : Int} (hp : ps s.data.toList = X) (hn : X.length = n) (he : er s.data.toList = E) :
    Calls Tryd.prog 9 #[.string s] w (SplitAt X n E w) := by
  refine (split_any s w hs hg).mono fun e w' ⟨a, c, h1, h2, h3⟩ => ⟨a, c, ?_, ?_, h3⟩
  · rw [h1, hp, he, hn]
  · rw [← hp]; exact h2
theorem refSplit_at (s : ByteArray) (w : World) (hs : s.size ≤ maxLen) {X : List (List UInt8)} {n : Nat} {E : Int} (hp : ps s.data.toList = X) (hn : X.length = n) (he : er s.data.toList = E) :
    Calls Tryd.prog 10 #[.string s] w (SplitAt X n E w) := by
  refine (refSplit_any s w hs).mono fun e w' ⟨a, c, h1, h2, h3⟩ => ⟨a, c, ?_, ?_, h3⟩
  · rw [h1, hp, he, hn]
  · rw [← hp]; exact h2
theorem same_eq (a b : Option Addr) (c d : Nat) (X : List (List UInt8)) (n : Nat) (w : World) (hn : X.length = n) (hr : Row w a c X) (hs : Row w b d X) (hq : n ≤ 1000000) :
    Calls Tryd.prog 11 #[.slice a n c, .slice b n d] w fun e w' => e = .returned (.bool true) ∧ ∃ n, w' = w.drewN n := by
  subst hn
  refine (same_any a b c d X X w hr hs hq hq).mono fun e w' ⟨he, hw⟩ => ⟨?_, hw⟩
  rw [he]; simp

theorem below2 {B : Nat} {w w1 w2 : World} (h1 : Below B w w1) (h2 : Below w1.heap.size w1 w2) (hB : B ≤ w.heap.size := by exact Nat.le_refl _) : Below B w w2 := h1.trans (h2.mono (Nat.le_trans hB h1.size))
theorem belowN {B : Nat} {w w1 : World} (h1 : Below B w w1) (n : Nat) : Below B w (w1.drewN n) := ⟨h1.os, h1.tape, h1.output, h1.size, h1.block⟩

theorem ps_join {l : List UInt8} (h : er l = 0) : joinOf (ps l) = l := by
  unfold er at h
  cases hp : partsOf l with
  | none => rw [hp] at h; cases h
  | some q => rw [ps, hp]; exact (partsOf_some hp).1.symm

theorem Row.cell_last {w : World} {a : Option Addr} {c : Nat} {q : List (List UInt8)} {z : List UInt8} (h : Row w a c (q ++ [z])) :
    q.length + 1 ≤ c ∧ ∃ bk o, a = some ⟨bk, o, none⟩ ∧ bk < w.heap.size ∧ w.cell? ⟨bk, o + q.length, none⟩ = some (.string (bs z)) :=
  ⟨by have := h.1; rwa [List.length_append] at this, h.last_⟩

theorem ofN {w w' : World} {n : Nat} (h : Below (w.drewN n).heap.size (w.drewN n) w') : Below w.heap.size w w' := ⟨h.os, h.tape, h.output, h.size, h.block⟩
theorem join_at (a : Option Addr) (c : Nat) (X : List (List UInt8)) (n : Nat) (w : World) (hn : X.length = n) (hr : Row w a c X) (hq : n ≤ 100000000000) (hl : (flat X).length ≤ 100000000000) :
    Calls Tryd.prog 18 #[.slice a n c] w fun e w' => e = .returned (.string (bs (joinOf X))) ∧ Below w.heap.size w w' := by
  subst hn
  exact join_any a c X w hr hq hl

set_option maxHeartbeats 2000000 in
theorem namesSplit_walk (s : ByteArray) (w : World) (hs : s.size ≤ maxLen) (hg : Glob w) :
    Calls Tryd.prog 3 #[.string s] w fun e w' => e = .returned (.bool true) ∧ Below w.heap.size w w' := by
  have HG := Lib.hid hg
  clear hg
  by_cases h2000 : 2000 < s.size
  · unfold maxLen at hs
    go_enter Tryd.func3, Tryd.ntmps3
    go_wp2_with (go_at_call 8; refine (awake_any _ HG.out).mono ?_; rintro e w0 ⟨rfl, hb0⟩)
    all_goals (go_ret; exact ⟨rfl, hb0⟩)
  rcases List.eq_nil_or_concat (ps s.data.toList) with hp | ⟨q, z, hp⟩
  · have HP := Lib.hid hp
    have HU := Lib.hid (show up s.data.toList = [] by simp [up, hp])
    have HZ := Lib.hid (show lastOf s.data.toList = [] by simp [lastOf, hp])
    have HE := Lib.hid (show pe s.data.toList = 3 by simp [pe, hp])
    clear hp
    rcases er_of (l := s.data.toList) with he | he
    all_goals
      have HX := Lib.hid he
      clear he
      go_enter Tryd.func3, Tryd.ntmps3
      go_wp2_with (first
        | (go_at_call 8; refine (awake_any _ HG.out).mono ?_; rintro e w0 ⟨rfl, hb0⟩)
        | (go_at_call 9; refine (split_at s _ hs (HG.out.below hb0) HP.out rfl HX.out).mono ?_; rintro e w1 ⟨a, c, rfl, hr, hb1⟩; have HR := Lib.hid hr; clear hr)
        | (go_at_call 10; refine (refSplit_at s _ hs HP.out rfl HX.out).mono ?_; rintro e w2 ⟨b, d, rfl, hr2, hb2⟩; have HR2 := Lib.hid hr2; clear hr2)
        | (go_at_call 11; refine (same_eq _ _ _ _ [] 0 _ rfl (HR.out.below hb2) HR2.out (by decide)).mono ?_; rintro e w3 ⟨rfl, n3, rfl⟩)
        | (go_at_call 12; refine (may_any _ _ hs).mono ?_; rintro e w4 ⟨rfl, n4, rfl⟩)
        | (go_at_call 13; refine (nameMay_any _ _ hs).mono ?_; rintro e w4 ⟨rfl, rfl⟩)
        | (go_at_call 14; refine (user_any _ _ hs).mono ?_; rintro e w4 ⟨rfl, n5, rfl⟩)
        | (go_at_call 15; refine (userMay_any _ _ hs).mono ?_; rintro e w4 ⟨rfl, rfl⟩)
        | (go_at_call 16; refine (parent_any s _ hs ((HG.out.below (below2 (below2 hb0 hb1) hb2)).drewN _)).mono ?_; rintro e w5 ⟨rfl, hb5⟩; rw [HU.out, HZ.out, HE.out, ← bs_nil]))
      go_ret
      exact ⟨rfl, below2 (belowN (below2 (below2 hb0 hb1) hb2) _) hb5⟩
  · rw [List.concat_eq_append] at hp
    have hne : ¬ (q ++ [z] = []) := by simp
    have hex : er s.data.toList = 0 := by
      rcases er_of (l := s.data.toList) with he | he
      · exact he
      · rw [ps_of_er he] at hp; exact absurd hp.symm hne
    have HP := Lib.hid hp
    have HX := Lib.hid hex
    have HU := Lib.hid (show up s.data.toList = joinOf q by rw [up, hp, if_neg hne, List.dropLast_concat])
    have HZ := Lib.hid (show lastOf s.data.toList = z by simp [lastOf, hp, List.getLastD_eq_getLast?])
    have HE := Lib.hid (show pe s.data.toList = 0 by rw [pe, hp, if_neg hne])
    have hlen : (q ++ [z]).length = q.length + 1 := by simp
    have h16 : q.length + 1 ≤ 16 := by have := ps_len s.data.toList; rw [hp, hlen] at this; exact this
    have hmay := ps_may s.data.toList
    have HJ : Hid (((bs (joinOf (q ++ [z]))).toList == s.toList) = true) := Lib.hid (by
      have := ps_join hex
      rw [hp] at this
      rw [this, bs_of]; exact beq_self_eq_true _)
    rw [hp] at hmay
    have HF : Hid ((flat (q ++ [z])).length ≤ 1000) := Lib.hid (by have := sum_le hmay; unfold flat; rw [hlen] at this; omega)
    have HF' : Hid ((flat q).length ≤ 1000) := Lib.hid (by have := sum_le (qs := q) (fun p hq => hmay p (List.mem_append_left _ hq)); unfold flat; omega)
    have HL := Lib.hid hlen
    have eJ := HJ.out
    clear hp hmay hlen hex
    go_enter Tryd.func3, Tryd.ntmps3
    go_wp2_with (first
      | (go_at_call 8; refine (awake_any _ HG.out).mono ?_; rintro e w0 ⟨rfl, hb0⟩)
      | (go_at_call 9; refine (split_at s _ hs (HG.out.below hb0) HP.out HL.out HX.out).mono ?_; rintro e w1 ⟨a, c, rfl, hr, hb1⟩; have HR := Lib.hid hr; clear hr)
      | (go_at_call 10; refine (refSplit_at s _ hs HP.out HL.out HX.out).mono ?_; rintro e w2 ⟨b, d, rfl, hr2, hb2⟩; obtain ⟨hd, bk, o, rfl, hbk, hc2⟩ := hr2.cell_last; have HR2 := Lib.hid hr2; clear hr2)
      | (go_at_call 11; refine (same_eq _ _ _ _ (q ++ [z]) (q.length + 1) _ HL.out (HR.out.below hb2) HR2.out (by omega)).mono ?_; rintro e w3 ⟨rfl, n3, rfl⟩)
      | (go_at_call 12; refine (may_any _ _ hs).mono ?_; rintro e w4 ⟨rfl, n4, rfl⟩)
      | (go_at_call 13; refine (nameMay_any _ _ hs).mono ?_; rintro e w4 ⟨rfl, rfl⟩)
      | (go_at_call 14; refine (user_any _ _ hs).mono ?_; rintro e w4 ⟨rfl, n5, rfl⟩)
      | (go_at_call 15; refine (userMay_any _ _ hs).mono ?_; rintro e w4 ⟨rfl, rfl⟩)
      | (go_at_call 16; refine (parent_any s _ hs ((HG.out.below (below2 (below2 hb0 hb1) hb2)).drewN _)).mono ?_; rintro e w5 ⟨rfl, hb5⟩; rw [HU.out, HZ.out, HE.out]; have hc5 := old_cell hc2 (ofN hb5); have HR5 := Lib.hid (HR2.out.below (ofN hb5)); have HR6 := Lib.hid ((HR.out.below hb2).below (ofN hb5)))
      | (go_at_call 17; refine (refJoin_any _ _ q _ HR5.out.init (by omega) (by have := HF'.out; omega)).mono ?_; rintro e w6 ⟨rfl, rfl⟩)
      | (go_at_call 18; refine (join_at _ _ (q ++ [z]) (q.length + 1) _ HL.out HR6.out (by omega) (by have := HF.out; omega)).mono ?_; rintro e w7 ⟨rfl, hb7⟩))
    go_ret
    exact ⟨rfl, below2 (below2 (belowN (below2 (below2 hb0 hb1) hb2) _) hb5) hb7⟩

end Go.Proofs.YtipohdaofnhnpaaDoor.N
