/-
  The law NamesParent answers true.
-/
import Derived.Test.YtipohdaofnhnpaaDoorNSplitWalk
namespace Go.Proofs.YtipohdaofnhnpaaDoor.N
open Go.ChangeShapes Go.WideShapes Go.ChangeAt Go.RowKit

theorem flat_end (q : List (List UInt8)) (z : List UInt8) : joinOf (q ++ [z]) = (if q = [] then [] else joinOf q) ++ [62] ++ z := by
  unfold joinOf
  rw [if_neg (by simp)]
  split
  · rename_i h; subst h; simp
  · simp

/-- the parent of a path has the parts ahead of the last -/
theorem ps_up {l : List UInt8} {q : List (List UInt8)} {z : List UInt8} (h : ps l = q ++ [z]) : ps (joinOf q) = q ∧ er (joinOf q) = 0 ∧ may 32 z = true ∧ (joinOf q).length + 1 + z.length ≤ 1000 := by
  have hm := ps_may l
  have hn := ps_len l
  rw [h] at hm hn
  rw [List.length_append] at hn
  have hm' : ∀ p ∈ q, may 32 p = true := fun p hq => hm p (List.mem_append_left _ hq)
  have hz := hm z (by simp)
  have hs : partsOf l = some (q ++ [z]) := by
    unfold ps at h
    cases hp : partsOf l with
    | none => rw [hp] at h; simp at h
    | some x => rw [hp] at h; exact congrArg some h
  obtain ⟨h1, _, _, h168⟩ := partsOf_some hs
  have hj : (joinOf q).length ≤ 168 := by
    by_cases h0 : q = []
    · subst h0; decide
    · rw [h1, flat_end, if_neg h0] at h168
      simp only [List.length_append] at h168
      omega
  have hp := partsOf_join hm' (by simp at hn; omega) hj
  obtain ⟨a, b⟩ := ps_some hp
  have := (may_pos hz).2.1
  exact ⟨a, b, hz, by omega⟩

theorem bs_eq {x : List UInt8} {s : ByteArray} (h : x = s.data.toList) : ((bs x).toList == s.toList) = true := by
  rw [h, bs_of]; exact beq_self_eq_true _

set_option maxHeartbeats 2000000 in
theorem namesParent_walk (s : ByteArray) (w : World) (hs : s.size ≤ maxLen) (hg : Glob w) :
    Calls Tryd.prog 6 #[.string s] w fun e w' => e = .returned (.bool true) ∧ Below w.heap.size w w' := by
  have HG := Lib.hid hg
  clear hg
  by_cases h1000 : 1000 < s.size
  · unfold maxLen at hs
    go_enter Tryd.func6, Tryd.ntmps6
    go_wp2_with (go_at_call 8; refine (awake_any _ HG.out).mono ?_; rintro e w0 ⟨rfl, hb0⟩)
    all_goals (go_ret; exact ⟨rfl, hb0⟩)
  rcases List.eq_nil_or_concat (ps s.data.toList) with hp | ⟨q, z, hp⟩
  · have HU := Lib.hid (show up s.data.toList = [] by simp [up, hp])
    have HZ := Lib.hid (show lastOf s.data.toList = [] by simp [lastOf, hp])
    have HE := Lib.hid (show pe s.data.toList = 3 by simp [pe, hp])
    clear hp
    go_enter Tryd.func6, Tryd.ntmps6
    go_wp2_with (first
      | (go_at_call 8; refine (awake_any _ HG.out).mono ?_; rintro e w0 ⟨rfl, hb0⟩)
      | (go_at_call 16; refine (parent_any s _ hs (HG.out.below hb0)).mono ?_; rintro e w5 ⟨rfl, hb5⟩; rw [HU.out, HZ.out, HE.out, ← bs_nil]))
    go_ret
    exact ⟨rfl, below2 hb0 hb5⟩
  · rw [List.concat_eq_append] at hp
    have hne : ¬ (q ++ [z] = []) := by simp
    have hex : er s.data.toList = 0 := by
      rcases er_of (l := s.data.toList) with he | he
      · exact he
      · rw [ps_of_er he] at hp; exact absurd hp.symm hne
    obtain ⟨u1, u2, u3, u4⟩ := ps_up hp
    have HP := Lib.hid hp
    have HX := Lib.hid hex
    have HU := Lib.hid (show up s.data.toList = joinOf q by rw [up, hp, if_neg hne, List.dropLast_concat])
    have HZ := Lib.hid (show lastOf s.data.toList = z by simp [lastOf, hp, List.getLastD_eq_getLast?])
    have HE := Lib.hid (show pe s.data.toList = 0 by rw [pe, hp, if_neg hne])
    have hlen : (q ++ [z]).length = q.length + 1 := by simp
    have HL := Lib.hid hlen
    have h16 : q.length + 1 ≤ 16 := by have := ps_len s.data.toList; rw [hp, hlen] at this; exact this
    have HJ := Lib.hid (show joinOf (q ++ [z]) = s.data.toList by have := ps_join hex; rwa [hp] at this)
    have HD := Lib.hid (bs_data (joinOf q))
    have HPU : Hid (ps (bs (joinOf q)).data.toList = q) := Lib.hid (by rw [bs_data]; exact u1)
    have HXU : Hid (er (bs (joinOf q)).data.toList = 0) := Lib.hid (by rw [bs_data]; exact u2)
    have hsU : (bs (joinOf q)).size ≤ maxLen := by rw [bs_size]; unfold maxLen; omega
    have hsZ : (bs z).size ≤ maxLen := by rw [bs_size]; unfold maxLen; omega
    have HM : Hid (may 32 (bs z).data.toList = true) := Lib.hid (by rw [bs_data]; exact u3)
    have hm := HM.out
    have r1 : ¬ 9223372036854775807 < (bs (joinOf q)).size + 1 := by rw [bs_size]; omega
    have r2 : ¬ 9223372036854775807 < (bs (joinOf q)).size + 1 + (bs z).size := by rw [bs_size, bs_size]; omega
    have r3 : ¬ 9223372036854775807 < 1 + (bs z).size := by rw [bs_size]; omega
    by_cases h0 : q = []
    · have e0 : ((bs (joinOf q)).toList == [62]) = true := by rw [h0, Lib.toList_data, bs_data]; rfl
      have eB : (((⟨#[62]⟩ : ByteArray) ++ bs z).toList == s.toList) = true := by
        rw [bs_stroke, bs_app]
        refine bs_eq ?_
        rw [← HJ.out, flat_end, if_pos h0]; rfl
      clear h0
      clear hp hex hlen u1 u2 u3 u4
      go_enter Tryd.func6, Tryd.ntmps6
      go_wp2_with (first
        | (go_at_call 8; refine (awake_any _ HG.out).mono ?_; rintro e w0 ⟨rfl, hb0⟩)
        | (go_at_call 16; refine (parent_any s _ hs (HG.out.below hb0)).mono ?_; rintro e w5 ⟨rfl, hb5⟩; rw [HU.out, HZ.out, HE.out])
        | (go_at_call 9; first | ((with_reducible refine (split_at s _ hs (HG.out.below (below2 hb0 hb5)) HP.out HL.out HX.out).mono ?_); rintro e w1 ⟨a, c, rfl, hr, hb1⟩; clear hr) | ((with_reducible refine (split_at (bs (joinOf q)) _ hsU (HG.out.below (below2 (below2 hb0 hb5) hb1)) HPU.out rfl HXU.out).mono ?_); rintro e w2 ⟨b, d, rfl, hr, hb2⟩; clear hr))
        | (go_at_call 12; refine (may_any _ _ hsZ).mono ?_; rintro e w4 ⟨rfl, n4, rfl⟩))
      go_ret
      exact ⟨rfl, belowN (below2 (below2 (below2 hb0 hb5) hb1) hb2) _⟩
    · have e0 : ((bs (joinOf q)).toList == [62]) = false := by
        rw [Lib.toList_data, bs_data]
        refine beq_eq_false_iff_ne.2 fun e => h0 ((joinOf_one (fun p hq => ps_may s.data.toList p (by rw [HP.out]; exact List.mem_append_left _ hq))).1 e)
      have eB : ((bs (joinOf q) ++ ⟨#[62]⟩ ++ bs z).toList == s.toList) = true := by
        rw [bs_stroke, bs_app, bs_app]
        refine bs_eq ?_
        rw [← HJ.out, flat_end, if_neg h0]
      clear hp hex hlen u1 u2 u3 u4
      go_enter Tryd.func6, Tryd.ntmps6
      go_wp2_with (first
        | (go_at_call 8; refine (awake_any _ HG.out).mono ?_; rintro e w0 ⟨rfl, hb0⟩)
        | (go_at_call 16; refine (parent_any s _ hs (HG.out.below hb0)).mono ?_; rintro e w5 ⟨rfl, hb5⟩; rw [HU.out, HZ.out, HE.out])
        | (go_at_call 9; first | ((with_reducible refine (split_at s _ hs (HG.out.below (below2 hb0 hb5)) HP.out HL.out HX.out).mono ?_); rintro e w1 ⟨a, c, rfl, hr, hb1⟩; clear hr) | ((with_reducible refine (split_at (bs (joinOf q)) _ hsU (HG.out.below (below2 (below2 hb0 hb5) hb1)) HPU.out rfl HXU.out).mono ?_); rintro e w2 ⟨b, d, rfl, hr, hb2⟩; clear hr))
        | (go_at_call 12; refine (may_any _ _ hsZ).mono ?_; rintro e w4 ⟨rfl, n4, rfl⟩))
      go_ret
      exact ⟨rfl, belowN (below2 (below2 (below2 hb0 hb5) hb1) hb2) _⟩

end Go.Proofs.YtipohdaofnhnpaaDoor.N
