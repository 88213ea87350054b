/-
  The document's own Set (SetTerm): what it answers at any list and any term.
-/
import Derived.Test.YtjgheccnakngpaaADrop
namespace Go.Proofs.Ytjgheccnakngpaa.A
open Go.ChangeShapes Go.WideShapes Go.ChangeAt Go.RowKit
open Go.Proofs.Ytjgheccnakngpaa.N

/-- has it been put among the first k; what is put out by then -/
def putTo (l : List Tm) (t : Tm) (k : Nat) : Bool := (l.take k).any (fun x => !lt x.1 t.1)
def outTo (l : List Tm) (t : Tm) (k : Nat) : List Tm := (l.take k).filter (fun x => lt x.1 t.1) ++ (if putTo l t k = true then t :: (l.take k).filter (fun x => lt t.1 x.1) else [])

section
variable {l : List Tm} {t : Tm} {k : Nat}

theorem putTo_zero : putTo l t 0 = false := by simp [putTo]
theorem outTo_zero : outTo l t 0 = [] := by simp [outTo, putTo]
theorem take_next (hk : k < l.length) : l.take (k + 1) = l.take k ++ [l[k]] := List.take_succ_eq_append_getElem hk
theorem putTo_next (hk : k < l.length) : putTo l t (k + 1) = (putTo l t k || !lt l[k].1 t.1) := by
  simp only [putTo, take_next hk, List.any_append, List.any_cons, List.any_nil, Bool.or_false]
theorem outTo_len : (outTo l t k).length ≤ 2 * k + 1 := by
  unfold outTo
  have h1 := List.length_filter_le (fun x : Tm => lt x.1 t.1) (l.take k)
  have h2 := List.length_filter_le (fun x : Tm => lt t.1 x.1) (l.take k)
  have h3 : (l.take k).length ≤ k := List.length_take_le _ _
  rw [List.length_append]
  split
  · rw [List.length_cons]
    omega
  · simp
    omega

theorem put_after (hu : Up l) (hk : k < l.length) (h : putTo l t k = true) : lt t.1 l[k].1 = true := by
  simp only [putTo, List.any_eq_true] at h
  obtain ⟨x, hx, hlt⟩ := h
  obtain ⟨i, hi, rfl⟩ := List.getElem_of_mem hx
  have hik : i < k := by simp at hi; omega
  rw [List.getElem_take] at hlt
  have h1 := List.pairwise_iff_getElem.1 hu i k (by omega) hk hik
  have h2 : (!lt (l[i]'(by omega)).1 t.1) = true := hlt
  rw [behind] at h2
  cases h3 : lt t.1 (l[i]'(by omega)).1 with
  | true => exact lt_trans _ _ _ h3 h1
  | false =>
    rw [h3, Bool.false_or, decide_eq_true_eq] at h2
    rwa [h2] at h1
theorem none_after (h : putTo l t k = false) : (l.take k).filter (fun x => lt t.1 x.1) = [] := by
  rw [List.filter_eq_nil_iff]
  intro x hx h2
  have h3 := List.any_eq_false.1 h x hx
  have h4 : lt x.1 t.1 = true := by simpa using h3
  have h5 := lt_asymm h4
  rw [h5] at h2
  cases h2

theorem step_put (hu : Up l) (hk : k < l.length) (h : putTo l t k = true) : putTo l t (k + 1) = true ∧ outTo l t (k + 1) = outTo l t k ++ [l[k]] := by
  have h1 := put_after hu hk h
  have h2 := lt_asymm h1
  have hp : putTo l t (k + 1) = true := by rw [putTo_next hk, h]; rfl
  refine ⟨hp, ?_⟩
  unfold outTo
  rw [if_pos h, if_pos hp, take_next hk, List.filter_append, List.filter_append]
  simp [h1, h2]
theorem step_lt (hk : k < l.length) (h : putTo l t k = false) (h1 : lt l[k].1 t.1 = true) : putTo l t (k + 1) = false ∧ outTo l t (k + 1) = outTo l t k ++ [l[k]] := by
  have hp : putTo l t (k + 1) = false := by rw [putTo_next hk, h, h1]; rfl
  refine ⟨hp, ?_⟩
  unfold outTo
  have hn : ¬ putTo l t k = true := by simp [h]
  have hn' : ¬ putTo l t (k + 1) = true := by simp [hp]
  rw [if_neg hn, if_neg hn', take_next hk, List.filter_append]
  simp [h1]
theorem step_eq (hk : k < l.length) (h : putTo l t k = false) (h1 : l[k].1 = t.1) : putTo l t (k + 1) = true ∧ outTo l t (k + 1) = outTo l t k ++ [t] := by
  have hp : putTo l t (k + 1) = true := by rw [putTo_next hk, h, h1, lt_irrefl]; rfl
  refine ⟨hp, ?_⟩
  unfold outTo
  have hn : ¬ putTo l t k = true := by simp [h]
  rw [if_neg hn, if_pos hp, take_next hk, List.filter_append, List.filter_append, none_after h]
  simp [h1, lt_irrefl]
theorem step_gt (hk : k < l.length) (h : putTo l t k = false) (h1 : lt t.1 l[k].1 = true) : putTo l t (k + 1) = true ∧ outTo l t (k + 1) = (outTo l t k ++ [t]) ++ [l[k]] := by
  have h2 := lt_asymm h1
  have hp : putTo l t (k + 1) = true := by rw [putTo_next hk, h, h2]; rfl
  refine ⟨hp, ?_⟩
  unfold outTo
  have hn : ¬ putTo l t k = true := by simp [h]
  rw [if_neg hn, if_pos hp, take_next hk, List.filter_append, List.filter_append, none_after h]
  simp [h1, h2]
theorem end_put (h : putTo l t l.length = true) : outTo l t l.length = setL l t := by
  unfold outTo setL
  rw [if_pos h, List.take_length]
theorem end_not (h : putTo l t l.length = false) : outTo l t l.length ++ [t] = setL l t := by
  have h1 := none_after h
  rw [List.take_length] at h1
  unfold outTo setL
  rw [if_neg (by rw [h]; simp), List.take_length, h1]
  simp
end

theorem TRow.one (w : World) (t : Tm) : TRow (w.alloc (TO t)) (some ⟨w.heap.size, 0, none⟩) 1 [t] := TRow.lit w [t] 1 (by simp)
theorem Own.drewN {base : Nat} {w : World} {v : Value} {l : List Tm} (h : Own base w v l) (n : Nat) : Own base (w.drewN n) v l := h

/-- the loop's own memory -/
structure SetL (w0 W : World) (v : Value) (m : List Tm) : Prop where
  bel : Below w0.heap.size w0 W
  own : Own w0.heap.size W v m

theorem SetL.drewN {w0 W : World} {v : Value} {m : List Tm} (h : SetL w0 W v m) (n : Nat) : SetL w0 (W.drewN n) v m := ⟨bel2 h.bel (below_drewN _ n), h.own⟩
theorem SetL.put {w0 W W' : World} {v v' : Value} {m m' : List Tm} {t : Tm} (h : SetL w0 W v m) (ho : Own w0.heap.size W' v' m') {n : Nat} (hg : ((W.alloc (TO t)).drewN n).grownBy W' v.ownBlock) : SetL w0 W' v' m' :=
  ⟨((h.own.alloc (TO t)).drewN n).grown (bel2 (bel2 h.bel ((one_new _ _))) (below_drewN _ n)) (Nat.le_refl _) hg, ho⟩
theorem SetL.put0 {w0 W W' : World} {v v' : Value} {m m' : List Tm} {t : Tm} (h : SetL w0 W v m) (ho : Own w0.heap.size W' v' m') (hg : (W.alloc (TO t)).grownBy W' v.ownBlock) : SetL w0 W' v' m' :=
  ⟨(h.own.alloc (TO t)).grown (bel2 h.bel ((one_new _ _))) (Nat.le_refl _) hg, ho⟩
theorem SetL.base {w0 W : World} {v : Value} {m : List Tm} (h : SetL w0 W v m) (o : Obj) (n : Nat) : w0.heap.size ≤ ((W.alloc o).drewN n).heap.size := by
  have := h.bel.size
  show w0.heap.size ≤ (W.alloc o).heap.size
  simp
  omega

theorem ref_end {l : List Tm} {t : Tm} (hm : lmay l = true) (hn : may 16 t.1 = true) : (16 < (setL l t).length → setE l t = 7) ∧ (¬ 16 < (setL l t).length → setE l t = 0) := by
  obtain ⟨p1, p2, p3⟩ := lmay_parts hm
  cases h : there l t.1 with
  | true =>
    rw [setL_len_yes p3 h]
    exact ⟨fun h1 => by omega, fun _ => setE_yes hm hn h⟩
  | false =>
    rw [setL_len_no p3 h]
    exact ⟨fun h1 => setE_full hm hn h (by omega), fun h1 => setE_no hm hn (by omega)⟩

set_option maxHeartbeats 4000000 in
theorem refSet_fits (a : Option Addr) (c : Nat) (l : List Tm) (t : Tm) (w : World) (hr : TRow w a c l) (hl : ∀ t ∈ l, t.1.length ≤ maxLen) (ht : t.1.length ≤ maxLen) (hm : lmay l = true) (hn : may 16 t.1 = true) :
    Calls Try.prog 11 #[.slice a l.length c, TV t] w (SetPost l t w) := by
  have HL := Lib.hid hl
  have HR := Lib.hid (hr.alloc (TO t))
  have HT := Lib.hid (TAt.new w t)
  have HM := Lib.hid hm
  have HN := Lib.hid hn
  have HU := Lib.hid (lmay_parts hm).2.2
  have q16 : l.length ≤ 16 := (lmay_parts hm).1
  have hsz : (bs t.1).size ≤ maxLen := by rw [bs_size]; exact ht
  have hcall : ∀ W, Calls Try.prog 18 #[.string (bs t.1)] W fun e w' => e = .returned (.bool true) ∧ W = w' := fun W => (userMay_any _ W hsz).mono fun e w' h => by
    rw [bs_data, hn] at h
    exact ⟨h.1, h.2.symm⟩
  obtain ⟨k0, k1, k2, k3⟩ := HT.out.zero
  clear hl hr hm hn
  rcases user_ways t.1 with ⟨s1, _⟩ | ⟨s1, _⟩
  · go_enter Try.func11, Try.ntmps11
    go_wp2_with (first
      | (go_at_call 13; refine (listMay_any _ _ _ _ HR.out HL.out).mono ?_; rintro e w1 ⟨rfl, n, rfl⟩; rw [HM.out]))
    go_loopw [6, 7, 8] (fun v p i W => ∃ k : Nat, k ≤ l.length ∧ i = .int .i64 k ∧ p = .bool (putTo l t k) ∧ Hid (SetL (w.alloc (TO t)) W v (outTo l t k))) (fun _ _ i _ => l.length - (intOf i).toNat)
    case atStart => exact ⟨0, Nat.zero_le _, rfl, by rw [putTo_zero], Lib.hid ⟨below_drewN _ _, by rw [outTo_zero]; exact Own.nil _ _⟩⟩
    case round =>
      clear k0 k1 k2 k3
      obtain ⟨k, hk, rfl, rfl, hS⟩ := hrel
      obtain ⟨m0, m1, m2, m3⟩ := (HT.out.below (by simp) hS.out.bel).zero
      have y1 : w.heap.size < wr.heap.size := by have := hS.out.bel.size; simp at this; omega
      have hlen := outTo_len (l := l) (t := t) (k := k)
      by_cases hlt : k < l.length
      · obtain ⟨bk, o, rfl, hbk, c0, c1, c2, c3⟩ := (HR.out.below hS.out.bel).at_ hlt
        cases hp : putTo l t k with
        | true =>
          obtain ⟨p1, p2⟩ := step_put HU.out hlt hp
          have e2 := txt_other (lt_ne (put_after HU.out hlt hp)).symm
          have P1 := Lib.hid p1
          have P2 := Lib.hid p2
          clear p1 p2
          go_wp2
          go_quiet (fail)
          go_wp2
          go_quiet (fail)
          go_wp2_with (at_builtin; refine wpList_terms rfl (.tmp 51) (.tmp 56) rfl rfl ((hS.out.own.alloc _).drewN _) _ _ [l[k]] rfl ((TRow.one wr l[k]).drewN _) (by simp; omega) (hS.out.base _ _) ?_; intro v' w' h1 h2; have H1 := Lib.hid (hS.out.put h1 h2); clear h1 h2)
          go_roundw
          case rel => exact ⟨k + 1, by omega, by go_num, by rw [P1.out], Lib.hid (by rw [P2.out]; exact H1.out)⟩
          case measure => simp [intOf]; omega
        | false =>
          have e3 := txt_less l[k].1 t.1
          cases h1 : lt l[k].1 t.1 with
          | true =>
            obtain ⟨p1, p2⟩ := step_lt hlt hp h1
            rw [h1] at e3
            have e2 := txt_other (lt_ne h1)
            have P1 := Lib.hid p1
            have P2 := Lib.hid p2
            clear p1 p2
            go_wp2
            go_quiet (fail)
            go_wp2
            go_quiet (fail)
            go_wp2_with (at_builtin; refine wpList_terms rfl (.tmp 51) (.tmp 56) rfl rfl ((hS.out.own.alloc _).drewN _) _ _ [l[k]] rfl ((TRow.one wr l[k]).drewN _) (by simp; omega) (hS.out.base _ _) ?_; intro v' w' h1 h2; have H1 := Lib.hid (hS.out.put h1 h2); clear h1 h2)
            go_roundw
            case rel => exact ⟨k + 1, by omega, by go_num, by rw [P1.out], Lib.hid (by rw [P2.out]; exact H1.out)⟩
            case measure => simp [intOf]; omega
          | false =>
            rw [h1] at e3
            by_cases h2 : l[k].1 = t.1
            · obtain ⟨p1, p2⟩ := step_eq hlt hp h2
              have e2 := txt_same h2
              have P1 := Lib.hid p1
              have P2 := Lib.hid p2
              have H2 := Lib.hid h2
              clear p1 p2 h2
              go_wp2
              go_quiet (fail)
              go_wp2_with (at_builtin; refine wpList_terms rfl (.tmp 39) (.tmp 41) rfl rfl ((hS.out.own.alloc _).drewN _) _ _ [t] rfl ((TRow.one wr t).drewN _) (by simp; omega) (hS.out.base _ _) ?_; intro v' w' h1 h2; have H1 := Lib.hid (hS.out.put h1 h2); clear h1 h2; obtain ⟨n0, n1, n2, n3⟩ := (HT.out.below (by simp) H1.out.bel).zero; obtain ⟨z0, d0, d1, d2, d3⟩ := (HR.out.below H1.out.bel).here hlt; have y2 : w.heap.size < w'.heap.size := (by have := H1.out.bel.size; simp at this; omega))
              go_quiet (fail)
              go_wp2
              go_roundw
              case rel => exact ⟨k + 1, by omega, by go_num, by rw [P1.out], Lib.hid (by rw [P2.out]; exact H1.out.drewN _)⟩
              case measure => simp [intOf]; omega
            · have h3 : lt t.1 l[k].1 = true := by
                cases h4 : lt t.1 l[k].1 with
                | true => rfl
                | false => exact absurd (lt_tri _ _ h1 h4) h2
              obtain ⟨p1, p2⟩ := step_gt hlt hp h3
              have e2 := txt_other h2
              have P1 := Lib.hid p1
              have P2 := Lib.hid p2
              have H2 := Lib.hid h2
              clear p1 p2 h2 h3
              go_wp2
              go_quiet (fail)
              go_wp2_with (at_builtin; refine wpList_terms rfl (.tmp 39) (.tmp 41) rfl rfl ((hS.out.own.alloc _).drewN _) _ _ [t] rfl ((TRow.one wr t).drewN _) (by simp; omega) (hS.out.base _ _) ?_; intro v' w' h1 h2; have H1 := Lib.hid (hS.out.put h1 h2); clear h1 h2; obtain ⟨n0, n1, n2, n3⟩ := (HT.out.below (by simp) H1.out.bel).zero; obtain ⟨z0, d0, d1, d2, d3⟩ := (HR.out.below H1.out.bel).here hlt; have y2 : w.heap.size < w'.heap.size := (by have := H1.out.bel.size; simp at this; omega))
              go_quiet (fail)
              go_wp2_with (at_builtin; refine wpList_terms rfl (.tmp 51) (.tmp 56) rfl rfl ((H1.out.own.alloc _).drewN _) _ _ [l[k]] rfl ((TRow.one w' l[k]).drewN _) (by simp; omega) (H1.out.base _ _) ?_; intro v2 w2 h1 h2; have H3 := Lib.hid (H1.out.put h1 h2); clear h1 h2)
              go_roundw
              case rel => exact ⟨k + 1, by omega, by go_num, by rw [P1.out], Lib.hid (by rw [P2.out]; exact H3.out)⟩
              case measure => simp [intOf]; omega
      · obtain rfl : k = l.length := by omega
        have E := Lib.hid (ref_end HM.out HN.out)
        have HB := Lib.hid (one_new w (TO t))
        cases hp : putTo l t l.length with
        | true =>
          have hz := end_put hp
          rw [hz] at hS
          obtain ⟨a', c', e, hrow⟩ := hS.out.own.row
          subst e
          by_cases h16 : 16 < (setL l t).length
          · go_wp2
            exact bodyPost_ret (v := .tuple #[.slice none 0 0, .int .i64 7]) (by simp [results, Try.results11, go_sem]) rfl (setPost_err (E.out.1 h16) (by decide) (bel2 HB.out hS.out.bel))
          · go_wp2
            exact bodyPost_ret (v := .tuple #[.slice a' (setL l t).length c', .int .i64 0]) (by simp [results, Try.results11, go_sem]) rfl (setPost_ok (E.out.2 h16) hrow (bel2 HB.out hS.out.bel))
        | false =>
          have hz := end_not hp
          have HZ := Lib.hid hz
          clear hz
          by_cases h16 : 16 < (setL l t).length
          · have E7 := Lib.hid (E.out.1 h16)
            go_wp2_with (at_builtin; refine wpList_terms rfl (.tmp 60) (.tmp 62) rfl rfl (hS.out.own.alloc _) _ _ [t] rfl (TRow.one wr t) (by simp; omega) (hS.out.base _ 0) ?_; intro v' w' h1 h2; have H1 := Lib.hid (hS.out.put0 h1 h2); clear h1 h2; rw [HZ.out] at H1; obtain ⟨a', c', e, hrow⟩ := H1.out.own.row; subst e)
            exact bodyPost_ret (v := .tuple #[.slice none 0 0, .int .i64 7]) (by simp [results, Try.results11, go_sem]) rfl (setPost_err E7.out (by decide) (bel2 HB.out H1.out.bel))
          · have E0 := Lib.hid (E.out.2 h16)
            go_wp2_with (at_builtin; refine wpList_terms rfl (.tmp 60) (.tmp 62) rfl rfl (hS.out.own.alloc _) _ _ [t] rfl (TRow.one wr t) (by simp; omega) (hS.out.base _ 0) ?_; intro v' w' h1 h2; have H1 := Lib.hid (hS.out.put0 h1 h2); clear h1 h2; rw [HZ.out] at H1; obtain ⟨a', c', e, hrow⟩ := H1.out.own.row; subst e)
            exact bodyPost_ret (v := .tuple #[.slice a' (setL l t).length c', .int .i64 0]) (by simp [results, Try.results11, go_sem]) rfl (setPost_ok E0.out hrow (bel2 HB.out H1.out.bel))
  · go_enter Try.func11, Try.ntmps11
    go_wp2_with (first
      | (go_at_call 13; refine (listMay_any _ _ _ _ HR.out HL.out).mono ?_; rintro e w1 ⟨rfl, n, rfl⟩; rw [HM.out])
      | (go_at_call 18; refine (hcall _).mono ?_; rintro e w2 ⟨rfl, rfl⟩))
    go_loopw [6, 7, 8] (fun v p i W => ∃ k : Nat, k ≤ l.length ∧ i = .int .i64 k ∧ p = .bool (putTo l t k) ∧ Hid (SetL (w.alloc (TO t)) W v (outTo l t k))) (fun _ _ i _ => l.length - (intOf i).toNat)
    case atStart => exact ⟨0, Nat.zero_le _, rfl, by rw [putTo_zero], Lib.hid ⟨below_drewN _ _, by rw [outTo_zero]; exact Own.nil _ _⟩⟩
    case round =>
      clear k0 k1 k2 k3
      obtain ⟨k, hk, rfl, rfl, hS⟩ := hrel
      obtain ⟨m0, m1, m2, m3⟩ := (HT.out.below (by simp) hS.out.bel).zero
      have y1 : w.heap.size < wr.heap.size := by have := hS.out.bel.size; simp at this; omega
      have hlen := outTo_len (l := l) (t := t) (k := k)
      by_cases hlt : k < l.length
      · obtain ⟨bk, o, rfl, hbk, c0, c1, c2, c3⟩ := (HR.out.below hS.out.bel).at_ hlt
        cases hp : putTo l t k with
        | true =>
          obtain ⟨p1, p2⟩ := step_put HU.out hlt hp
          have e2 := txt_other (lt_ne (put_after HU.out hlt hp)).symm
          have P1 := Lib.hid p1
          have P2 := Lib.hid p2
          clear p1 p2
          go_wp2
          go_quiet (fail)
          go_wp2
          go_quiet (fail)
          go_wp2_with (at_builtin; refine wpList_terms rfl (.tmp 51) (.tmp 56) rfl rfl ((hS.out.own.alloc _).drewN _) _ _ [l[k]] rfl ((TRow.one wr l[k]).drewN _) (by simp; omega) (hS.out.base _ _) ?_; intro v' w' h1 h2; have H1 := Lib.hid (hS.out.put h1 h2); clear h1 h2)
          go_roundw
          case rel => exact ⟨k + 1, by omega, by go_num, by rw [P1.out], Lib.hid (by rw [P2.out]; exact H1.out)⟩
          case measure => simp [intOf]; omega
        | false =>
          have e3 := txt_less l[k].1 t.1
          cases h1 : lt l[k].1 t.1 with
          | true =>
            obtain ⟨p1, p2⟩ := step_lt hlt hp h1
            rw [h1] at e3
            have e2 := txt_other (lt_ne h1)
            have P1 := Lib.hid p1
            have P2 := Lib.hid p2
            clear p1 p2
            go_wp2
            go_quiet (fail)
            go_wp2
            go_quiet (fail)
            go_wp2_with (at_builtin; refine wpList_terms rfl (.tmp 51) (.tmp 56) rfl rfl ((hS.out.own.alloc _).drewN _) _ _ [l[k]] rfl ((TRow.one wr l[k]).drewN _) (by simp; omega) (hS.out.base _ _) ?_; intro v' w' h1 h2; have H1 := Lib.hid (hS.out.put h1 h2); clear h1 h2)
            go_roundw
            case rel => exact ⟨k + 1, by omega, by go_num, by rw [P1.out], Lib.hid (by rw [P2.out]; exact H1.out)⟩
            case measure => simp [intOf]; omega
          | false =>
            rw [h1] at e3
            by_cases h2 : l[k].1 = t.1
            · obtain ⟨p1, p2⟩ := step_eq hlt hp h2
              have e2 := txt_same h2
              have P1 := Lib.hid p1
              have P2 := Lib.hid p2
              have H2 := Lib.hid h2
              clear p1 p2 h2
              go_wp2
              go_quiet (fail)
              go_wp2_with (at_builtin; refine wpList_terms rfl (.tmp 39) (.tmp 41) rfl rfl ((hS.out.own.alloc _).drewN _) _ _ [t] rfl ((TRow.one wr t).drewN _) (by simp; omega) (hS.out.base _ _) ?_; intro v' w' h1 h2; have H1 := Lib.hid (hS.out.put h1 h2); clear h1 h2; obtain ⟨n0, n1, n2, n3⟩ := (HT.out.below (by simp) H1.out.bel).zero; obtain ⟨z0, d0, d1, d2, d3⟩ := (HR.out.below H1.out.bel).here hlt; have y2 : w.heap.size < w'.heap.size := (by have := H1.out.bel.size; simp at this; omega))
              go_quiet (fail)
              go_wp2
              go_roundw
              case rel => exact ⟨k + 1, by omega, by go_num, by rw [P1.out], Lib.hid (by rw [P2.out]; exact H1.out.drewN _)⟩
              case measure => simp [intOf]; omega
            · have h3 : lt t.1 l[k].1 = true := by
                cases h4 : lt t.1 l[k].1 with
                | true => rfl
                | false => exact absurd (lt_tri _ _ h1 h4) h2
              obtain ⟨p1, p2⟩ := step_gt hlt hp h3
              have e2 := txt_other h2
              have P1 := Lib.hid p1
              have P2 := Lib.hid p2
              have H2 := Lib.hid h2
              clear p1 p2 h2 h3
              go_wp2
              go_quiet (fail)
              go_wp2_with (at_builtin; refine wpList_terms rfl (.tmp 39) (.tmp 41) rfl rfl ((hS.out.own.alloc _).drewN _) _ _ [t] rfl ((TRow.one wr t).drewN _) (by simp; omega) (hS.out.base _ _) ?_; intro v' w' h1 h2; have H1 := Lib.hid (hS.out.put h1 h2); clear h1 h2; obtain ⟨n0, n1, n2, n3⟩ := (HT.out.below (by simp) H1.out.bel).zero; obtain ⟨z0, d0, d1, d2, d3⟩ := (HR.out.below H1.out.bel).here hlt; have y2 : w.heap.size < w'.heap.size := (by have := H1.out.bel.size; simp at this; omega))
              go_quiet (fail)
              go_wp2_with (at_builtin; refine wpList_terms rfl (.tmp 51) (.tmp 56) rfl rfl ((H1.out.own.alloc _).drewN _) _ _ [l[k]] rfl ((TRow.one w' l[k]).drewN _) (by simp; omega) (H1.out.base _ _) ?_; intro v2 w2 h1 h2; have H3 := Lib.hid (H1.out.put h1 h2); clear h1 h2)
              go_roundw
              case rel => exact ⟨k + 1, by omega, by go_num, by rw [P1.out], Lib.hid (by rw [P2.out]; exact H3.out)⟩
              case measure => simp [intOf]; omega
      · obtain rfl : k = l.length := by omega
        have E := Lib.hid (ref_end HM.out HN.out)
        have HB := Lib.hid (one_new w (TO t))
        cases hp : putTo l t l.length with
        | true =>
          have hz := end_put hp
          rw [hz] at hS
          obtain ⟨a', c', e, hrow⟩ := hS.out.own.row
          subst e
          by_cases h16 : 16 < (setL l t).length
          · go_wp2
            exact bodyPost_ret (v := .tuple #[.slice none 0 0, .int .i64 7]) (by simp [results, Try.results11, go_sem]) rfl (setPost_err (E.out.1 h16) (by decide) (bel2 HB.out hS.out.bel))
          · go_wp2
            exact bodyPost_ret (v := .tuple #[.slice a' (setL l t).length c', .int .i64 0]) (by simp [results, Try.results11, go_sem]) rfl (setPost_ok (E.out.2 h16) hrow (bel2 HB.out hS.out.bel))
        | false =>
          have hz := end_not hp
          have HZ := Lib.hid hz
          clear hz
          by_cases h16 : 16 < (setL l t).length
          · have E7 := Lib.hid (E.out.1 h16)
            go_wp2_with (at_builtin; refine wpList_terms rfl (.tmp 60) (.tmp 62) rfl rfl (hS.out.own.alloc _) _ _ [t] rfl (TRow.one wr t) (by simp; omega) (hS.out.base _ 0) ?_; intro v' w' h1 h2; have H1 := Lib.hid (hS.out.put0 h1 h2); clear h1 h2; rw [HZ.out] at H1; obtain ⟨a', c', e, hrow⟩ := H1.out.own.row; subst e)
            exact bodyPost_ret (v := .tuple #[.slice none 0 0, .int .i64 7]) (by simp [results, Try.results11, go_sem]) rfl (setPost_err E7.out (by decide) (bel2 HB.out H1.out.bel))
          · have E0 := Lib.hid (E.out.2 h16)
            go_wp2_with (at_builtin; refine wpList_terms rfl (.tmp 60) (.tmp 62) rfl rfl (hS.out.own.alloc _) _ _ [t] rfl (TRow.one wr t) (by simp; omega) (hS.out.base _ 0) ?_; intro v' w' h1 h2; have H1 := Lib.hid (hS.out.put0 h1 h2); clear h1 h2; rw [HZ.out] at H1; obtain ⟨a', c', e, hrow⟩ := H1.out.own.row; subst e)
            exact bodyPost_ret (v := .tuple #[.slice a' (setL l t).length c', .int .i64 0]) (by simp [results, Try.results11, go_sem]) rfl (setPost_ok E0.out hrow (bel2 HB.out H1.out.bel))

set_option maxHeartbeats 1000000 in
theorem refSet_may (a : Option Addr) (c : Nat) (l : List Tm) (t : Tm) (w : World) (hr : TRow w a c l) (hl : ∀ t ∈ l, t.1.length ≤ maxLen) (hm : lmay l = false) :
    Calls Try.prog 11 #[.slice a l.length c, TV t] w (SetPost l t w) := by
  have HL := Lib.hid hl
  have HR := Lib.hid (hr.alloc (TO t))
  have HE := Lib.hid (setE_may (t := t) hm)
  clear hl hr
  go_enter Try.func11, Try.ntmps11
  go_wp2_with (first
    | (go_at_call 13; refine (listMay_any _ _ _ _ HR.out HL.out).mono ?_; rintro e w1 ⟨rfl, n, rfl⟩))
  exact bodyPost_ret (v := .tuple #[.slice none 0 0, .int .i64 1]) (by simp [results, Try.results11, go_sem]) rfl (setPost_err HE.out (by decide) (bel2 (one_new _ _) (below_drewN _ _)))

set_option maxHeartbeats 1000000 in
theorem refSet_name (a : Option Addr) (c : Nat) (l : List Tm) (t : Tm) (w : World) (hr : TRow w a c l) (hl : ∀ t ∈ l, t.1.length ≤ maxLen) (ht : t.1.length ≤ maxLen) (hm : lmay l = true) (hn : may 16 t.1 = false) :
    Calls Try.prog 11 #[.slice a l.length c, TV t] w (SetPost l t w) := by
  have HL := Lib.hid hl
  have HR := Lib.hid (hr.alloc (TO t))
  have HT := Lib.hid (TAt.new w t)
  have HE := Lib.hid (setE_name hm hn)
  have hsz : (bs t.1).size ≤ maxLen := by rw [bs_size]; exact ht
  have hcall : ∀ W, Calls Try.prog 18 #[.string (bs t.1)] W fun e w' => e = .returned (.bool false) ∧ W = w' := fun W => (userMay_any _ W hsz).mono fun e w' h => by
    rw [bs_data, hn] at h
    exact ⟨h.1, h.2.symm⟩
  obtain ⟨k0, k1, k2, k3⟩ := HT.out.zero
  have s1 : ((bs t.1).toList == [42]) = false := by
    rcases user_ways t.1 with ⟨_, h⟩ | ⟨h, _⟩
    · rw [hn] at h; cases h
    · exact h
  clear hl hr
  go_enter Try.func11, Try.ntmps11
  go_wp2_with (first
    | (go_at_call 13; refine (listMay_any _ _ _ _ HR.out HL.out).mono ?_; rintro e w1 ⟨rfl, n, rfl⟩)
    | (go_at_call 18; refine (hcall _).mono ?_; rintro e w2 ⟨rfl, rfl⟩))
  exact bodyPost_ret (v := .tuple #[.slice none 0 0, .int .i64 3]) (by simp [results, Try.results11, go_sem]) rfl (setPost_err HE.out (by decide) (bel2 (one_new _ _) (below_drewN _ _)))

theorem refSet_any (a : Option Addr) (c : Nat) (l : List Tm) (t : Tm) (w : World) (hr : TRow w a c l) (hl : ∀ t ∈ l, t.1.length ≤ maxLen) (ht : t.1.length ≤ maxLen) :
    Calls Try.prog 11 #[.slice a l.length c, TV t] w (SetPost l t w) := by
  cases hm : lmay l with
  | false => exact refSet_may a c l t w hr hl hm
  | true =>
    cases hn : may 16 t.1 with
    | false => exact refSet_name a c l t w hr hl ht hm hn
    | true => exact refSet_fits a c l t w hr hl ht hm hn

end Go.Proofs.Ytjgheccnakngpaa.A
