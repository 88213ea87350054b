/-
  ReferMany walked: many names of one segment.
-/
import Derived.Test.YtglbemdeboaheaaRfOwn
import Derived.BigQuiet
namespace Go.Proofs.Ytglbemdeboaheaa.Rf
open Go.ChangeShapes Go.WideShapes Go.ChangeAt Go.RowKit
open Go.Proofs.Ytglbemdeboaheaa.N (bs bs_data bs_size bs_inj may retB)

/-- the names that are bound, as entries -/
def Ln (on : List Txt) : List E := on.map (fun n => ⟨4, n, 7⟩)
theorem Ln_len (on : List Txt) : (Ln on).length = on.length := by simp [Ln]
theorem mem_Ln {on : List Txt} {x : E} (h : x ∈ Ln on) : ∃ n, n ∈ on ∧ x = ⟨4, n, 7⟩ := by
  obtain ⟨n, h1, rfl⟩ := List.mem_map.1 h
  exact ⟨n, h1, rfl⟩
theorem Ln_no {on : List Txt} {q : Txt} (h : q ∉ on) : get (Ln on) 4 q = none := get_none.2 (fun x hx e => by
  obtain ⟨n, h1, rfl⟩ := mem_Ln hx
  exact h (e.2 ▸ h1))
theorem Ln_yes {on : List Txt} {q : Txt} (h : q ∈ on) : get (Ln on) 4 q = some 7 := by
  cases hg : get (Ln on) 4 q with
  | none => exact absurd ⟨rfl, rfl⟩ (get_none.1 hg ⟨4, q, 7⟩ (List.mem_map.2 ⟨q, h, rfl⟩))
  | some s =>
    obtain ⟨n, _, e⟩ := mem_Ln (get_some hg)
    cases e
    rfl
theorem Ln_bound {on : List Txt} {q : Txt} (h : q ∉ on) : bound (Ln on) ⟨4, q, 7⟩ = Ln (on ++ [q]) := by
  rw [bound_new (Ln_no h)]
  simp [Ln]
theorem names_all {L : List E} {r s : Int} (h : ∀ x ∈ L, isOf r s x = true) : namesOf L r s = L.map (·.name) := by
  rw [namesOf, List.filter_eq_self.2 h]
theorem Ln_is {on : List Txt} : ∀ x ∈ Ln on, isOf 4 7 x = true := fun x hx => by
  obtain ⟨n, _, rfl⟩ := mem_Ln hx
  rfl
theorem Ln_names (on : List Txt) : namesOf (Ln on) 4 7 = on := by
  rw [names_all Ln_is, Ln, List.map_map]
  exact List.map_id' on
theorem Ln_of (on : List Txt) : ofL (Ln on) 4 7 = sortT on := by rw [ofL, Ln_names]
theorem Ln_nodup {on : List Txt} (h : Good (Ln on)) : on.Nodup := by
  have := h.one
  rw [Ln, List.pairwise_map] at this
  exact this.imp (fun h e => h ⟨rfl, e⟩)
theorem Ln_less {on : List Txt} (h : Good (Ln on)) {q : Txt} (hq : q ∈ on) {n : Nat} (hn : on.length = n + 1) : (ofL (del (Ln on) 4 q) 4 7).length = n := by
  have hall : ∀ x ∈ del (Ln on) 4 q, isOf 4 7 x = true := fun x hx => Ln_is x (List.mem_filter.1 hx).1
  rw [ofL, sortT_len, names_all hall, List.length_map]
  have := (perm_del h (x := ⟨4, q, 7⟩) (List.mem_map.2 ⟨q, hq, rfl⟩)).length_eq
  rw [List.length_append, Ln_len, hn] at this
  simpa using this
theorem sort_strict {on : List Txt} (h : on.Nodup) {j : Nat} (hj : j + 1 < (sortT on).length) : (sortT on)[j]'(by omega) < (sortT on)[j + 1] := by
  have h1 := List.pairwise_iff_getElem.1 (sortT_sorted on) j (j + 1) (by omega) hj (by omega)
  have h2 := List.pairwise_iff_getElem.1 ((sortT_perm on).nodup_iff.2 h) j (j + 1) (by omega) hj (by omega)
  rcases List.le_iff_lt_or_eq.1 h1 with h3 | h3
  · exact h3
  · exact absurd h3 h2

theorem RY.cell {w0 w : World} {b : Nat} {F : Nat → Prop} {c : Nat} {L : List E} (h : RY w0 w b F c L) {bk i : Nat} {u : Value} (hb : bk < w0.heap.size) (hx : w0.cell? ⟨bk, i, none⟩ = some u) : w.cell? ⟨bk, i, none⟩ = some u :=
  (h.below.cell (p := ⟨bk, i, none⟩) hb).trans hx

theorem take_mem {on : List Txt} {q : Txt} {j : Nat} (hj : j < on.length) : decide (q ∈ on.take (j + 1)) = (decide (q ∈ on.take j) || decide (on[j] = q)) := by
  rw [List.take_succ_eq_append_getElem hj]
  by_cases h1 : q ∈ on.take j
  · simp only [List.mem_append, h1, true_or, decide_true, Bool.true_or]
  · by_cases h2 : on[j] = q
    · simp only [List.mem_append, List.mem_singleton, h2, or_true, decide_true, Bool.or_true]
    · have h3 : ¬ q = on[j] := fun e => h2 e.symm
      simp only [List.mem_append, List.mem_singleton, h1, h2, h3, or_self, decide_false, Bool.or_self]

set_option maxHeartbeats 16000000 in
set_option maxRecDepth 8000 in
theorem many_walk (sa : Option Addr) (sc : Nat) (ns : List Txt) (d : Int) (hd0 : 0 ≤ d) (hd1 : d ≤ 255) (X : World) (hr : W.Row X sa sc ns) (hl : ∀ q ∈ ns, q.length ≤ maxLen) :
    Calls Try.prog 6 #[.slice sa ns.length sc, .int .u8 d] X fun e w' => e = .returned (.bool true) ∧ Below X.heap.size X w' := by
  by_cases h60 : ns.length ≤ 60
  case neg =>
    have e1 : decide ((ns.length : Int) > 60) = true := by simp; omega
    clear hr hl
    go_enter Try.func6, Try.ntmps6
    go_wp2_with (first
      | (go_at_call 7; ((with_reducible refine (awake_any _).mono ?_); rintro e v1 ⟨rfl, b1⟩; have B1 := Lib.hid b1; clear b1))
      | (go_at_call 8; ((with_reducible refine (new_any _).mono ?_); rintro e w1 ⟨rfl, rfl⟩; have Y0 := Lib.hid (RY.new B1.out))))
    go_ret
    exact ⟨rfl, Y0.out.below⟩
  have e1 : decide ((ns.length : Int) > 60) = false := by simp; omega
  have HR := Lib.hid hr
  have HM := Lib.hid hl
  obtain ⟨i0, hi, hz0, hz1, hz2⟩ := info_parts info_text
  clear hr hl
  go_enter Try.func6, Try.ntmps6
  go_wp2_with (first
    | (go_at_call 7; ((with_reducible refine (awake_any _).mono ?_); rintro e v1 ⟨rfl, b1⟩; have B1 := Lib.hid b1; clear b1))
    | (go_at_call 8; ((with_reducible refine (new_any _).mono ?_); rintro e w1 ⟨rfl, rfl⟩; have Y0 := Lib.hid (RY.new B1.out))))
  clear e1 B1
  generalize v1.heap.size = b at Y0 ⊢
  go_loopw [6, 7] (fun v i V => ∃ (k c : Nat) (F : Nat → Prop) (on : List Txt), k ≤ ns.length ∧ i = .int .i64 k ∧ c ≤ k ∧ on.length ≤ k ∧ Hid (∀ q ∈ on, q.length ≤ 100) ∧ Hid (RO2 X V b F c (Ln on) v on)) (fun _ i _ => ns.length - (intOf i).toNat)
  case atStart => exact ⟨0, 0, _, [], Nat.zero_le _, rfl, Nat.zero_le _, Nat.zero_le _, Lib.hid (by simp), Lib.hid (RO2.start Y0.out)⟩
  case round =>
    clear Y0
    obtain ⟨k, c, F, on, hk, rfl, hc, hon, HQ, HY⟩ := hrel
    obtain ⟨va, vc, rfl⟩ := HY.out.own.form
    by_cases hlt : k < ns.length
    · obtain ⟨bk, o, rfl, hbk, hcx⟩ := HR.out.at_ hlt
      have HBK := Lib.hid hbk
      have HCX := Lib.hid hcx
      have hmax := HM.out ns[k] (List.getElem_mem _)
      have cq := HY.out.tab.cell hbk hcx
      generalize hq : ns[k] = q at *
      have hqs : ((bs q).size : Int) = q.length := by rw [bs_size]
      clear hbk hcx hq
      by_cases h100 : q.length ≤ 100
      case neg =>
        have e2 : decide (((bs q).size : Int) > 100) = true := by rw [hqs]; simp; omega
        clear hqs hmax h100
        go_wp2
        go_ret
        exact ⟨rfl, HY.out.tab.below⟩
      have e2 : decide (((bs q).size : Int) > 100) = false := by rw [hqs]; simp; omega
      clear hqs
      go_wp2
      go_loopw [8, 9] (fun t j V => ∃ (m n : Nat), m ≤ on.length ∧ j = .int .i64 m ∧ t = .bool (decide (q ∈ on.take m)) ∧ V = wr.drewN n) (fun _ j _ => on.length - (intOf j).toNat)
      case atStart => exact ⟨0, 0, Nat.zero_le _, rfl, by simp, rfl⟩
      case round =>
        obtain ⟨m, n, hm, rfl, rfl, rfl⟩ := hrel
        by_cases hlt2 : m < on.length
        · obtain ⟨bo, rfl, hbo, hco⟩ := HY.out.own.at_ hlt2
          have HT := Lib.hid (take_mem (q := q) hlt2)
          cases ht : decide (q ∈ on.take m) with
          | true =>
            have HT2 : Hid (decide (q ∈ on.take (m + 1)) = true) := Lib.hid (by rw [HT.out, ht]; rfl)
            clear ht hbo
            go_wp2
            go_quiet (fail)
            go_wp2
            go_roundw
            case rel => exact ⟨m + 1, n + nq, by omega, by go_num, by rw [HT2.out], by first | rfl | rw [World.drewN_drewN]⟩
            case measure => simp [intOf]; omega
          | false =>
            have te := txt_eq on[m] q
            cases he : decide (on[m] = q) with
            | true =>
              have HT2 : Hid (decide (q ∈ on.take (m + 1)) = true) := Lib.hid (by rw [HT.out, ht, he]; rfl)
              rw [he] at te
              clear ht he hbo
              go_wp2
              go_quiet (fail)
              go_wp2
              go_roundw
              case rel => exact ⟨m + 1, n + nq, by omega, by go_num, by rw [HT2.out], by first | rfl | rw [World.drewN_drewN]⟩
              case measure => simp [intOf]; omega
            | false =>
              have HT2 : Hid (decide (q ∈ on.take (m + 1)) = false) := Lib.hid (by rw [HT.out, ht, he]; rfl)
              rw [he] at te
              clear ht he hbo
              go_wp2
              go_quiet (fail)
              go_wp2
              go_roundw
              case rel => exact ⟨m + 1, n + nq, by omega, by go_num, by rw [HT2.out], by first | rfl | rw [World.drewN_drewN]⟩
              case measure => simp [intOf]; omega
        · obtain rfl : m = on.length := by omega
          rw [List.take_length]
          have HZ := Lib.hid (HY.out.drewN n)
          have cq' : (wr.drewN n).cell? ⟨bk, o + k, none⟩ = some (.string (bs q)) := cq
          clear HY cq hm hlt2
          generalize wr.drewN n = V at HZ cq' ⊢
          have NM := fun w => N.nameMay_any (bs q) w (by rw [bs_size]; exact hmax)
          rw [bs_data] at NM
          cases hmay : may 32 q with
          | false =>
            rw [hmay] at NM
            have BN := fun w => bind_name (b := b) (r := 4) (s := 7) (n := q) (by omega) (by omega) hmax hmay w
            clear hmay
            generalize decide (q ∈ on) = t
            go_wp2_with (first
              | (go_at_call 10; (with_reducible refine (BN _).mono ?_); rintro e w2 ⟨rfl, n2, rfl⟩; have HZ2 := Lib.hid (HZ.out.drewN n2))
              | (go_at_call 9; (with_reducible refine (NM _).mono ?_); rintro e w3 ⟨rfl, e3⟩; subst w3))
            go_roundw
            case rel => exact ⟨k + 1, c, F, on, by omega, by go_num, by omega, by omega, HQ, HZ2⟩
            case measure => simp [intOf]; omega
          | true =>
            rw [hmay] at NM
            have HMY := Lib.hid hmay
            clear hmay
            cases hin : decide (q ∈ on) with
            | true =>
              have hin' : q ∈ on := of_decide_eq_true hin
              have CB := Lib.hid (y_bind HZ.out.tab (r := 4) (s := 7) (n := q) (by omega) (by omega) hmax HMY.out (Or.inr (Ln_yes hin')) (by unfold maxLen; omega) (bound_old (x := ⟨4, q, 7⟩) (Ln_yes hin')))
              clear hin hin'
              go_wp2_with (first
                | (go_at_call 10; (with_reducible refine CB.out.mono ?_); rintro e w2 ⟨rfl, F2, y, g⟩; have HZ2 := Lib.hid (HZ.out.went g y); have cq2 := y.cell HBK.out HCX.out; clear y g)
                | (go_at_call 9; (with_reducible refine (NM _).mono ?_); rintro e w3 ⟨rfl, e3⟩; subst w3))
              go_roundw
              case rel => exact ⟨k + 1, c + 1, F2, on, by omega, by go_num, by omega, by omega, HQ, HZ2⟩
              case measure => simp [intOf]; omega
            | false =>
              have hin' : q ∉ on := of_decide_eq_false hin
              have CB := Lib.hid (y_bind HZ.out.tab (r := 4) (s := 7) (n := q) (by omega) (by omega) hmax HMY.out (Or.inl (Ln_no hin')) (by unfold maxLen; omega) (Ln_bound hin'))
              clear hin hin'
              go_wp2_with (first
                | (go_at_call 10; (with_reducible refine CB.out.mono ?_); rintro e w2 ⟨rfl, F2, y, g⟩; have HZ2 := Lib.hid (HZ.out.went g y); have cq2 := y.cell HBK.out HCX.out; clear y g)
                | (go_at_call 9; (with_reducible refine (NM _).mono ?_); rintro e w3 ⟨rfl, e3⟩; subst w3)
                | (at_builtin; refine wpList_append_own_at _ rfl (.tmp 77) (.tmp 82) 36 rfl X.heap.size 9 i0 _ 1 16 Try.underlying36 hi hz0 hz1 hz2 rfl (by decide) _ on.length (vals on) rfl (HZ2.out.bel (one_new _ _)).own ⟨w2.heap.size, 0, none⟩ 1 1 [.string (bs q)] rfl rfl (one_text w2 q) (by simp [Value.oneCell']) (by unfold maxLen; omega) (by omega) (HZ2.out.tab.alloc _).below.size ?_; intro v' w4 h1 h2 _ h4; have HZ4 := Lib.hid ((HZ2.out.bel (one_new _ _)).app h1 h2 h4); clear h1 h2 h4))
              go_roundw
              case rel => exact ⟨k + 1, c + 1, F2, on ++ [q], by omega, by go_num, by omega, by simp; omega, Lib.hid (fun p hp => (List.mem_append.1 hp).elim (HQ.out p) (fun h => by rw [List.mem_singleton.1 h]; exact h100)), HZ4⟩
              case measure => simp [intOf]; omega
    · obtain rfl : k = ns.length := by omega
      have CO := Lib.hid (y_of HY.out.tab 4 7 (by omega) (Ln_of on) (sortT_len on))
      have ND := Lib.hid (Ln_nodup HY.out.tab.at_.good)
      go_wp2_with (first
        | (go_at_call 14; (with_reducible refine CO.out.mono ?_); rintro e w2 ⟨la, lc, rfl, l, y, g⟩; have HL := Lib.hid l; have HZ := Lib.hid (HY.out.bel g); have CL := Lib.hid (len_any y.at_ (k := on.length) (by rw [Ln_len])); clear l y g)
        | (go_at_call 15; (with_reducible refine CL.out.mono ?_); rintro e w3 ⟨rfl, e3⟩; subst w3))
      clear CO CL HY
      go_loopw [12] (fun i V => ∃ j n : Nat, j ≤ 60 ∧ i = .int .i64 ((j : Int) + 1) ∧ V = w2.drewN n) (fun i _ => on.length - (intOf i).toNat)
      case atStart => exact ⟨0, 0, by omega, rfl, rfl⟩
      case round =>
        obtain ⟨j, n, hj, rfl, rfl⟩ := hrel
        by_cases hlt3 : j + 1 < on.length
        · obtain ⟨lb, rfl, hlb, c1⟩ := HL.out.at_ (k := j + 1) (by rw [sortT_len]; exact hlt3)
          obtain ⟨lb', e, _, c0⟩ := HL.out.at_ (k := j) (by rw [sortT_len]; omega)
          cases e
          have hs := sort_strict ND.out (j := j) (by rw [sortT_len]; exact hlt3)
          generalize (sortT on)[j]'(by rw [sortT_len]; omega) = x at hs c0
          generalize (sortT on)[j + 1]'(by rw [sortT_len]; omega) = y at hs c1
          have te : (Op.bytesLess (bs y).toList (bs x).toList || ((bs y).toList == (bs x).toList)) = false := by
            rw [txt_less, txt_eq]
            have h1 : ¬ y < x := fun h => List.lt_irrefl _ (List.lt_trans hs h)
            have h2 : ¬ y = x := fun h => List.lt_irrefl _ (h ▸ hs)
            simp [h1, h2]
          have i1 : IntKind.i64.wrap ((j : Int) + 1 - 1) = (j : Int) := by rw [IntWalk.i64_in _ (by omega)]; omega
          have i2 : ((j : Int) + 1).toNat = j + 1 := by omega
          have i3 : (0 : Int) ≤ (j : Int) + 1 := by omega
          have i4 : (j : Int) + 1 < (on.length : Int) := by omega
          have i5 : (j : Int) < (on.length : Int) := by omega
          have i6 : IntKind.i64.wrap (j : Int) = (j : Int) := IntWalk.i64_in _ (by omega)
          clear hs hlb
          go_wp2
          go_quiet (fail)
          go_wp2
          go_roundw
          case rel => exact ⟨j + 1, n + nq, by omega, by go_num, by first | rfl | rw [World.drewN_drewN]⟩
          case measure => simp [intOf]; omega
        · have e3 : decide ((j : Int) + 1 < (on.length : Int)) = false := by simp; omega
          have HW := Lib.hid (HZ.out.drewN n)
          clear HL hlt3
          generalize w2.drewN n = V at HW ⊢
          by_cases h0 : on.length = 0
          · have e4 : ((on.length : Int) == 0) = true := by rw [h0]; rfl
            go_wp2
            go_ret
            exact ⟨rfl, HW.out.tab.below⟩
          · have e4 : ((on.length : Int) == 0) = false := by rw [beq_eq_false_iff_ne]; omega
            obtain ⟨jj, hjj, ej⟩ : ∃ jj : Nat, jj < on.length ∧ d % (on.length : Int) = (jj : Int) := by
              have h1 := Int.emod_nonneg d (b := (on.length : Int)) (by omega)
              have h2 := Int.emod_lt_of_pos d (b := (on.length : Int)) (by omega)
              exact ⟨(d % (on.length : Int)).toNat, by omega, by omega⟩
            obtain ⟨N, hN⟩ : ∃ N, on.length = N + 1 := ⟨on.length - 1, by omega⟩
            have e5 : ((N : Int) == ((on.length : Int) - 1)) = true := by rw [beq_iff_eq]; omega
            obtain ⟨bo, rfl, hbo, hco⟩ := HW.out.own.at_ hjj
            have hme : on[jj] ∈ on := List.getElem_mem hjj
            have CD := Lib.hid (y_drop HW.out.tab (r := 4) (n := on[jj]) (ok_of (by omega) (by omega) (Nat.le_trans (HQ.out _ hme) (by omega))) (Ln_yes hme) rfl)
            have CN := Lib.hid (Ln_less HW.out.tab.at_.good hme hN)
            clear hme hbo h0
            have hNb : N ≤ 60 := by omega
            have hNc : c ≤ 60 := by omega
            clear hN
            generalize on[jj] = q at *
            go_wp2_with (first
              | (go_at_call 11; (with_reducible refine CD.out.mono ?_); rintro e w3 ⟨rfl, y, _⟩; have CO := Lib.hid (y_of y 4 7 (by omega) rfl CN.out); clear y)
              | (go_at_call 14; (with_reducible refine CO.out.mono ?_); rintro e w4 ⟨a4, c4, rfl, _, y, _⟩; have Y4 := Lib.hid y; clear y))
            go_ret
            exact ⟨rfl, Y4.out.below⟩

end Go.Proofs.Ytglbemdeboaheaa.Rf
