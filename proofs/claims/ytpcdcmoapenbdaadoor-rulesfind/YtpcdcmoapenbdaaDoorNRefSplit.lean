/-
  The document's own Split: parts gathered sign by sign.
-/
import Derived.Test.YtpcdcmoapenbdaaDoorNSplits
import Derived.StillTailTactics
import Derived.Laws.OwnMore
import Derived.OwnWalk
import Derived.Deep.AppendLies
import Derived.IntWalk
namespace Go.Proofs.YtpcdcmoapenbdaaDoor.N
open Go.ChangeShapes Go.WideShapes Go.ChangeAt Go.RowKit

def vals (qs : List (List UInt8)) : List Value := qs.map fun p => Value.string (bs p)
/-- a slice of the call's own that holds these texts -/
def Own (B : Nat) (w : World) (v : Value) (qs : List (List UInt8)) : Prop := w.ownsRow B 9 1 v qs.length (vals qs)
/-- the parts of the first k signs -/
def F (l : List UInt8) (k : Nat) : List (List UInt8) := (l.take k).foldl grow []

theorem F_step (s : ByteArray) (k : Nat) (h : k < s.size) : F s.data.toList (k + 1) = grow (F s.data.toList k) s[k] := by
  rw [F, F, take_snoc s k h, List.foldl_append]
  rfl
theorem grow_len (qs : List (List UInt8)) (b : UInt8) : (grow qs b).length ≤ qs.length + 1 ∧ grow qs b ≠ [] := by
  unfold grow
  split <;> simp
theorem F_len (s : ByteArray) (k : Nat) (h : k ≤ s.size) : (F s.data.toList k).length ≤ k := by
  induction k with
  | zero => simp [F]
  | succ k ih =>
    rw [F_step s k (by omega)]
    have h1 := (grow_len (F s.data.toList k) (s[k]'(by omega))).1
    have h2 := ih (by omega)
    omega
theorem F_ne (s : ByteArray) (k : Nat) (h : k < s.size) : F s.data.toList (k + 1) ≠ [] := by
  rw [F_step s k h]
  exact (grow_len _ _).2
theorem F_end (s : ByteArray) (h : s.data.toList.head? = some 62) : F s.data.toList s.size = cut s.data.toList.tail := by
  rw [F, ← size_len, List.take_length]
  cases hs : s.data.toList with
  | nil => rw [hs] at h; cases h
  | cons b r =>
    rw [hs] at h
    injection h with h
    subst h
    exact grow_cut r

theorem Own.nil (B : Nat) (w : World) : Own B w (.slice none 0 0) [] := World.ownsRow_nil _ _ _ _
theorem Own.row {B : Nat} {w : World} {v : Value} {qs : List (List UInt8)} (h : Own B w v qs) : ∃ a c, v = .slice a qs.length c ∧ Row w a c qs := by
  by_cases h0 : qs = []
  · subst h0
    rcases h.2 with ⟨rfl, _⟩ | ⟨g, cap, cur, rfl, _⟩
    · exact ⟨none, 0, rfl, Row.nil _ _ _⟩
    · exact ⟨_, cap, rfl, Row.nil _ _ _⟩
  · obtain ⟨g, cap, hv, _, hlt⟩ := World.ownsRow.form h (List.length_pos_iff.2 h0)
    subst hv
    refine ⟨_, cap, rfl, ?_, fun _ => ⟨g, 0, rfl, hlt, fun j p hp => ?_⟩⟩
    · rcases h.2 with ⟨h', _⟩ | ⟨g', cap', cur, h', _, _, hnc, _⟩
      · cases h'
      · injection h' with _ _ h'; omega
    · rw [Nat.zero_add]
      have hj := (List.getElem?_eq_some_iff.1 hp).1
      rw [World.ownsRow.cellAt h j (by omega), vals, List.getElem?_map, hp]
      rfl
theorem Own.stroke {B : Nat} {w : World} {v : Value} {qs : List (List UInt8)} (h : w.ownsRow B 9 1 v (qs.length + 1) (vals qs ++ [.string ⟨#[]⟩])) : Own B w v (qs ++ [[]]) := by
  unfold Own
  rw [List.length_append, vals, List.map_append]
  exact h
theorem Own.sign {B g cap : Nat} {w : World} {q : List (List UInt8)} {z y : List UInt8} (h : Own B w (.slice (some ⟨g, 0, none⟩) (q.length + 1) cap) (q ++ [z])) :
    Own B (w.setCell ⟨g, q.length, none⟩ (.string (bs y))) (.slice (some ⟨g, 0, none⟩) (q.length + 1) cap) (q ++ [y]) := by
  have e : (q ++ [z]).length = q.length + 1 := by simp
  have e2 : (q ++ [y]).length = q.length + 1 := by simp
  unfold Own at h ⊢
  rw [e] at h
  rw [e2]
  have h1 := (World.ownsRow.stored h q.length (.string (bs y))).1
  have e3 : (vals (q ++ [z])).set q.length (.string (bs y)) = vals (q ++ [y]) := by
    simp [vals]
  rw [e3] at h1
  exact h1
theorem Own.last_ {B : Nat} {w : World} {v : Value} {q : List (List UInt8)} {z : List UInt8} (h : Own B w v (q ++ [z])) :
    ∃ g cap, v = .slice (some ⟨g, 0, none⟩) (q.length + 1) cap ∧ B ≤ g ∧ g < w.heap.size ∧ w.cell? ⟨g, q.length, none⟩ = some (.string (bs z)) ∧ w.frozen? ⟨g, q.length, none⟩ = false := by
  have e : (q ++ [z]).length = q.length + 1 := by simp
  unfold Own at h
  rw [e] at h
  obtain ⟨g, cap, hv, hB, hlt⟩ := World.ownsRow.form h (by omega)
  subst hv
  refine ⟨g, cap, rfl, hB, hlt, ?_, World.ownsRow.frozenAt h _⟩
  rw [World.ownsRow.cellAt h _ (by omega), vals, List.map_append, List.getElem?_append_right (by simp)]
  simp
theorem ext_one (s : ByteArray) (k : Nat) (h : k < s.size) : s.extract k (k + 1) = bs [s[k]] := by
  apply bytes_inj
  rw [Lib.extract_data, bs_data]
  have hl : k < s.data.toList.length := by rw [size_len]; exact h
  rw [show k + 1 - k = 1 by omega, List.drop_eq_getElem_cons hl]
  rfl

theorem info_text : (Tryd.prog.info? 9).map (fun i => (i.zero, i.size, i.bytes)) = some (some (.string ByteArray.empty), 1, 16) := by kernel_rfl

theorem append_below {B : Nat} {w wr w1 : World} {v : Value} {qs : List (List UInt8)} {o : Obj} (hown : Own B wr v qs) (hb : Below B w wr) (hg : (wr.alloc o).grownBy w1 v.ownBlock) (hB : B ≤ w.heap.size := by exact Nat.le_refl _) : Below B w w1 :=
  (hb.alloc (Nat.le_trans hB hb.size) o).grown hg (by have := hb.size; simp; omega) (fun k e => (World.ownsRow.lt hown k e).1)
theorem grow_sign {q : List (List UInt8)} {z : List UInt8} {b : UInt8} (h : ¬ b = 62) : grow (q ++ [z]) b = q ++ [z ++ [b]] := by
  simp [grow, h, List.getLastD_eq_getLast?]
theorem F_split (s : ByteArray) (k : Nat) (h0 : 0 < k) (h : k ≤ s.size) : ∃ q z, F s.data.toList k = q ++ [z] := by
  have h1 : F s.data.toList k ≠ [] := by
    have := F_ne s (k - 1) (by omega)
    rwa [show k - 1 + 1 = k by omega] at this
  rcases List.eq_nil_or_concat (F s.data.toList k) with h2 | ⟨q, z, h2⟩
  · exact absurd h2 h1
  · exact ⟨q, z, by rw [h2, List.concat_eq_append]⟩
theorem F_each (s : ByteArray) (k : Nat) (h : k ≤ s.size) : ∀ p ∈ F s.data.toList k, p.length ≤ k := by
  induction k with
  | zero => simp [F]
  | succ k ih =>
    intro p hp
    have ih := ih (by omega)
    rw [F_step s k (by omega), grow] at hp
    split at hp
    · rcases List.mem_append.1 hp with hp | hp
      · have := ih p hp; omega
      · rw [List.mem_singleton.1 hp]; simp
    · rcases List.mem_append.1 hp with hp | hp
      · have := ih p (List.dropLast_subset _ hp); omega
      · rw [List.mem_singleton.1 hp, List.length_append]
        have : ((F s.data.toList k).getLastD []).length ≤ k := by
          rw [List.getLastD_eq_getLast?]
          cases hl : (F s.data.toList k).getLast? with
          | none => simp
          | some y => exact ih y (List.mem_of_getLast? hl)
        simp only [List.length_cons, List.length_nil]
        omega

/-- what the document's Split answers -/
theorem ref_head {s : ByteArray} (h : ¬ (s.data.toList.head? = some 62)) : partsOf s.data.toList = none := by
  rw [partsOf, if_pos (Or.inr h)]

set_option maxHeartbeats 2000000 in
set_option maxRecDepth 4000 in
theorem refSplit_any (s : ByteArray) (w : World) (hs : s.size ≤ maxLen) : Calls Tryd.prog 32 #[.string s] w (SplitPost s.data.toList w) := by
  unfold maxLen at hs
  by_cases h3 : s.data.toList = [62]
  · obtain rfl : s = ⟨#[62]⟩ := bytes_inj h3
    clear h3
    go_enter Tryd.func32, Tryd.ntmps32
    go_wp2
    all_goals exact bodyPost_ret (v := .tuple #[.slice none 0 0, .int .i64 0]) (by simp [results, Tryd.results32, go_sem]) rfl (post_root parts_root (Below.refl _ _))
  have e3 : (s.toList == [62]) = false := by rw [Lib.toList_data]; exact beq_eq_false_iff_ne.2 h3
  by_cases h0 : s.size = 0
  · have HP := Lib.hid (ref_head (s := s) (by rw [List.eq_nil_of_length_eq_zero ((size_len s).trans h0)]; simp))
    clear h3
    go_enter Tryd.func32, Tryd.ntmps32
    go_wp2
    all_goals exact bodyPost_ret (v := .tuple #[.slice none 0 0, .int .i64 3]) (by simp [results, Tryd.results32, go_sem]) rfl (post_none HP.out (Below.refl _ _))
  have h0' : 0 < s.size := by omega
  clear h0
  by_cases h1 : 168 < s.size
  · have HP := Lib.hid (parts_long (l := s.data.toList) (by rw [size_len]; exact h1))
    clear h3
    go_enter Tryd.func32, Tryd.ntmps32
    go_wp2
    all_goals exact bodyPost_ret (v := .tuple #[.slice none 0 0, .int .i64 3]) (by simp [results, Tryd.results32, go_sem]) rfl (post_none HP.out (Below.refl _ _))
  by_cases h2 : (s[0].toNat : Int) = 62
  case neg =>
    have HP := Lib.hid (ref_head (s := s) (by
      intro e
      apply h2
      have e1 : s.data.toList.head? = some s[0] := by
        rw [List.head?_eq_getElem?]
        exact List.getElem?_eq_getElem (by rw [size_len]; exact h0')
      rw [e1] at e
      injection e with e
      rw [e]; rfl))
    have e2 : ((s[0].toNat : Int) != 62) = true := bne_iff_ne.2 h2
    clear h3
    go_enter Tryd.func32, Tryd.ntmps32
    go_wp2
    all_goals exact bodyPost_ret (v := .tuple #[.slice none 0 0, .int .i64 3]) (by simp [results, Tryd.results32, go_sem]) rfl (post_none HP.out (Below.refl _ _))
  have hh : s.data.toList.head? = some 62 := by
    have e1 : s.data.toList.head? = some s[0] := by
      rw [List.head?_eq_getElem?]
      exact List.getElem?_eq_getElem (by rw [size_len]; exact h0')
    rw [e1]
    exact congrArg some (UInt8.toNat_inj.1 (by simpa using Int.ofNat.inj h2))
  have HP := Lib.hid (parts_rest (l := s.data.toList) (by rw [size_len]; omega) ((head_iff _).2 hh) h3)
  have HE := Lib.hid (F_end s hh)
  have HH := Lib.hid hh
  have e2 : ((s[0].toNat : Int) != 62) = false := by rw [bne_eq_false_iff_eq]; exact h2
  have HL := Lib.hid (F_len s)
  obtain ⟨i0, hi, hz0, hz1, hz2⟩ := info_parts info_text
  have e0 : ((s.size : Int) == 0) = false := by rw [beq_eq_false_iff_ne]; omega
  have en : ¬ s = ByteArray.empty := by rintro rfl; exact absurd h0' (by decide)
  have e168 : decide ((168 : Int) < (s.size : Int)) = false := by rw [decide_eq_false_iff_not]; omega
  clear h3 hh
  go_enter Tryd.func32, Tryd.ntmps32
  go_wp2
  go_loopw [4, 5] (fun v i W => ∃ k : Nat, k ≤ s.size ∧ i = .int .i64 k ∧ Own w.heap.size W v (F s.data.toList k) ∧ Below w.heap.size w W) (fun _ i _ => s.size - (intOf i).toNat)
  case atStart => exact ⟨0, Nat.zero_le _, rfl, Own.nil _ _, Below.refl _ _⟩
  case round =>
    obtain ⟨k, hk, rfl, hown, hb⟩ := hrel
    by_cases hlt : k < s.size
    · have HS := Lib.hid (F_step s k hlt)
      have hfl : (F s.data.toList k).length ≤ 168 := by have := HL.out k hk; omega
      by_cases g : (s[k].toNat : Int) = 62
      · have HG : Hid (grow (F s.data.toList k) s[k] = F s.data.toList k ++ [[]]) := Lib.hid (by
          have : s[k] = 62 := UInt8.toNat_inj.1 (by simpa using Int.ofNat.inj g)
          rw [grow, if_pos this])
        have c1 : ∀ (j : Nat) (u : Value), [Value.string ⟨#[]⟩][j]? = some u → (wr.alloc (.cells #[.string ⟨#[]⟩] 9)).cell? ((⟨wr.heap.size, 0, none⟩ : Addr).add j) = some u := by
          intro j u hj
          match j, hj with
          | 0, hj => simp at hj; subst hj; simp [Addr.add]
        have HC1 := Lib.hid c1
        clear c1
        go_wp2_with (at_builtin; refine wpList_append_own _ rfl _ _ 24 rfl w.heap.size 9 i0 (.string ByteArray.empty) 1 16 Tryd.underlying24 hi hz0 hz1 hz2 rfl (by decide) _ _ _ rfl (World.ownsRow.alloc hown _) ⟨wr.heap.size, 0, none⟩ 1 1 [.string ⟨#[]⟩] rfl rfl HC1.out (by simp [Value.oneCell']) (by unfold maxLen; omega) (by omega) (by have := hb.size; simp; omega) ?_; intro v' w1 hown' hgrow _)
        have hb1 := append_below hown hb hgrow
        go_roundw
        case rel => exact ⟨k + 1, by omega, by go_num, by rw [HS.out, HG.out]; exact Own.stroke hown', hb1⟩
        case measure => simp [intOf]; omega
      · have hk0 : 0 < k := by
          rcases Nat.eq_zero_or_pos k with h | h
          · subst h; exact absurd h2 g
          · exact h
        obtain ⟨q, z, hqz⟩ := F_split s k hk0 hk
        have HG : Hid (F s.data.toList (k + 1) = q ++ [z ++ [s[k]]]) := Lib.hid (by rw [HS.out, hqz]; exact grow_sign (fun e => g (by rw [e]; rfl)))
        have hzl : z.length ≤ k := F_each s k hk z (by rw [hqz]; simp)
        have hql : q.length ≤ 168 := by rw [hqz, List.length_append] at hfl; omega
        rw [hqz] at hown
        obtain ⟨gg, cap, rfl, hB, hgl, hcell, hfz⟩ := hown.last_
        have HX := Lib.hid (ext_one s k hlt)
        have b1 : ¬ 9223372036854775807 < (bs z).size + (s.extract k (k + 1)).size := by rw [HX.out, bs_size, bs_size]; simp; omega
        have b2 : ¬ 9223372036854775807 < (bs z).size + (min (k + 1) s.size - k) := by rw [bs_size]; omega
        have i1 : IntKind.i64.wrap ((q.length : Int) + 1 - 1) = (q.length : Int) := by rw [IntWalk.i64_in _ (by omega)]; omega
        have i1' : IntKind.i64.wrap (q.length : Int) = (q.length : Int) := IntWalk.i64_in _ (by omega)
        have i2 : (0 : Int) ≤ (q.length : Int) := Int.natCast_nonneg _
        have i3 : (q.length : Int) < (q.length : Int) + 1 := by omega
        have i4 : IntKind.i64.wrap ((k : Int) + 1) = (k : Int) + 1 := IntWalk.i64_in _ (by omega)
        have i5 : (0 : Int) ≤ (k : Int) := Int.natCast_nonneg _
        have i6 : (k : Int) ≤ (k : Int) + 1 := by omega
        have i7 : (k : Int) + 1 ≤ (s.size : Int) := by omega
        have i8 : ((k : Int) + 1).toNat = k + 1 := by omega
        have i9 : (0 : Int) ≤ (k : Int) + 1 := by omega
        clear hqz
        go_wp2
        go_still_tail 17, (by kernel_rfl)
        change wpList _ _ _ _ _ wr.drew
        have hown2 : Own w.heap.size wr.drew (.slice (some ⟨gg, 0, none⟩) (q.length + 1) cap) (q ++ [z]) := hown
        have hcell2 : wr.drew.cell? ⟨gg, q.length, none⟩ = some (.string (bs z)) := hcell
        have hfz2 : wr.drew.frozen? ⟨gg, q.length, none⟩ = false := hfz
        have hb2 : Below w.heap.size w wr.drew := hb.drew
        clear hown hcell hfz hb
        generalize wr.drew = w2 at *
        have HT : Hid (bs z ++ s.extract k (k + 1) = bs (z ++ [s[k]])) := Lib.hid (by rw [HX.out, bs_app])
        clear i1 i1' i4 i8
        go_wp2
        go_roundw
        case rel => exact ⟨k + 1, by omega, by go_num, by rw [HG.out, HT.out]; exact hown2.sign, hb2.setCell hB _⟩
        case measure => simp [intOf]; omega
    · obtain rfl : k = s.size := by omega
      rw [HE.out] at hown
      obtain ⟨a, c, rfl, hr⟩ := hown.row
      have hcl : (cut s.data.toList.tail).length ≤ 168 := by have := HL.out s.size (Nat.le_refl _); rw [HE.out] at this; omega
      have HR := Lib.hid hr
      clear hown hr
      by_cases h16 : 16 < (cut s.data.toList.tail).length
      · have HN := Lib.hid (HP.out.trans (if_pos (Or.inl h16)))
        go_wp2
        all_goals exact bodyPost_ret (v := .tuple #[.slice none 0 0, .int .i64 3]) (by simp [results, Tryd.results32, go_sem]) rfl (post_none HN.out hb)
      have HM : Hid (∀ p ∈ cut s.data.toList.tail, p.length ≤ s.size) := Lib.hid (by rw [← HE.out]; exact F_each s s.size (Nat.le_refl _))
      go_wp2
      go_loop [6] (fun i => ∃ j : Nat, j ≤ (cut s.data.toList.tail).length ∧ i = .int .i64 j ∧ Hid (((cut s.data.toList.tail).take j).all (may 32) = true)) (fun i => (cut s.data.toList.tail).length - (intOf i).toNat)
      case atStart => exact ⟨0, Nat.zero_le _, rfl, Lib.hid rfl⟩
      case round =>
        obtain ⟨j, hj, rfl, ha⟩ := hrel
        by_cases hjl : j < (cut s.data.toList.tail).length
        · obtain ⟨bk, o, rfl, hbk, hc⟩ := HR.out.at_ hjl
          have hsz : (bs (cut s.data.toList.tail)[j]).size ≤ maxLen := by
            rw [bs_size]; unfold maxLen
            have := HM.out _ (List.getElem_mem hjl)
            omega
          have HB := Lib.hid (bs_data (cut s.data.toList.tail)[j])
          cases hm : may 32 (cut s.data.toList.tail)[j] with
          | false =>
            have e1 : may 32 (bs (cut s.data.toList.tail)[j]).data.toList = false := by rw [HB.out]; exact hm
            have HN := Lib.hid (HP.out.trans (if_pos (Or.inr (all_stop hjl hm))))
            go_wp2_with (go_at_call 36; refine (nameMay_any _ _ hsz).mono ?_; rintro e w' ⟨rfl, rfl⟩)
            all_goals exact bodyPost_ret (v := .tuple #[.slice none 0 0, .int .i64 3]) (by simp [results, Tryd.results32, go_sem]) rfl (post_none HN.out hb)
          | true =>
            have e1 : may 32 (bs (cut s.data.toList.tail)[j]).data.toList = true := by rw [HB.out]; exact hm
            go_wp2_with (go_at_call 36; refine (nameMay_any _ _ hsz).mono ?_; rintro e w' ⟨rfl, rfl⟩)
            go_round
            case rel => exact ⟨j + 1, by omega, by go_num, Lib.hid (all_step hjl ha.out hm)⟩
            case measure => simp [intOf]; omega
        · obtain rfl : j = (cut s.data.toList.tail).length := by omega
          have HA : Hid ((cut s.data.toList.tail).all (may 32) = true) := Lib.hid (by have := ha.out; rwa [List.take_length] at this)
          have HN := Lib.hid (HP.out.trans (if_neg (by rw [HA.out]; simp; omega)))
          go_wp2
          exact bodyPost_ret (v := .tuple #[_, .int .i64 0]) (by simp [results, Tryd.results32, go_sem]) rfl (post_some HN.out HR.out hb)

end Go.Proofs.YtpcdcmoapenbdaaDoor.N
