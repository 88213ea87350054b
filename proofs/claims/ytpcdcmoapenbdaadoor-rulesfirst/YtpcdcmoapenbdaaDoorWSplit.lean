/-
  names.Split, told with the row that it makes: a slice of the call's own, which may be appended to. Slices of texts cut at their head; texts appended to a slice of one's own.
-/
import Derived.Test.YtpcdcmoapenbdaaDoorNRefSplit
import Derived.Laws.AppendOwnNone
namespace Go.Proofs.YtpcdcmoapenbdaaDoor.N
open Go.ChangeShapes Go.WideShapes Go.ChangeAt Go.RowKit

/-- what Split answers, its list of the call's own -/
def SplitOwn (l : List UInt8) (w : World) (e : Ending) (w' : World) : Prop :=
  ∃ v, e = .returned (.tuple #[v, .int .i64 (er l)]) ∧ Own w.heap.size w' v (ps l) ∧ Below w.heap.size w w'

theorem own_none {l : List UInt8} {w w' : World} (h : partsOf l = none) (hb : Below w.heap.size w w') : SplitOwn l w (.returned (.tuple #[.slice none 0 0, .int .i64 3])) w' := by
  obtain ⟨h1, h2⟩ := ps_none h
  exact ⟨.slice none 0 0, by rw [h2], by rw [h1]; exact Own.nil _ _, hb⟩
theorem own_root {l : List UInt8} {w w' : World} (h : partsOf l = some []) (hb : Below w.heap.size w w') : SplitOwn l w (.returned (.tuple #[.slice none 0 0, .int .i64 0])) w' := by
  obtain ⟨h1, h2⟩ := ps_some h
  exact ⟨.slice none 0 0, by rw [h2], by rw [h1]; exact Own.nil _ _, hb⟩
theorem own_some {l : List UInt8} {q : List (List UInt8)} {w w' : World} {v : Value} (h : partsOf l = some q) (hr : Own w.heap.size w' v q) (hb : Below w.heap.size w w') :
    SplitOwn l w (.returned (.tuple #[v, .int .i64 0])) w' := by
  obtain ⟨h1, h2⟩ := ps_some h
  exact ⟨v, by rw [h2], by rw [h1]; exact hr, hb⟩
theorem own_drewN {B : Nat} {w : World} {v : Value} {q : List (List UInt8)} (h : Own B w v q) (n : Nat) : Own B (w.drewN n) v q := h

theorem strSplit_own (s : ByteArray) (w : World) (hs : s.size < 4294967281) (hg : Glob w) :
    Calls Tryd.prog 73 #[.string s, .string ⟨#[62]⟩] w fun e w' =>
      e = .returned (.slice (some ⟨w.heap.size, 0, none⟩) (cut s.data.toList).length (cut s.data.toList).length) ∧ Row w' (some ⟨w.heap.size, 0, none⟩) (cut s.data.toList).length (cut s.data.toList) ∧ Own w.heap.size w' (.slice (some ⟨w.heap.size, 0, none⟩) (cut s.data.toList).length (cut s.data.toList).length) (cut s.data.toList) ∧ Below w.heap.size w w' := by
  obtain ⟨m, hm⟩ := hg
  have hn : Lib.countB s ⟨#[62]⟩ + 1 = (cut s.data.toList).length := (cut_len s.data.toList).symm
  have hx : Lib.splitB ⟨#[62]⟩ 0 (Lib.countB s ⟨#[62]⟩) s = (cut s.data.toList).map bs :=
    list_back ((Lib.splitB_data ⟨#[62]⟩ 0 (Lib.countB s ⟨#[62]⟩) s).trans (split_cut s.data.toList))
  have hle : (cut s.data.toList).length ≤ maxLen := by
    have h1 := cut_le s.data.toList
    have h2 := size_len s
    unfold maxLen
    omega
  refine (Tryd.strings_Split s ⟨#[62]⟩ m w hs hm (by decide)).mono fun e w' ⟨he, hw⟩ => ?_
  rw [hx] at hw
  subst hw
  refine ⟨by rw [he, hn], ⟨Nat.le_refl _, fun _ => ⟨w.heap.size, 0, rfl, by simp, fun j p hp => ?_⟩⟩, ?_, (Below.refl _ _).alloc (Nat.le_refl _) _⟩
  · rw [cell_of_row _ _ _ _ _ _ (heap_alloc_new w _)]
    rw [List.getElem?_toArray, Nat.zero_add, List.map_map, List.getElem?_map, hp]
    rfl
  · refine ⟨by simp [vals], Or.inr ⟨w.heap.size, _, _, rfl, Nat.le_refl _, heap_alloc_new w _, Nat.le_refl _, hle, by simp, ?_⟩⟩
    rw [Nat.mul_one, List.take_of_length_le (by simp), List.map_map]
    rfl

set_option maxHeartbeats 1000000 in
theorem split_own (s : ByteArray) (w : World) (hs : s.size ≤ maxLen) (hg : Glob w) : Calls Tryd.prog 57 #[.string s] w (SplitOwn s.data.toList w) := by
  unfold maxLen at hs
  have HG := Lib.hid hg
  clear hg
  by_cases h1 : 168 < s.size
  · have HP := Lib.hid (parts_long (l := s.data.toList) (by rw [size_len]; exact h1))
    go_enter Tryd.func57, Tryd.ntmps57
    go_wp2
    all_goals exact bodyPost_ret (v := .tuple #[.slice none 0 0, .int .i64 3]) (by simp [results, Tryd.results57, go_sem]) rfl (own_none HP.out (Below.refl _ _))
  cases h2 : Lib.hasPrefix s.data.toList [62] with
  | false =>
    have HP := Lib.hid (parts_head h2)
    go_enter Tryd.func57, Tryd.ntmps57
    go_wp2_with (go_at_call 72; refine (Tryd.strings_HasPrefix _ _ _).mono ?_; rintro e w' ⟨rfl, rfl⟩)
    all_goals exact bodyPost_ret (v := .tuple #[.slice none 0 0, .int .i64 3]) (by simp [results, Tryd.results57, go_sem]) rfl (own_none HP.out (Below.refl _ _))
  | true =>
    by_cases h3 : s.data.toList = [62]
    · obtain rfl : s = ⟨#[62]⟩ := bytes_inj h3
      clear h3 h2
      go_enter Tryd.func57, Tryd.ntmps57
      go_wp2_with (go_at_call 72; refine (Tryd.strings_HasPrefix _ _ _).mono ?_; rintro e w' ⟨rfl, rfl⟩)
      all_goals exact bodyPost_ret (v := .tuple #[.slice none 0 0, .int .i64 0]) (by simp [results, Tryd.results57, go_sem]) rfl (own_root parts_root (Below.refl _ _))
    · have h0 : 1 ≤ s.size := by
        rcases Nat.eq_zero_or_pos s.size with h | h
        · have hl := size_len s
          rw [h] at hl
          rw [List.eq_nil_of_length_eq_zero hl] at h2
          cases h2
        · exact h
      have HP := Lib.hid (parts_rest (l := s.data.toList) (by rw [size_len]; omega) h2 h3)
      have e3 : (s.toList == [62]) = false := by rw [Lib.toList_data]; exact beq_eq_false_iff_ne.2 h3
      have HT := Lib.hid (tail_of s h0)
      have hsz : (s.extract 1 s.size).size < 4294967281 := by rw [← size_len, HT.out, List.length_tail, size_len]; omega
      have HC := Lib.hid (cut_le s.data.toList.tail)
      have HE := Lib.hid (cut_each s.data.toList.tail)
      have HL : Hid (s.data.toList.tail.length ≤ 168) := Lib.hid (by rw [List.length_tail, size_len]; omega)
      have hlen : (cut s.data.toList.tail).length ≤ 1000000 := by have := HC.out; have := HL.out; omega
      have HE' : Hid (∀ p ∈ cut s.data.toList.tail, p.length ≤ 1000000) := Lib.hid (fun p hp => by have := HE.out p hp; have := HL.out; omega)
      clear h3 HE HC HL
      by_cases h16 : 16 < (cut s.data.toList.tail).length
      · have HN := Lib.hid (HP.out.trans (if_pos (Or.inl h16)))
        go_enter Tryd.func57, Tryd.ntmps57
        go_wp2_with (first
          | (go_at_call 72; refine (Tryd.strings_HasPrefix _ _ _).mono ?_; rintro e w' ⟨rfl, rfl⟩)
          | (go_at_call 73; refine (strSplit_own _ _ hsz HG.out).mono ?_; rw [HT.out]; rintro e w' ⟨rfl, hr, ho, hb⟩))
        all_goals exact bodyPost_ret (v := .tuple #[.slice none 0 0, .int .i64 3]) (by simp [results, Tryd.results57, go_sem]) rfl (own_none HN.out hb)
      cases ha : (cut s.data.toList.tail).all (may 32) with
      | false =>
        have HN := Lib.hid (HP.out.trans (if_pos (Or.inr ha)))
        go_enter Tryd.func57, Tryd.ntmps57
        go_wp2_with (first
          | (go_at_call 72; refine (Tryd.strings_HasPrefix _ _ _).mono ?_; rintro e w' ⟨rfl, rfl⟩)
          | (go_at_call 73; refine (strSplit_own _ _ hsz HG.out).mono ?_; rw [HT.out]; rintro e w' ⟨rfl, hr, ho, hb⟩)
          | (go_at_call 74; refine (allMay_any _ _ _ _ hr hlen HE'.out).mono ?_; rintro e w' ⟨rfl, n, rfl⟩))
        all_goals exact bodyPost_ret (v := .tuple #[.slice none 0 0, .int .i64 3]) (by simp [results, Tryd.results57, go_sem]) rfl (own_none HN.out (hb.trans ((below_drewN _ n).mono hb.size)))
      | true =>
        have HN := Lib.hid (HP.out.trans (if_neg (by rw [ha]; simp; omega)))
        go_enter Tryd.func57, Tryd.ntmps57
        go_wp2_with (first
          | (go_at_call 72; refine (Tryd.strings_HasPrefix _ _ _).mono ?_; rintro e w' ⟨rfl, rfl⟩)
          | (go_at_call 73; refine (strSplit_own _ _ hsz HG.out).mono ?_; rw [HT.out]; rintro e w' ⟨rfl, hr, ho, hb⟩)
          | (go_at_call 74; refine (allMay_any _ _ _ _ hr hlen HE'.out).mono ?_; rintro e w' ⟨rfl, n, rfl⟩))
        exact bodyPost_ret (v := .tuple #[_, .int .i64 0]) (by simp [results, Tryd.results57, go_sem]) rfl (own_some HN.out (own_drewN ho n) (hb.trans ((below_drewN _ n).mono hb.size)))

/-- a slice that holds these texts; it is nil only without room -/
def PRow (w : World) (a : Option Addr) (c : Nat) (qs : List (List UInt8)) : Prop := Row w a c qs ∧ (a = none → c = 0)
theorem PRow.below {w w' : World} {a : Option Addr} {c : Nat} {qs : List (List UInt8)} (h : PRow w a c qs) (hb : Below w.heap.size w w') : PRow w' a c qs := ⟨h.1.below hb, h.2⟩
theorem PRow.of {B : Nat} {w : World} {v : Value} {qs : List (List UInt8)} (h : Own B w v qs) : ∃ a c, v = .slice a qs.length c ∧ PRow w a c qs := by
  obtain ⟨a, c, rfl, hr⟩ := h.row
  refine ⟨a, c, rfl, hr, fun e => ?_⟩
  subst e
  rcases h.2 with ⟨h1, _⟩ | ⟨g, cap, cur, h1, _⟩
  · injection h1
  · cases h1
theorem PRow.nil (w : World) (ad : Addr) (c : Nat) : PRow w (some ad) c [] := ⟨Row.nil _ _ _, fun h => by cases h⟩
/-- its first text, and what a cut of it leaves -/
theorem PRow.cut {w : World} {a : Option Addr} {c : Nat} {q : List UInt8} {qs : List (List UInt8)} (h : PRow w a c (q :: qs)) : ∃ bk o, a = some ⟨bk, o, none⟩ ∧ qs.length + 1 ≤ c ∧ bk < w.heap.size ∧ w.cell? ⟨bk, o, none⟩ = some (.string (bs q)) ∧
    (c = 1 → PRow w (some ⟨bk, o, none⟩) (c - 1) qs) ∧ (c ≠ 1 → PRow w (some ⟨bk, o + 1, none⟩) (c - 1) qs) := by
  obtain ⟨h0, hr⟩ := h.1
  obtain ⟨bk, o, e, hl, hc⟩ := hr (by simp)
  simp only [List.length_cons] at h0
  have c0 := hc 0 q rfl
  refine ⟨bk, o, e, h0, hl, c0, fun e1 => ?_, fun e1 => ?_⟩
  · obtain rfl : qs = [] := List.eq_nil_of_length_eq_zero (by omega)
    exact PRow.nil _ _ _
  · refine ⟨⟨by omega, fun _ => ⟨bk, o + 1, rfl, hl, fun j p hp => ?_⟩⟩, fun h => by cases h⟩
    rw [Nat.add_assoc, Nat.add_comm 1 j]
    exact hc (j + 1) p hp

/-- texts appended to a slice of one's own -/
theorem wpList_texts {base : Nat} {w : World} {v : Value} {l : List (List UInt8)} {ops : Array Oper} {rest : List Oper} {o : Oper} {a : Act} {Q : Exit → Act → World → Prop} (hgd : o.guard = none) (s y : Operand)
    (ho : o.op = .call { callee := .builtin .append, args := #[s, y], argTypes := #[24, 24] })
    (hs : a.eval s = v) (hown : Own base w v l) (ao : Option Addr) (c : Nat) (ms : List (List UInt8)) (hy : a.eval y = .slice ao ms.length c) (hrow : PRow w ao c ms) (hlen : l.length + ms.length ≤ 1000000) (hbase : base ≤ w.heap.size)
    (h : ∀ v' w', Own base w' v' (l ++ ms) → w.grownBy w' v.ownBlock → wpList Tryd.prog ops Q rest (a.put o.dst v') w') : wpList Tryd.prog ops Q (o :: rest) a w := by
  obtain ⟨i0, hi, hz0, hz1, hz2⟩ := info_parts info_text
  cases ao with
  | none =>
    have hc : c = 0 := hrow.2 rfl
    have hm : ms = [] := List.length_eq_zero_iff.1 (by have := hrow.1.1; omega)
    subst hc hm
    refine wpList_append_own_none hgd s y 24 ho base 9 i0 1 Tryd.underlying24 hi v _ _ hs hown (by simpa using hy) ?_
    exact h v w (by simpa using hown) (World.grownBy.refl _ _)
  | some ad =>
    refine wpList_append_own w hgd s y 24 ho base 9 i0 _ 1 16 Tryd.underlying24 hi hz0 hz1 hz2 rfl (by decide) v _ _ hs hown ad ms.length c (vals ms) hy (by simp [vals]) ?_ (by simp [vals, Value.oneCell']) (by unfold maxLen; omega) (by omega) hbase ?_
    · intro j u hj
      rw [vals, List.getElem?_map] at hj
      obtain ⟨p, hp, rfl⟩ := Option.map_eq_some_iff.1 hj
      obtain ⟨bk, o', e, _, hc⟩ := hrow.1.2 (Nat.lt_of_le_of_lt (Nat.zero_le _) (List.getElem?_eq_some_iff.1 hp).1)
      cases e
      rw [Addr.add_lit]
      exact hc j p hp
    · intro v' w' h1 h2 _
      refine h v' w' ?_ h2
      unfold Own
      rw [List.length_append, vals, List.map_append]
      exact h1

end Go.Proofs.YtpcdcmoapenbdaaDoor.N
