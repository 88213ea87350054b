/-
  names.Split: a path's parts, or none and an error.
-/
import Derived.Test.YtpcdcmoapenbdaaDoorNJoins
import Derived.Test.YtpcdcmoapenbdaaDoorShelf
namespace Go.Proofs.YtpcdcmoapenbdaaDoor.N
open Go.ChangeShapes Go.WideShapes Go.ChangeAt Go.RowKit

/-- the library's one variable holds some number -/
def Glob (w : World) : Prop := ∃ m, w.cell? ⟨0, 0, none⟩ = some (.int .i64 m)
theorem Glob.below {w w' : World} (h : Glob w) (hb : Below w.heap.size w w') : Glob w' := by
  obtain ⟨m, hm⟩ := h
  exact ⟨m, (hb.cell (World.block_lt_of_cell? _ _ hm)).trans hm⟩
theorem Glob.drewN {w : World} (h : Glob w) (n : Nat) : Glob (w.drewN n) := h

theorem glob_of {w : World} (h : w.ShapedOpen Tryd.prog) : Glob w := Tryd.laysM138.s1_3 w h

theorem list_back {xs : List ByteArray} {qs : List (List UInt8)} (h : xs.map (·.data.toList) = qs) : xs = qs.map bs := by
  rw [← h, List.map_map]
  conv => lhs; rw [← List.map_id xs]
  exact List.map_congr_left fun x _ => (bs_of x).symm

theorem cut_le (l : List UInt8) : (cut l).length ≤ l.length + 1 := by
  induction l with
  | nil => simp [cut]
  | cons b r ih =>
    unfold cut
    split
    · simpa using ih
    · simp only [List.length_cons, List.length_tail]
      omega

theorem strSplit_any (s : ByteArray) (w : World) (hs : s.size < 4294967281) (hg : Glob w) :
    Calls Tryd.prog 73 #[.string s, .string ⟨#[62]⟩] w fun e w' =>
      e = .returned (.slice (some ⟨w.heap.size, 0, none⟩) (cut s.data.toList).length (cut s.data.toList).length) ∧ Row w' (some ⟨w.heap.size, 0, none⟩) (cut s.data.toList).length (cut s.data.toList) ∧ Below w.heap.size w w' := by
  obtain ⟨m, hm⟩ := hg
  have hn : Lib.countB s ⟨#[62]⟩ + 1 = (cut s.data.toList).length := (cut_len s.data.toList).symm
  have hx : Lib.splitB ⟨#[62]⟩ 0 (Lib.countB s ⟨#[62]⟩) s = (cut s.data.toList).map bs :=
    list_back ((Lib.splitB_data ⟨#[62]⟩ 0 (Lib.countB s ⟨#[62]⟩) s).trans (split_cut s.data.toList))
  refine (Tryd.strings_Split s ⟨#[62]⟩ m w hs hm (by decide)).mono fun e w' ⟨he, hw⟩ => ?_
  rw [hx] at hw
  subst hw
  refine ⟨by rw [he, hn], ⟨Nat.le_refl _, fun _ => ⟨w.heap.size, 0, rfl, by simp, fun j p hp => ?_⟩⟩, (Below.refl _ _).alloc (Nat.le_refl _) _⟩
  rw [cell_of_row _ _ _ _ _ _ (heap_alloc_new w _)]
  rw [List.getElem?_toArray, Nat.zero_add, List.map_map, List.getElem?_map, hp]
  rfl

theorem ps_none {l : List UInt8} (h : partsOf l = none) : ps l = [] ∧ er l = 3 := by simp [ps, er, h]
theorem ps_some {l : List UInt8} {q : List (List UInt8)} (h : partsOf l = some q) : ps l = q ∧ er l = 0 := by simp [ps, er, h]

/-- what Split answers -/
def SplitPost (l : List UInt8) (w : World) (e : Ending) (w' : World) : Prop :=
  ∃ a c, e = .returned (.tuple #[.slice a (ps l).length c, .int .i64 (er l)]) ∧ Row w' a c (ps l) ∧ Below w.heap.size w w'

theorem post_none {l : List UInt8} {w w' : World} (h : partsOf l = none) (hb : Below w.heap.size w w') : SplitPost l w (.returned (.tuple #[.slice none 0 0, .int .i64 3])) w' := by
  obtain ⟨h1, h2⟩ := ps_none h
  exact ⟨none, 0, by rw [h1, h2]; rfl, by rw [h1]; exact Row.nil _ _ _, hb⟩
theorem post_root {l : List UInt8} {w w' : World} (h : partsOf l = some []) (hb : Below w.heap.size w w') : SplitPost l w (.returned (.tuple #[.slice none 0 0, .int .i64 0])) w' := by
  obtain ⟨h1, h2⟩ := ps_some h
  exact ⟨none, 0, by rw [h1, h2]; rfl, by rw [h1]; exact Row.nil _ _ _, hb⟩
theorem post_some {l : List UInt8} {q : List (List UInt8)} {w w' : World} {a : Option Addr} {c : Nat} (h : partsOf l = some q) (hr : Row w' a c q) (hb : Below w.heap.size w w') :
    SplitPost l w (.returned (.tuple #[.slice a q.length c, .int .i64 0])) w' := by
  obtain ⟨h1, h2⟩ := ps_some h
  exact ⟨a, c, by rw [h1, h2], by rw [h1]; exact hr, hb⟩

theorem parts_long {l : List UInt8} (h : 168 < l.length) : partsOf l = none := by rw [partsOf, if_pos (Or.inl h)]
theorem head_iff (l : List UInt8) : Lib.hasPrefix l [62] = true ↔ l.head? = some 62 := by
  cases l with
  | nil => simp [Lib.hasPrefix, List.isPrefixOf]
  | cons b r =>
    constructor
    · intro h
      have h' : (62 : UInt8) = b := by simpa [Lib.hasPrefix, List.isPrefixOf] using h
      rw [← h']; rfl
    · intro h
      injection h with h
      subst h
      rfl
theorem parts_head {l : List UInt8} (h : Lib.hasPrefix l [62] = false) : partsOf l = none := by
  rw [partsOf, if_pos (Or.inr (fun e => by rw [(head_iff l).2 e] at h; cases h))]
theorem parts_root : partsOf [62] = some [] := rfl
theorem parts_rest {l : List UInt8} (h1 : l.length ≤ 168) (h2 : Lib.hasPrefix l [62] = true) (h3 : ¬ l = [62]) :
    partsOf l = if 16 < (cut l.tail).length ∨ (cut l.tail).all (may 32) = false then none else some (cut l.tail) := by
  rw [partsOf, if_neg (by rw [(head_iff l).1 h2]; simp; omega), if_neg h3]

theorem tail_of (s : ByteArray) (h : 1 ≤ s.size) : (s.extract 1 s.size).data.toList = s.data.toList.tail := by
  rw [Lib.extract_data]
  cases hs : s.data.toList with
  | nil => have := size_len s; rw [hs] at this; simp at this; omega
  | cons b r =>
    have := size_len s
    rw [hs] at this
    simp only [List.length_cons] at this
    simp [← this]

theorem cut_each (l : List UInt8) : ∀ p ∈ cut l, p.length ≤ l.length := by
  intro p hp
  have h1 := join_cut l
  rw [joinOf, if_neg (cut_ne l)] at h1
  have h2 : (62 :: p).length ≤ ((cut l).flatMap (62 :: ·)).length := by
    have : ∀ (qs : List (List UInt8)), p ∈ qs → (62 :: p).length ≤ (qs.flatMap (62 :: ·)).length := by
      intro qs
      induction qs with
      | nil => intro h; cases h
      | cons q t ih =>
        intro h
        rw [List.flatMap_cons, List.length_append]
        rcases List.mem_cons.1 h with rfl | h
        · omega
        · have := ih h; omega
    exact this _ hp
  rw [h1] at h2
  simpa using h2

set_option maxHeartbeats 1000000 in
theorem split_any (s : ByteArray) (w : World) (hs : s.size ≤ maxLen) (hg : Glob w) : Calls Tryd.prog 57 #[.string s] w (SplitPost s.data.toList w) := by
  unfold maxLen at hs
  have HG := Lib.hid hg
  clear hg
  by_cases h1 : 168 < s.size
  · have HP := Lib.hid (parts_long (l := s.data.toList) (by rw [size_len]; exact h1))
    go_enter Tryd.func57, Tryd.ntmps57
    go_wp2
    all_goals exact bodyPost_ret (v := .tuple #[.slice none 0 0, .int .i64 3]) (by simp [results, Tryd.results57, go_sem]) rfl (post_none HP.out (Below.refl _ _))
  cases h2 : Lib.hasPrefix s.data.toList [62] with
  | false =>
    have HP := Lib.hid (parts_head h2)
    go_enter Tryd.func57, Tryd.ntmps57
    go_wp2_with (go_at_call 72; refine (Tryd.strings_HasPrefix _ _ _).mono ?_; rintro e w' ⟨rfl, rfl⟩)
    all_goals exact bodyPost_ret (v := .tuple #[.slice none 0 0, .int .i64 3]) (by simp [results, Tryd.results57, go_sem]) rfl (post_none HP.out (Below.refl _ _))
  | true =>
    by_cases h3 : s.data.toList = [62]
    · obtain rfl : s = ⟨#[62]⟩ := bytes_inj h3
      clear h3 h2
      go_enter Tryd.func57, Tryd.ntmps57
      go_wp2_with (go_at_call 72; refine (Tryd.strings_HasPrefix _ _ _).mono ?_; rintro e w' ⟨rfl, rfl⟩)
      all_goals exact bodyPost_ret (v := .tuple #[.slice none 0 0, .int .i64 0]) (by simp [results, Tryd.results57, go_sem]) rfl (post_root parts_root (Below.refl _ _))
    · have h0 : 1 ≤ s.size := by
        rcases Nat.eq_zero_or_pos s.size with h | h
        · have hl := size_len s
          rw [h] at hl
          rw [List.eq_nil_of_length_eq_zero hl] at h2
          cases h2
        · exact h
      have HP := Lib.hid (parts_rest (l := s.data.toList) (by rw [size_len]; omega) h2 h3)
      have e3 : (s.toList == [62]) = false := by rw [Lib.toList_data]; exact beq_eq_false_iff_ne.2 h3
      have HT := Lib.hid (tail_of s h0)
      have hsz : (s.extract 1 s.size).size < 4294967281 := by rw [← size_len, HT.out, List.length_tail, size_len]; omega
      have HC := Lib.hid (cut_le s.data.toList.tail)
      have HE := Lib.hid (cut_each s.data.toList.tail)
      have HL : Hid (s.data.toList.tail.length ≤ 168) := Lib.hid (by rw [List.length_tail, size_len]; omega)
      have hlen : (cut s.data.toList.tail).length ≤ 1000000 := by have := HC.out; have := HL.out; omega
      have HE' : Hid (∀ p ∈ cut s.data.toList.tail, p.length ≤ 1000000) := Lib.hid (fun p hp => by have := HE.out p hp; have := HL.out; omega)
      clear h3 HE HC HL
      by_cases h16 : 16 < (cut s.data.toList.tail).length
      · have HN := Lib.hid (HP.out.trans (if_pos (Or.inl h16)))
        go_enter Tryd.func57, Tryd.ntmps57
        go_wp2_with (first
          | (go_at_call 72; refine (Tryd.strings_HasPrefix _ _ _).mono ?_; rintro e w' ⟨rfl, rfl⟩)
          | (go_at_call 73; refine (strSplit_any _ _ hsz HG.out).mono ?_; rw [HT.out]; rintro e w' ⟨rfl, hr, hb⟩))
        all_goals exact bodyPost_ret (v := .tuple #[.slice none 0 0, .int .i64 3]) (by simp [results, Tryd.results57, go_sem]) rfl (post_none HN.out hb)
      cases ha : (cut s.data.toList.tail).all (may 32) with
      | false =>
        have HN := Lib.hid (HP.out.trans (if_pos (Or.inr ha)))
        go_enter Tryd.func57, Tryd.ntmps57
        go_wp2_with (first
          | (go_at_call 72; refine (Tryd.strings_HasPrefix _ _ _).mono ?_; rintro e w' ⟨rfl, rfl⟩)
          | (go_at_call 73; refine (strSplit_any _ _ hsz HG.out).mono ?_; rw [HT.out]; rintro e w' ⟨rfl, hr, hb⟩)
          | (go_at_call 74; refine (allMay_any _ _ _ _ hr hlen HE'.out).mono ?_; rintro e w' ⟨rfl, n, rfl⟩))
        all_goals exact bodyPost_ret (v := .tuple #[.slice none 0 0, .int .i64 3]) (by simp [results, Tryd.results57, go_sem]) rfl (post_none HN.out (hb.trans ((below_drewN _ n).mono hb.size)))
      | true =>
        have HN := Lib.hid (HP.out.trans (if_neg (by rw [ha]; simp; omega)))
        go_enter Tryd.func57, Tryd.ntmps57
        go_wp2_with (first
          | (go_at_call 72; refine (Tryd.strings_HasPrefix _ _ _).mono ?_; rintro e w' ⟨rfl, rfl⟩)
          | (go_at_call 73; refine (strSplit_any _ _ hsz HG.out).mono ?_; rw [HT.out]; rintro e w' ⟨rfl, hr, hb⟩)
          | (go_at_call 74; refine (allMay_any _ _ _ _ hr hlen HE'.out).mono ?_; rintro e w' ⟨rfl, n, rfl⟩))
        exact bodyPost_ret (v := .tuple #[_, .int .i64 0]) (by simp [results, Tryd.results57, go_sem]) rfl (post_some HN.out (hr.drewN n) (hb.trans ((below_drewN _ n).mono hb.size)))

end Go.Proofs.YtpcdcmoapenbdaaDoor.N
