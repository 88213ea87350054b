/-
  names.Parent: the path ahead of the last part, and that part.
-/
import Derived.Test.YtipohdaofnhnpaaDoorNSplits
import Derived.Deep.RegionHeld3
namespace Go.Proofs.YtipohdaofnhnpaaDoor.N
open Go.ChangeShapes Go.WideShapes Go.ChangeAt Go.RowKit

def up (l : List UInt8) : List UInt8 := if ps l = [] then [] else joinOf (ps l).dropLast
def lastOf (l : List UInt8) : List UInt8 := (ps l).getLastD []
def pe (l : List UInt8) : Int := if ps l = [] then 3 else 0

/-- what Parent answers -/
def ParentPost (l : List UInt8) (w : World) (e : Ending) (w' : World) : Prop :=
  e = .returned (.tuple #[.string (bs (up l)), .string (bs (lastOf l)), .int .i64 (pe l)]) ∧ Below w.heap.size w w'

theorem parent_none {l : List UInt8} {w w' : World} (h : ps l = []) (hb : Below w.heap.size w w') : ParentPost l w (.returned (.tuple #[.string ⟨#[]⟩, .string ⟨#[]⟩, .int .i64 3])) w' := by
  refine ⟨?_, hb⟩
  simp only [up, lastOf, pe, h, if_true]
  rfl
theorem parent_some {l : List UInt8} {q : List (List UInt8)} {z : List UInt8} {w w' : World} (h : ps l = q ++ [z]) (hb : Below w.heap.size w w') :
    ParentPost l w (.returned (.tuple #[.string (bs (joinOf q)), .string (bs z), .int .i64 0])) w' := by
  refine ⟨?_, hb⟩
  have h0 : ¬ (q ++ [z] = []) := by simp
  simp only [up, lastOf, pe, h, if_neg h0, List.dropLast_concat]
  simp [List.getLastD_eq_getLast?]

theorem er_of {l : List UInt8} : er l = 0 ∨ er l = 3 := by unfold er; split <;> simp
theorem ps_of_er {l : List UInt8} (h : er l = 3) : ps l = [] := by
  unfold er at h
  split at h
  · cases h
  · rename_i hn
    unfold ps
    cases hp : partsOf l with
    | none => rfl
    | some q => rw [hp] at hn; exact absurd rfl hn

theorem Row.init {w : World} {a : Option Addr} {c : Nat} {q : List (List UInt8)} {z : List UInt8} (h : Row w a c (q ++ [z])) : Row w a c q := by
  have hl := h.1
  rw [List.length_append] at hl
  refine ⟨by omega, fun h0 => ?_⟩
  obtain ⟨bk, o, e, hb, hc⟩ := h.2 (by rw [List.length_append]; omega)
  refine ⟨bk, o, e, hb, fun j p hp => hc j p ?_⟩
  have hj := (List.getElem?_eq_some_iff.1 hp).1
  rw [List.getElem?_append_left hj]
  exact hp
theorem Row.last_ {w : World} {a : Option Addr} {c : Nat} {q : List (List UInt8)} {z : List UInt8} (h : Row w a c (q ++ [z])) :
    ∃ bk o, a = some ⟨bk, o, none⟩ ∧ bk < w.heap.size ∧ w.cell? ⟨bk, o + q.length, none⟩ = some (.string (bs z)) := by
  obtain ⟨bk, o, e, hb, hc⟩ := h.2 (by rw [List.length_append]; simp)
  exact ⟨bk, o, e, hb, hc q.length z (by simp)⟩

theorem old_cell {w w' : World} {p : Addr} {v : Value} (h : w.cell? p = some v) (hb : Below w.heap.size w w') : w'.cell? p = some v := (hb.cell (World.block_lt_of_cell? _ _ h)).trans h

theorem of_drew {w w' : World} (h : Below w.drew.heap.size w.drew w') : Below w.heap.size w w' := ⟨h.os, h.tape, h.output, h.size, h.block⟩

set_option maxHeartbeats 1000000 in
theorem parent_any (s : ByteArray) (w : World) (hs : s.size ≤ maxLen) (hg : Glob w) : Calls Tryd.prog 16 #[.string s] w (ParentPost s.data.toList w) := by
  have HC := Lib.hid (split_any s w hs hg)
  clear hg hs
  rcases er_of (l := s.data.toList) with he | he
  case inr =>
    have HP := Lib.hid (ps_of_er he)
    go_enter Tryd.func16, Tryd.ntmps16
    go_wp2_with (go_at_call 9; refine HC.out.mono ?_; rintro e w' ⟨a, c, rfl, hr, hb⟩; rw [he])
    all_goals exact bodyPost_ret (v := .tuple #[.string ⟨#[]⟩, .string ⟨#[]⟩, .int .i64 3]) (by simp [results, Tryd.results16, go_sem]) rfl (parent_none HP.out hb)
  rcases List.eq_nil_or_concat (ps s.data.toList) with hp | ⟨q, z, hp⟩
  · have HP := Lib.hid hp
    go_enter Tryd.func16, Tryd.ntmps16
    go_wp2_with (go_at_call 9; refine HC.out.mono ?_; rintro e w' ⟨a, c, rfl, hr, hb⟩; rw [he, HP.out])
    all_goals exact bodyPost_ret (v := .tuple #[.string ⟨#[]⟩, .string ⟨#[]⟩, .int .i64 3]) (by simp [results, Tryd.results16, go_sem]) rfl (parent_none HP.out hb)
  · rw [List.concat_eq_append] at hp
    have HP := Lib.hid hp
    have hlen : (q ++ [z]).length = q.length + 1 := by simp
    have h16 : q.length ≤ 16 := by have := ps_len s.data.toList; rw [hp, hlen] at this; omega
    have hfl : (flat q).length ≤ 100000000000 := by
      have := sum_le (qs := q) (fun p hq => ps_may s.data.toList p (by rw [hp]; exact List.mem_append_left _ hq))
      unfold flat; omega
    clear hp
    go_enter Tryd.func16, Tryd.ntmps16
    go_wp2_with (go_at_call 9; refine HC.out.mono ?_; rintro e w' ⟨a, c, rfl, hr, hb⟩; rw [HP.out] at hr; rw [he, HP.out, hlen]; obtain ⟨bk, o, rfl, hbk, hz⟩ := hr.last_; have hq := hr.init)
    have hc : q.length + 1 ≤ c := by have := hr.1; rw [hlen] at this; exact this
    have hq17 : q.length ≤ 100000000000 := by omega
    clear hr h16
    have i0 : (0 : Int) ≤ (q.length : Int) := Int.natCast_nonneg _
    have i1 : (q.length : Int) ≤ (c : Int) := by omega
    have i2 : (q.length : Int) < (q.length : Int) + 1 := by omega
    have i3 : (q.length : Int) < ((q.length + 1 : Nat) : Int) := by omega
    go_region_held3 (fun W => W.cell? ⟨bk, o + q.length, none⟩ = some (.string (bs z)) ∧ Row W (some ⟨bk, o, none⟩) c q ∧ Below w.heap.size w W)
      (first
        | exact ⟨hz, hq, hb⟩
        | exact ⟨hz, hq, hb.drew⟩
        | exact ⟨old_cell hz hb2, hq.below hb2, hb.trans (hb2.mono hb.size)⟩)
      (first
        | (go_at_call 18; refine (join_any _ _ q _ ?_ hq17 hfl).mono ?_; exact hq; rintro e w2 ⟨rfl, hb3⟩; have hb2 := of_drew hb3))
    go_wp2
    exact bodyPost_ret (v := .tuple #[.string (bs (joinOf q)), .string (bs z), .int .i64 0]) (by simp [results, Tryd.results16, go_sem]) rfl (parent_some HP.out (hb.trans (hb2.mono hb.size)))

end Go.Proofs.YtipohdaofnhnpaaDoor.N
