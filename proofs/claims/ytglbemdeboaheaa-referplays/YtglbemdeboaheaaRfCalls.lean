/-
  What the functions of package refer answer that look or change one name: isRing, isSeg, Find, Len, Bind, Drop, New.
-/
import Derived.Test.YtglbemdeboaheaaRfHeap
import Derived.Test.YtglbemdeboaheaaNCalls
import Derived.Deep.QuietTactic
namespace Go.Proofs.Ytglbemdeboaheaa.Rf
open Go.ChangeShapes Go.WideShapes Go.ChangeAt Go.RowKit
open Go.Proofs.Ytglbemdeboaheaa.N (bs bs_data bs_size bs_inj may retB)

def ringB (r : Int) : Bool := decide (0 ≤ r) && decide (r ≤ 7)
def segB (s : Int) : Bool := decide (1 ≤ s) && decide (s ≤ 63)
theorem ringB_yes {r : Int} (h0 : 0 ≤ r) (h1 : r ≤ 7) : ringB r = true := by simp [ringB, h0, h1]
theorem ringB_no {r : Int} (h : ¬ (0 ≤ r ∧ r ≤ 7)) : ringB r = false := by
  unfold ringB
  by_cases h0 : 0 ≤ r
  · have : ¬ r ≤ 7 := fun h1 => h ⟨h0, h1⟩
    simp [this]
  · simp [h0]
theorem segB_yes {r : Int} (h0 : 1 ≤ r) (h1 : r ≤ 63) : segB r = true := by simp [segB, h0, h1]
theorem segB_no {r : Int} (h : ¬ (1 ≤ r ∧ r ≤ 63)) : segB r = false := by
  unfold segB
  by_cases h0 : 1 ≤ r
  · have : ¬ r ≤ 63 := fun h1 => h ⟨h0, h1⟩
    simp [this]
  · simp [h0]

theorem isRing_any (r : Int) (w : World) : Calls Try.prog 17 #[.int .i64 r] w fun e w' => e = .returned (.bool (ringB r)) ∧ w = w' := by
  by_cases h0 : 0 ≤ r
  · by_cases h1 : r ≤ 7
    · have e0 : decide (r ≥ 0) = true := by simpa using h0
      have e1 : decide (r < 8) = true := by simp; omega
      have E := Lib.hid (ringB_yes h0 h1)
      clear h0 h1
      go_enter Try.func17, Try.ntmps17
      go_wp2
      go_ret
      exact ⟨retB E.out.symm, rfl⟩
    · have e0 : decide (r ≥ 0) = true := by simpa using h0
      have e1 : decide (r < 8) = false := by simp; omega
      have E := Lib.hid (ringB_no (r := r) (fun h => h1 h.2))
      clear h0 h1
      go_enter Try.func17, Try.ntmps17
      go_wp2
      go_ret
      exact ⟨retB E.out.symm, rfl⟩
  · have e0 : decide (r ≥ 0) = false := by simp; omega
    have E := Lib.hid (ringB_no (r := r) (fun h => h0 h.1))
    clear h0
    go_enter Try.func17, Try.ntmps17
    go_wp2
    go_ret
    exact ⟨retB E.out.symm, rfl⟩

theorem isSeg_any (r : Int) (w : World) : Calls Try.prog 18 #[.int .i64 r] w fun e w' => e = .returned (.bool (segB r)) ∧ w = w' := by
  by_cases h0 : 1 ≤ r
  · by_cases h1 : r ≤ 63
    · have e0 : decide (r ≥ 1) = true := by simpa using h0
      have e1 : decide (r ≤ 63) = true := by simpa using h1
      have E := Lib.hid (segB_yes h0 h1)
      clear h0 h1
      go_enter Try.func18, Try.ntmps18
      go_wp2
      go_ret
      exact ⟨retB E.out.symm, rfl⟩
    · have e0 : decide (r ≥ 1) = true := by simpa using h0
      have e1 : decide (r ≤ 63) = false := by simpa using h1
      have E := Lib.hid (segB_no (r := r) (fun h => h1 h.2))
      clear h0 h1
      go_enter Try.func18, Try.ntmps18
      go_wp2
      go_ret
      exact ⟨retB E.out.symm, rfl⟩
  · have e0 : decide (r ≥ 1) = false := by simp; omega
    have E := Lib.hid (segB_no (r := r) (fun h => h0 h.1))
    clear h0
    go_enter Try.func18, Try.ntmps18
    go_wp2
    go_ret
    exact ⟨retB E.out.symm, rfl⟩

theorem new_any (w : World) : Calls Try.prog 8 #[] w fun e w' => e = .returned (RP w.heap.size) ∧ w' = w.alloc (RO none) := by
  go_enter Try.func8, Try.ntmps8
  go_wp2
  go_ret
  exact ⟨rfl, rfl⟩
theorem new_at (w : World) : RfAt (w.alloc (RO none)) w.heap.size (fun i => i = w.heap.size) 0 [] :=
  ⟨none, heap_alloc_new w _, rfl, fun i hi => (by rw [hi]; simp), fun _ => rfl, fun _ e => (by cases e), fun _ e => (by cases e), Good.nil⟩

section
variable {w : World} {b : Nat} {F : Nat → Prop} {c : Nat} {L : List E} {mp : Option Nat}

theorem find_any (h : RfAt w b F c L) {r : Int} {n : Txt} (hk : ok r n) :
    Calls Try.prog 13 #[RP b, .int .i64 r, .string (bs n)] w fun e w' => e = .returned (.tuple #[.int .i64 ((get L r n).getD 0), .bool (get L r n).isSome]) ∧ w = w' := by
  obtain ⟨mp, h⟩ := h
  have hl := h.look hk
  have c0 := h.cell
  clear h
  generalize (get L r n).getD 0 = s at hl ⊢
  generalize (get L r n).isSome = y at hl ⊢
  go_enter Try.func13, Try.ntmps13
  go_wp2
  exact bodyPost_ret (v := .tuple #[.int .i64 s, .bool y]) (by simp [results, Try.results13]) rfl ⟨rfl, rfl⟩
theorem find_yes (h : RfAt w b F c L) {r : Int} {n : Txt} (hk : ok r n) {s : Int} (hs : get L r n = some s) :
    Calls Try.prog 13 #[RP b, .int .i64 r, .string (bs n)] w fun e w' => e = .returned (.tuple #[.int .i64 s, .bool true]) ∧ w = w' := by
  have := find_any h hk
  rw [hs] at this
  exact this
theorem find_no (h : RfAt w b F c L) {r : Int} {n : Txt} (hk : ok r n) (hs : get L r n = none) :
    Calls Try.prog 13 #[RP b, .int .i64 r, .string (bs n)] w fun e w' => e = .returned (.tuple #[.int .i64 0, .bool false]) ∧ w = w' := by
  have := find_any h hk
  rw [hs] at this
  exact this

theorem len_any (h : RfAt w b F c L) {k : Int} (hk : (L.length : Int) = k) : Calls Try.prog 15 #[RP b] w fun e w' => e = .returned (.int .i64 k) ∧ w = w' := by
  obtain ⟨mp, h⟩ := h
  have hl := h.len
  rw [hk] at hl
  have c0 := h.cell
  clear h hk
  go_enter Try.func15, Try.ntmps15
  go_wp2
  go_ret
  exact ⟨rfl, rfl⟩

/-! ### Bind -/

theorem bind_arg {r s : Int} (n : Txt) (hr : ¬ (0 ≤ r ∧ r ≤ 7) ∨ ¬ (1 ≤ s ∧ s ≤ 63)) (w : World) :
    Calls Try.prog 10 #[RP b, .int .i64 r, .string (bs n), .int .i64 s] w fun e w' => e = .returned (.int .i64 1) ∧ w = w' := by
  have A := fun w => isRing_any r w
  have B := fun w => isSeg_any s w
  by_cases h0 : 0 ≤ r ∧ r ≤ 7
  · have h1 : ¬ (1 ≤ s ∧ s ≤ 63) := hr.elim (fun h => absurd h0 h) id
    rw [ringB_yes h0.1 h0.2] at A
    rw [segB_no h1] at B
    clear h0 h1 hr
    go_enter Try.func10, Try.ntmps10
    go_wp2_with (first
      | (go_at_call 17; ((with_reducible refine (A _).mono ?_); rintro e w1 ⟨rfl, rfl⟩))
      | (go_at_call 18; ((with_reducible refine (B _).mono ?_); rintro e w1 ⟨rfl, rfl⟩)))
    go_ret
    exact ⟨rfl, rfl⟩
  · rw [ringB_no h0] at A
    clear h0 hr
    go_enter Try.func10, Try.ntmps10
    go_wp2_with (first
      | (go_at_call 17; ((with_reducible refine (A _).mono ?_); rintro e w1 ⟨rfl, rfl⟩)))
    go_ret
    exact ⟨rfl, rfl⟩

theorem bind_name {r s : Int} {n : Txt} (hr : 0 ≤ r ∧ r ≤ 7) (hs : 1 ≤ s ∧ s ≤ 63) (hl : n.length ≤ maxLen) (hn : may 32 n = false) (w : World) :
    Calls Try.prog 10 #[RP b, .int .i64 r, .string (bs n), .int .i64 s] w fun e w' => e = .returned (.int .i64 3) ∧ ∃ k, w' = w.drewN k := by
  have A := fun w => isRing_any r w
  have B := fun w => isSeg_any s w
  have M := fun w => N.may_any (bs n) w (by rw [bs_size]; exact hl)
  rw [ringB_yes hr.1 hr.2] at A
  rw [segB_yes hs.1 hs.2] at B
  rw [bs_data, hn] at M
  clear hr hs hn hl
  go_enter Try.func10, Try.ntmps10
  go_wp2_with (first
    | (go_at_call 17; ((with_reducible refine (A _).mono ?_); rintro e w1 ⟨rfl, rfl⟩))
    | (go_at_call 18; ((with_reducible refine (B _).mono ?_); rintro e w1 ⟨rfl, rfl⟩))
    | (go_at_call 19; ((with_reducible refine (M _).mono ?_); rintro e w1 ⟨rfl, k, rfl⟩)))
  go_ret
  exact ⟨rfl, _, rfl⟩

theorem RfAt.drewN (h : RfAt w b F c L) (k : Nat) : RfAt (w.drewN k) b F c L := h.keep (Nat.le_refl _) (fun _ _ => rfl)
theorem RfL.drewN (h : RfL w b F c L mp) (k : Nat) : RfL (w.drewN k) b F c L mp := h.keep (Nat.le_refl _) (fun _ _ => rfl)

theorem bind_there (h : RfAt w b F c L) {r s : Int} {n : Txt} (hr : 0 ≤ r ∧ r ≤ 7) (hs : 1 ≤ s ∧ s ≤ 63) (hl : n.length ≤ maxLen) (hn : may 32 n = true) {s0 : Int} (hg : get L r n = some s0) (hne : s0 ≠ s) :
    Calls Try.prog 10 #[RP b, .int .i64 r, .string (bs n), .int .i64 s] w fun e w' => e = .returned (.int .i64 5) ∧ ∃ k, w' = w.drewN k := by
  have A := fun w => isRing_any r w
  have B := fun w => isSeg_any s w
  have M := fun w => N.may_any (bs n) w (by rw [bs_size]; exact hl)
  have D := fun k => find_yes (h.drewN k) (r := r) (n := n) ⟨by unfold rng; omega, hl⟩ hg
  rw [ringB_yes hr.1 hr.2] at A
  rw [segB_yes hs.1 hs.2] at B
  rw [bs_data, hn] at M
  have e0 : (s0 != s) = true := by simpa using hne
  clear hr hs hn hl hg hne h
  go_enter Try.func10, Try.ntmps10
  go_wp2_with (first
    | (go_at_call 17; ((with_reducible refine (A _).mono ?_); rintro e w1 ⟨rfl, rfl⟩))
    | (go_at_call 18; ((with_reducible refine (B _).mono ?_); rintro e w1 ⟨rfl, rfl⟩))
    | (go_at_call 19; ((with_reducible refine (M _).mono ?_); rintro e w1 ⟨rfl, k, rfl⟩))
    | (go_at_call 13; ((with_reducible refine (D _).mono ?_); rintro e w1 ⟨rfl, rfl⟩)))
  go_ret
  exact ⟨rfl, _, rfl⟩

/-- the names with one bound -/
def bound (L : List E) (x : E) : List E := if (get L x.ring x.name).isSome then L else L ++ [x]
theorem bound_new {x : E} (h : get L x.ring x.name = none) : bound L x = L ++ [x] := by simp [bound, h]
theorem bound_old {x : E} {s : Int} (h : get L x.ring x.name = some s) : bound L x = L := by simp [bound, h]

theorem RfL.put {mb : Nat} (h : RfL w b F c L (some mb)) {x : E} (hk : ok x.ring x.name) (hx : get L x.ring x.name = none ∨ get L x.ring x.name = some x.seg) (hc : c < maxLen) :
    ∃ w', (Instr.mapUpdate 44 (.map (some mb)) (KV x.ring x.name) (.int .i64 x.seg)).run Try.prog w = .ok () w' ∧ RfL w' b F (c + 1) (bound L x) (some mb) ∧ Went F w F w' := by
  obtain ⟨w', hrun, hm, hg⟩ := (h.some_ mb rfl).put h.good hk hc
  refine ⟨w', hrun, ?_, Went.grown hg (h.inM mb rfl)⟩
  rcases hx with hx | hx
  · rw [bound_new hx]
    rw [del_none hx] at hm
    exact h.turn hg hm (h.good.snoc hk hx)
  · rw [bound_old hx]
    exact h.turn hg (hm.perm (perm_del h.good (get_some hx))) h.good

set_option maxHeartbeats 1000000 in
theorem bind_ok (h : RfAt w b F c L) {r s : Int} {n : Txt} (hr : 0 ≤ r ∧ r ≤ 7) (hs : 1 ≤ s ∧ s ≤ 63) (hl : n.length ≤ maxLen) (hn : may 32 n = true) (hg : get L r n = none ∨ get L r n = some s) (hc : c < maxLen) :
    Calls Try.prog 10 #[RP b, .int .i64 r, .string (bs n), .int .i64 s] w fun e w' => e = .returned (.int .i64 0) ∧ ∃ F', Went F w F' w' ∧ RfAt w' b F' (c + 1) (bound L ⟨r, n, s⟩) := by
  have A := fun w => isRing_any r w
  have B := fun w => isSeg_any s w
  have M := fun w => N.may_any (bs n) w (by rw [bs_size]; exact hl)
  have hk : ok r n := ⟨by unfold rng; omega, hl⟩
  have D := fun k => find_any (h.drewN k) (r := r) (n := n) hk
  have e0 : Hid ((get L r n).isSome = true → ((get L r n).getD 0 != s) = false) := Lib.hid (fun e => by
    rcases hg with hg | hg <;> rw [hg] at e ⊢
    · cases e
    · simp)
  rw [ringB_yes hr.1 hr.2] at A
  rw [segB_yes hs.1 hs.2] at B
  rw [bs_data, hn] at M
  obtain ⟨mp, h⟩ := h
  have hm0 := map_nil
  have hm1 := map_made
  have hmm := @run_makeMap Try.prog
  cases mp with
  | some mb =>
    have P := Lib.hid (fun k => (h.drewN k).put (x := ⟨r, n, s⟩) hk hg hc)
    have c0 := h.cell
    clear hr hs hn hl hg h
    generalize hy : (get L r n).isSome = y at D e0
    generalize hz : (get L r n).getD 0 = z at D e0
    clear hy hz
    cases y with
    | true =>
      have e1 := e0.out rfl
      go_enter Try.func10, Try.ntmps10
      go_wp2_with (first
        | (go_at_call 17; ((with_reducible refine (A _).mono ?_); rintro e w1 ⟨rfl, rfl⟩))
        | (go_at_call 18; ((with_reducible refine (B _).mono ?_); rintro e w1 ⟨rfl, rfl⟩))
        | (go_at_call 19; ((with_reducible refine (M _).mono ?_); rintro e w1 ⟨rfl, k, rfl⟩; obtain ⟨w2, p1, p2, p3⟩ := P.out k; have P2 := Lib.hid p2; have P3 := Lib.hid p3; clear p2 p3))
        | (go_at_call 13; ((with_reducible refine (D _).mono ?_); rintro e w1 ⟨rfl, rfl⟩)))
      go_ret
      exact ⟨rfl, F, ⟨P3.out.os, P3.out.tape, P3.out.output, P3.out.size, P3.out.block, fun _ h => Or.inl h⟩, _, P2.out⟩
    | false =>
      clear e0
      go_enter Try.func10, Try.ntmps10
      go_wp2_with (first
        | (go_at_call 17; ((with_reducible refine (A _).mono ?_); rintro e w1 ⟨rfl, rfl⟩))
        | (go_at_call 18; ((with_reducible refine (B _).mono ?_); rintro e w1 ⟨rfl, rfl⟩))
        | (go_at_call 19; ((with_reducible refine (M _).mono ?_); rintro e w1 ⟨rfl, k, rfl⟩; obtain ⟨w2, p1, p2, p3⟩ := P.out k; have P2 := Lib.hid p2; have P3 := Lib.hid p3; clear p2 p3))
        | (go_at_call 13; ((with_reducible refine (D _).mono ?_); rintro e w1 ⟨rfl, rfl⟩)))
      go_ret
      exact ⟨rfl, F, ⟨P3.out.os, P3.out.tape, P3.out.output, P3.out.size, P3.out.block, fun _ h => Or.inl h⟩, _, P2.out⟩
  | none =>
    have hL := h.none_ rfl
    subst hL
    clear D
    have D := fun k => find_no (L := []) (F := F) (c := c) ⟨none, h.drewN k⟩ hk rfl
    have P : Hid (∀ k : Nat, ∃ w', (Instr.mapUpdate 44 (.map (some w.heap.size)) (KV r n) (.int .i64 s)).run Try.prog (((w.drewN k).alloc (.map #[] 0)).setCell ⟨b, 0, none⟩ (.map (some w.heap.size))) = .ok () w' ∧ RfL w' b (fun i => F i ∨ i = w.heap.size) (c + 1) (bound [] ⟨r, n, s⟩) (some w.heap.size) ∧ Went (fun i => F i ∨ i = w.heap.size) (((w.drewN k).alloc (.map #[] 0)).setCell ⟨b, 0, none⟩ (.map (some w.heap.size))) (fun i => F i ∨ i = w.heap.size) w') :=
      Lib.hid (fun k => (h.drewN k).made.put (x := ⟨r, n, s⟩) hk hg hc)
    have W := Lib.hid (fun k => (h.drewN k).went)
    have c0 := h.cell
    have N := fun k => (h.drewN k).keep (w' := (w.drewN k).alloc (.map #[] 0)) (by simp) (fun i hi => heap_alloc_old _ _ (h.ltF i hi))
    have N1 := fun k => (N k).cell
    have N2 := fun k => (N k).fz 0
    clear N
    clear hr hs hn hl hg h e0
    go_enter Try.func10, Try.ntmps10
    go_wp2_with (first
      | (go_at_call 17; ((with_reducible refine (A _).mono ?_); rintro e w1 ⟨rfl, rfl⟩))
      | (go_at_call 18; ((with_reducible refine (B _).mono ?_); rintro e w1 ⟨rfl, rfl⟩))
      | (go_at_call 19; ((with_reducible refine (M _).mono ?_); rintro e w1 ⟨rfl, k, rfl⟩; obtain ⟨w2, p1, p2, p3⟩ := P.out k; have P2 := Lib.hid p2; have P3 := Lib.hid ((W.out k).trans p3); clear p2 p3))
      | (go_at_call 13; ((with_reducible refine (D _).mono ?_); rintro e w1 ⟨rfl, rfl⟩)))
    go_ret
    exact ⟨rfl, _, ⟨P3.out.os, P3.out.tape, P3.out.output, P3.out.size, P3.out.block, P3.out.foot⟩, _, P2.out⟩

/-! ### Drop -/

theorem drop_no (h : RfAt w b F c L) {r : Int} {n : Txt} (hk : ok r n) (hg : get L r n = none) :
    Calls Try.prog 11 #[RP b, .int .i64 r, .string (bs n)] w fun e w' => e = .returned (.tuple #[.int .i64 0, .int .i64 4]) ∧ w = w' := by
  have D := find_no h hk hg
  clear h hk hg
  go_enter Try.func11, Try.ntmps11
  go_wp2_with (go_at_call 13; ((with_reducible refine D.mono ?_); rintro e w1 ⟨rfl, rfl⟩))
  refine bodyPost_ret (v := .tuple #[.int .i64 0, .int .i64 4]) ?_ ?_ ⟨rfl, rfl⟩
  · simp [results, Try.results11]
  · rfl

theorem drop_yes (h : RfAt w b F c L) {r : Int} {n : Txt} (hk : ok r n) {s : Int} (hg : get L r n = some s) :
    Calls Try.prog 11 #[RP b, .int .i64 r, .string (bs n)] w fun e w' => e = .returned (.tuple #[.int .i64 s, .int .i64 0]) ∧ Went F w F w' ∧ RfAt w' b F c (del L r n) := by
  have D := find_yes h hk hg
  obtain ⟨mp, h⟩ := h
  cases mp with
  | none =>
    rw [h.none_ rfl] at hg
    cases hg
  | some mb =>
    obtain ⟨w2, p1, p2, p3⟩ := (h.some_ mb rfl).drop h.good hk 0
    have P2 := Lib.hid p2
    have P3 := Lib.hid p3
    clear p2 p3
    have HL := Lib.hid h
    have c0 := h.cell
    clear h hk hg
    go_enter Try.func11, Try.ntmps11
    go_wp2_with (go_at_call 13; ((with_reducible refine D.mono ?_); rintro e w1 ⟨rfl, rfl⟩))
    exact bodyPost_ret (v := .tuple #[.int .i64 s, .int .i64 0]) (by simp [results, Try.results11]) rfl ⟨rfl, Went.grown P3.out (HL.out.inM mb rfl), _, HL.out.turn P3.out P2.out (HL.out.good.del _ _)⟩

end

end Go.Proofs.Ytglbemdeboaheaa.Rf
