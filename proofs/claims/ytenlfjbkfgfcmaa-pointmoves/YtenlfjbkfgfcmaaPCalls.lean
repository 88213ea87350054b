/-
  What each function of package point returns at any arguments: one contract a function and a way. Conditions: the numbers of a pointer lie within int.
-/
import Derived.Test.YtenlfjbkfgfcmaaAwake
import Derived.Test.YtenlfjbkfgfcmaaPMath
import Derived.Below
namespace Go.Proofs.Ytenlfjbkfgfcmaa.W
open Go.ChangeShapes Go.WideShapes Go.ChangeAt Go.RowKit

/-- a pointer as a value -/
@[reducible] def PT (s r t o : Int) : Value := .agg #[.int .i64 s, .int .i64 r, .int .i64 t, .int .i64 o]

theorem retR {s r r' t o : Int} (h : r = r') : Ending.returned (PT s r t o) = .returned (PT s r' t o) := by rw [h]
theorem retO {s r t o o' : Int} (h : o = o') : Ending.returned (PT s r t o) = .returned (PT s r t o') := by rw [h]

/-- a pointer in a block of its own -/
@[reducible] def PO (s r t o : Int) : Obj := .cells #[.int .i64 s, .int .i64 r, .int .i64 t, .int .i64 o] 23

theorem two_new (w : World) (a b : Obj) : Below w.heap.size w ((w.alloc a).alloc b) := ((Below.refl _ _).alloc (Nat.le_refl _) _).alloc (by simp) _

theorem raised {s r r' t o : Int} {w w' : World} (h : r' = r) (hw : w' = (w.alloc (PO s r' t o)).alloc (PO s r' t o)) :
    Ending.returned (PT s r' t o) = .returned (PT s r t o) ∧ w' = (w.alloc (PO s r t o)).alloc (PO s r t o) := by rw [← h]; exact ⟨rfl, hw⟩
theorem moved {s r t o o' : Int} {w w' : World} (h : o' = o) (hw : w' = (w.alloc (PO s r t o')).alloc (PO s r t o')) :
    Ending.returned (PT s r t o') = .returned (PT s r t o) ∧ w' = (w.alloc (PO s r t o)).alloc (PO s r t o) := by rw [← h]; exact ⟨rfl, hw⟩

theorem raise_exact (s r t o k : Int) (w : World) :
    Calls Try.prog 8 #[PT s r t o, .int .i64 k] w fun e w' => e = .returned (PT s (rv r k) t o) ∧ w' = (w.alloc (PO s (rv r k) t o)).alloc (PO s (rv r k) t o) := by
  go_enter Try.func8, Try.ntmps8
  go_wp2
  all_goals first
    | exact bodyPost_ret (v := PT s 0 t o) (by simp [results, Try.results8, go_sem]) rfl (raised (r' := 0) (by unfold rv; omega) rfl)
    | exact bodyPost_ret (v := PT s 7 t o) (by simp [results, Try.results8, go_sem]) rfl (raised (r' := 7) (by unfold rv; omega) rfl)
    | exact bodyPost_ret (v := PT s k t o) (by simp [results, Try.results8, go_sem]) rfl (raised (r' := k) (by unfold rv; omega) rfl)
    | exact bodyPost_ret (v := PT s r t o) (by simp [results, Try.results8, go_sem]) rfl (raised (r' := r) (by unfold rv; omega) rfl)

theorem raise_any (s r t o k : Int) (w : World) :
    Calls Try.prog 8 #[PT s r t o, .int .i64 k] w fun e w' => e = .returned (PT s (rv r k) t o) ∧ Below w.heap.size w w' :=
  (raise_exact s r t o k w).mono fun _ _ h => ⟨h.1, h.2 ▸ two_new _ _ _⟩

theorem rraise_exact (s r t o k : Int) (w : World) :
    Calls Try.prog 10 #[PT s r t o, .int .i64 k] w fun e w' => e = .returned (PT s (rv r k) t o) ∧ w' = (w.alloc (PO s (rv r k) t o)).alloc (PO s (rv r k) t o) := by
  go_enter Try.func10, Try.ntmps10
  go_wp2
  all_goals first
    | exact bodyPost_ret (v := PT s 0 t o) (by simp [results, Try.results10, go_sem]) rfl (raised (r' := 0) (by unfold rv; omega) rfl)
    | exact bodyPost_ret (v := PT s 7 t o) (by simp [results, Try.results10, go_sem]) rfl (raised (r' := 7) (by unfold rv; omega) rfl)
    | exact bodyPost_ret (v := PT s k t o) (by simp [results, Try.results10, go_sem]) rfl (raised (r' := k) (by unfold rv; omega) rfl)
    | exact bodyPost_ret (v := PT s r t o) (by simp [results, Try.results10, go_sem]) rfl (raised (r' := r) (by unfold rv; omega) rfl)

theorem rraise_any (s r t o k : Int) (w : World) :
    Calls Try.prog 10 #[PT s r t o, .int .i64 k] w fun e w' => e = .returned (PT s (rv r k) t o) ∧ Below w.heap.size w w' :=
  (rraise_exact s r t o k w).mono fun _ _ h => ⟨h.1, h.2 ▸ two_new _ _ _⟩

theorem mv_eq (x : Int) : bits .and .i64 (wrap64 x) 262143 = x % 262144 := by
  rw [mask18_any]; unfold wrap64; omega

theorem move_exact (s r t o k : Int) (w : World) :
    Calls Try.prog 9 #[PT s r t o, .int .i64 k] w fun e w' => e = .returned (PT s r t (mv o k)) ∧ w' = (w.alloc (PO s r t (mv o k))).alloc (PO s r t (mv o k)) := by
  go_enter Try.func9, Try.ntmps9
  go_wp2
  exact bodyPost_ret (v := PT s r t (bits .and .i64 (wrap64 (o + k)) 262143)) (by simp [results, Try.results9, go_sem]) rfl (moved (mv_eq _) rfl)

theorem move_any (s r t o k : Int) (w : World) :
    Calls Try.prog 9 #[PT s r t o, .int .i64 k] w fun e w' => e = .returned (PT s r t (mv o k)) ∧ Below w.heap.size w w' :=
  (move_exact s r t o k w).mono fun _ _ h => ⟨h.1, h.2 ▸ two_new _ _ _⟩

theorem fits12_yes (n : Int) (w : World) (h : inB n 4095 = true) : Calls Try.prog 15 #[.int .i64 n, .int .i64 12] w fun e w' => e = .returned (.bool true) ∧ w = w' := by
  obtain ⟨h0, h1⟩ := in_yes h
  have d : decide (n < 4096) = true := decide_eq_true (by omega)
  clear h h1
  go_enter Try.func15, Try.ntmps15
  go_wp2
  go_ret
  exact ⟨rfl, rfl⟩

theorem fits12_no (n : Int) (w : World) (h : inB n 4095 = false) : Calls Try.prog 15 #[.int .i64 n, .int .i64 12] w fun e w' => e = .returned (.bool false) ∧ w = w' := by
  have h0 := in_no h
  by_cases c : 0 ≤ n
  · have d : decide (n < 4096) = false := decide_eq_false (by omega)
    clear h h0
    go_enter Try.func15, Try.ntmps15
    go_wp2
    go_ret
    exact ⟨rfl, rfl⟩
  · have d : decide (0 ≤ n) = false := decide_eq_false c
    clear h h0 c
    go_enter Try.func15, Try.ntmps15
    go_wp2
    go_ret
    exact ⟨rfl, rfl⟩

theorem fits3_yes (n : Int) (w : World) (h : inB n 7 = true) : Calls Try.prog 15 #[.int .i64 n, .int .i64 3] w fun e w' => e = .returned (.bool true) ∧ w = w' := by
  obtain ⟨h0, h1⟩ := in_yes h
  have d : decide (n < 8) = true := decide_eq_true (by omega)
  clear h h1
  go_enter Try.func15, Try.ntmps15
  go_wp2
  go_ret
  exact ⟨rfl, rfl⟩

theorem fits3_no (n : Int) (w : World) (h : inB n 7 = false) : Calls Try.prog 15 #[.int .i64 n, .int .i64 3] w fun e w' => e = .returned (.bool false) ∧ w = w' := by
  have h0 := in_no h
  by_cases c : 0 ≤ n
  · have d : decide (n < 8) = false := decide_eq_false (by omega)
    clear h h0
    go_enter Try.func15, Try.ntmps15
    go_wp2
    go_ret
    exact ⟨rfl, rfl⟩
  · have d : decide (0 ≤ n) = false := decide_eq_false c
    clear h h0 c
    go_enter Try.func15, Try.ntmps15
    go_wp2
    go_ret
    exact ⟨rfl, rfl⟩

theorem fits18_yes (n : Int) (w : World) (h : inB n 262143 = true) : Calls Try.prog 15 #[.int .i64 n, .int .i64 18] w fun e w' => e = .returned (.bool true) ∧ w = w' := by
  obtain ⟨h0, h1⟩ := in_yes h
  have d : decide (n < 262144) = true := decide_eq_true (by omega)
  clear h h1
  go_enter Try.func15, Try.ntmps15
  go_wp2
  go_ret
  exact ⟨rfl, rfl⟩

theorem fits18_no (n : Int) (w : World) (h : inB n 262143 = false) : Calls Try.prog 15 #[.int .i64 n, .int .i64 18] w fun e w' => e = .returned (.bool false) ∧ w = w' := by
  have h0 := in_no h
  by_cases c : 0 ≤ n
  · have d : decide (n < 262144) = false := decide_eq_false (by omega)
    clear h h0
    go_enter Try.func15, Try.ntmps15
    go_wp2
    go_ret
    exact ⟨rfl, rfl⟩
  · have d : decide (0 ≤ n) = false := decide_eq_false c
    clear h h0 c
    go_enter Try.func15, Try.ntmps15
    go_wp2
    go_ret
    exact ⟨rfl, rfl⟩

theorem may_yes4 (s r t o : Int) (w : World) (hs : inB s 4095 = true) (hr : inB r 7 = true) (ht : inB t 7 = true) (ho : inB o 262143 = true) :
    Calls Try.prog 12 #[PT s r t o] w fun e w' => e = .returned (.bool true) ∧ w' = w.alloc (PO s r t o) := by
  go_enter Try.func12, Try.ntmps12
  go_wp2_with (first
    | (go_at_call 15; ((with_reducible refine (fits12_yes s _ (by assumption)).mono ?_); rintro e w' ⟨rfl, rfl⟩))
    | (go_at_call 15; ((with_reducible refine (fits3_yes r _ (by assumption)).mono ?_); rintro e w' ⟨rfl, rfl⟩))
    | (go_at_call 15; ((with_reducible refine (fits3_yes t _ (by assumption)).mono ?_); rintro e w' ⟨rfl, rfl⟩))
    | (go_at_call 15; ((with_reducible refine (fits18_yes o _ (by assumption)).mono ?_); rintro e w' ⟨rfl, rfl⟩)))
  go_ret
  exact ⟨rfl, rfl⟩

theorem may_no0 (s r t o : Int) (w : World)  (hs : inB s 4095 = false) :
    Calls Try.prog 12 #[PT s r t o] w fun e w' => e = .returned (.bool false) ∧ w' = w.alloc (PO s r t o) := by
  go_enter Try.func12, Try.ntmps12
  go_wp2_with (first
    | (go_at_call 15; ((with_reducible refine (fits12_no s _ (by assumption)).mono ?_); rintro e w' ⟨rfl, rfl⟩)))
  go_ret
  exact ⟨rfl, rfl⟩

theorem may_no1 (s r t o : Int) (w : World) (hs : inB s 4095 = true) (hr : inB r 7 = false) :
    Calls Try.prog 12 #[PT s r t o] w fun e w' => e = .returned (.bool false) ∧ w' = w.alloc (PO s r t o) := by
  go_enter Try.func12, Try.ntmps12
  go_wp2_with (first
    | (go_at_call 15; ((with_reducible refine (fits12_yes s _ (by assumption)).mono ?_); rintro e w' ⟨rfl, rfl⟩))
    | (go_at_call 15; ((with_reducible refine (fits3_no r _ (by assumption)).mono ?_); rintro e w' ⟨rfl, rfl⟩)))
  go_ret
  exact ⟨rfl, rfl⟩

theorem may_no2 (s r t o : Int) (w : World) (hs : inB s 4095 = true) (hr : inB r 7 = true) (ht : inB t 7 = false) :
    Calls Try.prog 12 #[PT s r t o] w fun e w' => e = .returned (.bool false) ∧ w' = w.alloc (PO s r t o) := by
  go_enter Try.func12, Try.ntmps12
  go_wp2_with (first
    | (go_at_call 15; ((with_reducible refine (fits12_yes s _ (by assumption)).mono ?_); rintro e w' ⟨rfl, rfl⟩))
    | (go_at_call 15; ((with_reducible refine (fits3_yes r _ (by assumption)).mono ?_); rintro e w' ⟨rfl, rfl⟩))
    | (go_at_call 15; ((with_reducible refine (fits3_no t _ (by assumption)).mono ?_); rintro e w' ⟨rfl, rfl⟩)))
  go_ret
  exact ⟨rfl, rfl⟩

theorem may_no3 (s r t o : Int) (w : World) (hs : inB s 4095 = true) (hr : inB r 7 = true) (ht : inB t 7 = true) (ho : inB o 262143 = false) :
    Calls Try.prog 12 #[PT s r t o] w fun e w' => e = .returned (.bool false) ∧ w' = w.alloc (PO s r t o) := by
  go_enter Try.func12, Try.ntmps12
  go_wp2_with (first
    | (go_at_call 15; ((with_reducible refine (fits12_yes s _ (by assumption)).mono ?_); rintro e w' ⟨rfl, rfl⟩))
    | (go_at_call 15; ((with_reducible refine (fits3_yes r _ (by assumption)).mono ?_); rintro e w' ⟨rfl, rfl⟩))
    | (go_at_call 15; ((with_reducible refine (fits3_yes t _ (by assumption)).mono ?_); rintro e w' ⟨rfl, rfl⟩))
    | (go_at_call 15; ((with_reducible refine (fits18_no o _ (by assumption)).mono ?_); rintro e w' ⟨rfl, rfl⟩)))
  go_ret
  exact ⟨rfl, rfl⟩

theorem may_in {s r t o : Int} (h : mayB s r t o = true) : inB s 4095 = true ∧ inB r 7 = true ∧ inB t 7 = true ∧ inB o 262143 = true := by
  unfold mayB at h
  rw [Bool.and_eq_true, Bool.and_eq_true, Bool.and_eq_true] at h
  exact ⟨h.1.1.1, h.1.1.2, h.1.2, h.2⟩

theorem may_bd {s r t o : Int} (h : mayB s r t o = true) : (0 ≤ s ∧ s ≤ 4095) ∧ (0 ≤ r ∧ r ≤ 7) ∧ (0 ≤ t ∧ t ≤ 7) ∧ (0 ≤ o ∧ o ≤ 262143) := by
  obtain ⟨h1, h2, h3, h4⟩ := may_in h
  exact ⟨in_yes h1, in_yes h2, in_yes h3, in_yes h4⟩

theorem may_yesx (s r t o : Int) (w : World) (h : mayB s r t o = true) :
    Calls Try.prog 12 #[PT s r t o] w fun e w' => e = .returned (.bool true) ∧ w' = w.alloc (PO s r t o) := by
  obtain ⟨h1, h2, h3, h4⟩ := may_in h
  exact may_yes4 s r t o w h1 h2 h3 h4

theorem may_nox (s r t o : Int) (w : World) (h : mayB s r t o = false) :
    Calls Try.prog 12 #[PT s r t o] w fun e w' => e = .returned (.bool false) ∧ w' = w.alloc (PO s r t o) := by
  cases h1 : inB s 4095 with
  | false => exact may_no0 s r t o w h1
  | true =>
    cases h2 : inB r 7 with
    | false => exact may_no1 s r t o w h1 h2
    | true =>
      cases h3 : inB t 7 with
      | false => exact may_no2 s r t o w h1 h2 h3
      | true =>
        cases h4 : inB o 262143 with
        | false => exact may_no3 s r t o w h1 h2 h3 h4
        | true => unfold mayB at h; rw [h1, h2, h3, h4] at h; exact absurd h (by decide)

theorem may_yes (s r t o : Int) (w : World) (h : mayB s r t o = true) :
    Calls Try.prog 12 #[PT s r t o] w fun e w' => e = .returned (.bool true) ∧ Below w.heap.size w w' :=
  (may_yesx s r t o w h).mono fun _ _ h => ⟨h.1, h.2 ▸ (Below.refl _ _).alloc (Nat.le_refl _) _⟩

theorem may_no (s r t o : Int) (w : World) (h : mayB s r t o = false) :
    Calls Try.prog 12 #[PT s r t o] w fun e w' => e = .returned (.bool false) ∧ Below w.heap.size w w' :=
  (may_nox s r t o w h).mono fun _ _ h => ⟨h.1, h.2 ▸ (Below.refl _ _).alloc (Nat.le_refl _) _⟩

theorem rmay_yes (s r t o : Int) (w : World) (h : mayB s r t o = true) :
    Calls Try.prog 11 #[PT s r t o] w fun e w' => e = .returned (.bool true) ∧ w' = w.alloc (PO s r t o) := by
  obtain ⟨⟨s0, s1⟩, ⟨r0, r1⟩, ⟨t0, t1⟩, o0, o1⟩ := may_bd h
  clear h
  go_enter Try.func11, Try.ntmps11
  go_wp2
  go_ret
  exact ⟨rfl, rfl⟩

theorem rmay_no0 (s r t o : Int) (w : World)  (n : decide (0 ≤ s) = false) :
    Calls Try.prog 11 #[PT s r t o] w fun e w' => e = .returned (.bool false) ∧ w' = w.alloc (PO s r t o) := by
  go_enter Try.func11, Try.ntmps11
  go_wp2
  go_ret
  exact ⟨rfl, rfl⟩

theorem rmay_no1 (s r t o : Int) (w : World) (h0 : 0 ≤ s) (n : decide (s ≤ 4095) = false) :
    Calls Try.prog 11 #[PT s r t o] w fun e w' => e = .returned (.bool false) ∧ w' = w.alloc (PO s r t o) := by
  go_enter Try.func11, Try.ntmps11
  go_wp2
  go_ret
  exact ⟨rfl, rfl⟩

theorem rmay_no2 (s r t o : Int) (w : World) (h0 : 0 ≤ s) (h1 : s ≤ 4095) (n : decide (0 ≤ r) = false) :
    Calls Try.prog 11 #[PT s r t o] w fun e w' => e = .returned (.bool false) ∧ w' = w.alloc (PO s r t o) := by
  go_enter Try.func11, Try.ntmps11
  go_wp2
  go_ret
  exact ⟨rfl, rfl⟩

theorem rmay_no3 (s r t o : Int) (w : World) (h0 : 0 ≤ s) (h1 : s ≤ 4095) (h2 : 0 ≤ r) (n : decide (r ≤ 7) = false) :
    Calls Try.prog 11 #[PT s r t o] w fun e w' => e = .returned (.bool false) ∧ w' = w.alloc (PO s r t o) := by
  go_enter Try.func11, Try.ntmps11
  go_wp2
  go_ret
  exact ⟨rfl, rfl⟩

theorem rmay_no4 (s r t o : Int) (w : World) (h0 : 0 ≤ s) (h1 : s ≤ 4095) (h2 : 0 ≤ r) (h3 : r ≤ 7) (n : decide (0 ≤ t) = false) :
    Calls Try.prog 11 #[PT s r t o] w fun e w' => e = .returned (.bool false) ∧ w' = w.alloc (PO s r t o) := by
  go_enter Try.func11, Try.ntmps11
  go_wp2
  go_ret
  exact ⟨rfl, rfl⟩

theorem rmay_no5 (s r t o : Int) (w : World) (h0 : 0 ≤ s) (h1 : s ≤ 4095) (h2 : 0 ≤ r) (h3 : r ≤ 7) (h4 : 0 ≤ t) (n : decide (t ≤ 7) = false) :
    Calls Try.prog 11 #[PT s r t o] w fun e w' => e = .returned (.bool false) ∧ w' = w.alloc (PO s r t o) := by
  go_enter Try.func11, Try.ntmps11
  go_wp2
  go_ret
  exact ⟨rfl, rfl⟩

theorem rmay_no6 (s r t o : Int) (w : World) (h0 : 0 ≤ s) (h1 : s ≤ 4095) (h2 : 0 ≤ r) (h3 : r ≤ 7) (h4 : 0 ≤ t) (h5 : t ≤ 7) (n : decide (0 ≤ o) = false) :
    Calls Try.prog 11 #[PT s r t o] w fun e w' => e = .returned (.bool false) ∧ w' = w.alloc (PO s r t o) := by
  go_enter Try.func11, Try.ntmps11
  go_wp2
  go_ret
  exact ⟨rfl, rfl⟩

theorem rmay_no7 (s r t o : Int) (w : World) (h0 : 0 ≤ s) (h1 : s ≤ 4095) (h2 : 0 ≤ r) (h3 : r ≤ 7) (h4 : 0 ≤ t) (h5 : t ≤ 7) (h6 : 0 ≤ o) (n : decide (o ≤ 262143) = false) :
    Calls Try.prog 11 #[PT s r t o] w fun e w' => e = .returned (.bool false) ∧ w' = w.alloc (PO s r t o) := by
  go_enter Try.func11, Try.ntmps11
  go_wp2
  go_ret
  exact ⟨rfl, rfl⟩

theorem rmay_no (s r t o : Int) (w : World) (h : mayB s r t o = false) :
    Calls Try.prog 11 #[PT s r t o] w fun e w' => e = .returned (.bool false) ∧ w' = w.alloc (PO s r t o) := by
  by_cases h0 : 0 ≤ s
  case neg => exact rmay_no0 s r t o w  (decide_eq_false h0)
  by_cases h1 : s ≤ 4095
  case neg => exact rmay_no1 s r t o w h0 (decide_eq_false h1)
  by_cases h2 : 0 ≤ r
  case neg => exact rmay_no2 s r t o w h0 h1 (decide_eq_false h2)
  by_cases h3 : r ≤ 7
  case neg => exact rmay_no3 s r t o w h0 h1 h2 (decide_eq_false h3)
  by_cases h4 : 0 ≤ t
  case neg => exact rmay_no4 s r t o w h0 h1 h2 h3 (decide_eq_false h4)
  by_cases h5 : t ≤ 7
  case neg => exact rmay_no5 s r t o w h0 h1 h2 h3 h4 (decide_eq_false h5)
  by_cases h6 : 0 ≤ o
  case neg => exact rmay_no6 s r t o w h0 h1 h2 h3 h4 h5 (decide_eq_false h6)
  by_cases h7 : o ≤ 262143
  case neg => exact rmay_no7 s r t o w h0 h1 h2 h3 h4 h5 h6 (decide_eq_false h7)
  have hs := in_mk h0 h1
  have hr := in_mk h2 h3
  have ht := in_mk h4 h5
  have ho := in_mk h6 h7
  unfold mayB at h
  rw [hs, hr, ht, ho] at h
  exact absurd h (by decide)

theorem put_any (x a n v : Int) (w : World) (hx : U64 x) (h0 : 0 ≤ a) (h1 : 1 ≤ n) (h2 : n ≤ 36) (h3 : a ≤ 36 - n) :
    Calls Try.prog 16 #[.int .u64 x, .int .i64 a, .int .i64 n, .int .i64 v] w fun e w' => e = .returned (.int .u64 (pv x a n (cutv v))) ∧ w = w' := by
  have hc := cutv_bd v
  have hu : U64 (cutv v) := ⟨by omega, by omega⟩
  go_enter Try.func16, Try.ntmps16
  go_wp2_with (first
    | (go_at_call 19; ((with_reducible refine (of_any _ _).mono ?_); rintro e w' ⟨rfl, rfl⟩))
    | (go_at_call 18; ((with_reducible refine (put_ok x a n (cutv v) _ hx hu h0 h1 h2 h3).mono ?_); rintro e w' ⟨rfl, rfl⟩)))
  go_ret
  exact ⟨rfl, rfl⟩

theorem get_any (x a n : Int) (w : World) (hx : U64 x) (h0 : 0 ≤ a) (h1 : 1 ≤ n) (h2 : n ≤ 36) (h3 : a ≤ 36 - n) :
    Calls Try.prog 17 #[.int .u64 x, .int .i64 a, .int .i64 n] w fun e w' => e = .returned (.int .i64 (gv x a n)) ∧ w = w' := by
  have hc := gv_bd x a n h2
  go_enter Try.func17, Try.ntmps17
  go_wp2_with (first
    | (go_at_call 20; ((with_reducible refine (get_ok x a n _ hx h0 h1 h2 h3).mono ?_); rintro e w' ⟨rfl, rfl⟩)))
  go_ret
  exact ⟨rfl, rfl⟩

/-- the word that is put together field by field -/
def pkv (s r t o : Int) : Int := pv (pv (pv (pv 0 0 12 (cutv s)) 12 3 (cutv r)) 15 3 (cutv t)) 18 18 (cutv o)

theorem pv_seg (v : Int) : pv 0 0 12 v = ((16777216 * (v.toNat % 4096) : Nat) : Int) := by
  show ((putN 0 24 12 v.toNat : Nat) : Int) = _
  unfold putN
  simp only [Nat.reducePow, Nat.reduceAdd]
  omega

theorem pv_ring (x v : Int) : pv x 12 3 v = ((16777216 * (x.toNat % 68719476736 / 16777216) + (2097152 * (v.toNat % 8) + x.toNat % 2097152) : Nat) : Int) := rfl
theorem pv_tag (x v : Int) : pv x 15 3 v = ((2097152 * (x.toNat % 68719476736 / 2097152) + (262144 * (v.toNat % 8) + x.toNat % 262144) : Nat) : Int) := rfl
theorem pv_off (x v : Int) : pv x 18 18 v = ((68719476736 * (0 : Nat) + (262144 * (x.toNat % 68719476736 / 262144) + v.toNat % 262144) : Nat) : Int) := by
  show ((putN x.toNat 0 18 v.toNat : Nat) : Int) = _
  unfold putN
  simp only [Nat.reducePow, Nat.reduceAdd]
  omega

theorem pkv_eq {s r t o : Int} (hs : 0 ≤ s ∧ s ≤ 4095) (hr : 0 ≤ r ∧ r ≤ 7) (ht : 0 ≤ t ∧ t ≤ 7) (ho : 0 ≤ o ∧ o ≤ 262143) : pkv s r t o = packv s r t o := by
  unfold pkv packv
  have c : ∀ v : Int, 0 ≤ v → v ≤ 262143 → cutv v = v := fun v h0 h1 => by unfold cutv; omega
  have e1 : pv 0 0 12 s = 16777216 * s := by rw [pv_seg]; omega
  have e2 : ∀ x : Int, 0 ≤ x → x ≤ 4095 → pv (16777216 * x) 12 3 r = 2097152 * (8 * x + r) := fun x h0 h1 => by rw [pv_ring]; omega
  have e3 : ∀ x : Int, 0 ≤ x → x ≤ 32767 → pv (2097152 * x) 15 3 t = 262144 * (8 * x + t) := fun x h0 h1 => by rw [pv_tag]; omega
  have e4 : ∀ x : Int, 0 ≤ x → x ≤ 262143 → pv (262144 * x) 18 18 o = 262144 * x + o := fun x h0 h1 => by rw [pv_off]; omega
  rw [c s hs.1 (by omega), c r hr.1 (by omega), c t ht.1 (by omega), c o ho.1 (by omega), e1, e2 s hs.1 hs.2, e3 _ (by omega) (by omega), e4 _ (by omega) (by omega)]
  omega

theorem pack_no (s r t o : Int) (w : World) (h : mayB s r t o = false) :
    Calls Try.prog 13 #[PT s r t o] w fun e w' => e = .returned (.tuple #[.int .u64 0, .int .i64 1]) ∧ Below w.heap.size w w' := by
  go_enter Try.func13, Try.ntmps13
  go_wp2_with (first
    | (go_at_call 12; ((with_reducible refine (may_no s r t o _ h).mono ?_); rintro e w1 ⟨rfl, hb⟩)))
  go_ret2
  exact ⟨rfl, ((Below.refl _ _).alloc (Nat.le_refl _) _).trans (hb.mono (by simp))⟩

/-- what lay in memory before such a call reads the same behind it -/
theorem old_cell {W V : World} (h : Below W.heap.size W V) (b i : Nat) (lt : b < W.heap.size) : V.cell? ⟨b, i, none⟩ = W.cell? ⟨b, i, none⟩ := Below.cell h lt

theorem u64_0 : U64 0 := ⟨by omega, by omega⟩
theorem pv_u (x a n v : Int) (h0 : 0 ≤ a) (h1 : 0 ≤ n) (h : a ≤ 36 - n) : U64 (pv x a n v) := pv_u64 x a n v h0 h1 h

theorem pack_yes (s r t o : Int) (w : World) (h : mayB s r t o = true) :
    Calls Try.prog 13 #[PT s r t o] w fun e w' => e = .returned (.tuple #[.int .u64 (packv s r t o), .int .i64 0]) ∧ Below w.heap.size w w' := by
  obtain ⟨b1, b2, b3, b4⟩ := may_bd h
  have H := Lib.hid (pkv_eq b1 b2 b3 b4)
  clear b1 b2 b3 b4
  go_enter Try.func13, Try.ntmps13
  go_wp2_with (first
    | (go_at_call 12; ((with_reducible refine (may_yes s r t o _ h).mono ?_); rintro e w1 ⟨rfl, hb⟩; have hc := old_cell hb))
    | (go_at_call 16; ((with_reducible refine (put_any 0 0 12 s _ u64_0 (by omega) (by omega) (by omega) (by omega)).mono ?_); rintro e w' ⟨rfl, rfl⟩))
    | (go_at_call 16; ((with_reducible refine (put_any _ 12 3 r _ (pv_u _ _ _ _ (by omega) (by omega) (by omega)) (by omega) (by omega) (by omega) (by omega)).mono ?_); rintro e w' ⟨rfl, rfl⟩))
    | (go_at_call 16; ((with_reducible refine (put_any _ 15 3 t _ (pv_u _ _ _ _ (by omega) (by omega) (by omega)) (by omega) (by omega) (by omega) (by omega)).mono ?_); rintro e w' ⟨rfl, rfl⟩))
    | (go_at_call 16; ((with_reducible refine (put_any _ 18 18 o _ (pv_u _ _ _ _ (by omega) (by omega) (by omega)) (by omega) (by omega) (by omega) (by omega)).mono ?_); rintro e w' ⟨rfl, rfl⟩)))
  go_ret2
  exact ⟨ret2 H.out, ((Below.refl _ _).alloc (Nat.le_refl _) _).trans (hb.mono (by simp))⟩

theorem unpack_any (x : Int) (w : World) (hx : U64 x) :
    Calls Try.prog 14 #[.int .u64 x] w fun e w' => e = .returned (PT (gv x 0 12) (gv x 12 3) (gv x 15 3) (gv x 18 18)) ∧ Below w.heap.size w w' := by
  go_enter Try.func14, Try.ntmps14
  go_wp2_with (go_at_call 17; ((with_reducible refine (get_any x _ _ _ hx (by omega) (by omega) (by omega) (by omega)).mono ?_); rintro e w' ⟨rfl, rfl⟩))
  exact bodyPost_ret (v := PT (gv x 0 12) (gv x 12 3) (gv x 15 3) (gv x 18 18)) (by simp [results, Try.results14, go_sem]) rfl ⟨rfl, (Below.refl _ _).alloc (Nat.le_refl _) _⟩

end Go.Proofs.Ytenlfjbkfgfcmaa.W
