/-
  What a descriptor answers: whether an offset is in it (bound), Read, Write, Fetch, Call: one contract each.
-/
import Derived.Test.YtknfiepbibaklaaDoorRComes
import Derived.Deep.RegionHeld3
namespace Go.Proofs.YtknfiepbibaklaaDoor.D
open Go.ChangeShapes Go.WideShapes Go.ChangeAt Go.RowKit
open Go.Proofs.YtknfiepbibaklaaDoor.W (BV acc bmay cto cer inr one_new retI)

/-- a descriptor -/
structure Sd where
  uid : Int
  size : Int
  fr : Bool
  fw : Bool
  fe : Bool
  r1 : Int
  r2 : Int
  r3 : Int
  gt : Int
@[reducible] def SdV (x : Sd) : Value := .agg #[.int .i64 x.uid, .int .i64 x.size, .bool x.fr, .bool x.fw, .bool x.fe, .int .i64 x.r1, .int .i64 x.r2, .int .i64 x.r3, .int .i64 x.gt]
@[reducible] def SdO (x : Sd) : Obj := .cells #[.int .i64 x.uid, .int .i64 x.size, .bool x.fr, .bool x.fw, .bool x.fe, .int .i64 x.r1, .int .i64 x.r2, .int .i64 x.r3, .int .i64 x.gt] 41
/-- a descriptor lies in a block -/
@[reducible] def SdAt (W : World) (b : Nat) (x : Sd) : Prop := b < W.heap.size ∧ W.cell? ⟨b, 0, none⟩ = some (.int .i64 x.uid) ∧ W.cell? ⟨b, 1, none⟩ = some (.int .i64 x.size) ∧ W.cell? ⟨b, 2, none⟩ = some (.bool x.fr) ∧ W.cell? ⟨b, 3, none⟩ = some (.bool x.fw) ∧ W.cell? ⟨b, 4, none⟩ = some (.bool x.fe) ∧ W.cell? ⟨b, 5, none⟩ = some (.int .i64 x.r1) ∧ W.cell? ⟨b, 6, none⟩ = some (.int .i64 x.r2) ∧ W.cell? ⟨b, 7, none⟩ = some (.int .i64 x.r3) ∧ W.cell? ⟨b, 8, none⟩ = some (.int .i64 x.gt)
theorem sd_new (W : World) (x : Sd) : SdAt (W.alloc (SdO x)) W.heap.size x := by
  refine ⟨by simp, ?_⟩
  simp [World.cell?_alloc_new]
theorem sd_below {W V : World} {b : Nat} {x : Sd} (h : SdAt W b x) (hb : Below W.heap.size W V) : SdAt V b x := by
  obtain ⟨h0, h1, h2, h3, h4, h5, h6, h7, h8, h9⟩ := h
  have c : ∀ i, V.cell? ⟨b, i, none⟩ = W.cell? ⟨b, i, none⟩ := fun i => hb.cell (p := ⟨b, i, none⟩) h0
  exact ⟨Nat.lt_of_lt_of_le h0 hb.size, (c 0).trans h1, (c 1).trans h2, (c 2).trans h3, (c 3).trans h4, (c 4).trans h5, (c 5).trans h6, (c 6).trans h7, (c 7).trans h8, (c 8).trans h9⟩

/-- one call behind another -/
theorem bel2 {w v u : World} (h : Below w.heap.size w v) (h' : Below v.heap.size v u) : Below w.heap.size w u := h.trans (h'.mono h.size)
/-- the descriptor of a call, and nothing older changed -/
@[reducible] def Hold (w : World) (b : Nat) (x : Sd) (W : World) : Prop := SdAt W b x ∧ Below w.heap.size w W
theorem hold_new (w : World) (x : Sd) : Hold w w.heap.size x (w.alloc (SdO x)) := ⟨sd_new w x, one_new _ _⟩
theorem hold_drew {w : World} {b : Nat} {x : Sd} {W : World} (h : Hold w b x W) : Hold w b x W.drew := ⟨h.1, h.2.drew⟩
theorem hold_below {w : World} {b : Nat} {x : Sd} {W V : World} (h : Hold w b x W) (hb : Below W.heap.size W V) : Hold w b x V := ⟨sd_below h.1 hb, bel2 h.2 hb⟩

/-- an error, or out of bounds -/
def bnd (e off size : Int) : Int := if e = 0 ∧ (off < 0 ∨ size ≤ off) then 8 else e
theorem bnd_ways (e off size : Int) : ((e == 0) = false ∧ bnd e off size = e) ∨ ((e == 0) = true ∧ decide (off < 0) = true ∧ bnd e off size = 8) ∨
    ((e == 0) = true ∧ decide (off < 0) = false ∧ decide (size ≤ off) = true ∧ bnd e off size = 8) ∨ ((e == 0) = true ∧ decide (off < 0) = false ∧ decide (size ≤ off) = false ∧ bnd e off size = e) := by
  unfold bnd
  by_cases h : e = 0
  · by_cases h1 : off < 0
    · exact .inr (.inl ⟨by simp [h], by simp [h1], by simp [h, h1]⟩)
    · by_cases h2 : size ≤ off
      · exact .inr (.inr (.inl ⟨by simp [h], by simp; omega, by simp [h2], by simp [h, h2]⟩))
      · exact .inr (.inr (.inr ⟨by simp [h], by simp; omega, by simp; omega, by rw [if_neg (by omega)]⟩))
  · exact .inl ⟨by simp [h], by simp [h]⟩

theorem bound_any (x : Sd) (e off : Int) (w : World) :
    Calls Tryd.prog 37 #[SdV x, .int .i64 e, .int .i64 off] w fun r w' => r = .returned (.int .i64 (bnd e off x.size)) ∧ Below w.heap.size w w' := by
  rcases bnd_ways e off x.size with ⟨d1, h⟩ | ⟨d1, d2, h⟩ | ⟨d1, d2, d3, h⟩ | ⟨d1, d2, d3, h⟩
  all_goals
    rw [h]
    clear h
    go_enter Tryd.func37, Tryd.ntmps37
    go_wp2
    go_ret
    exact ⟨rfl, one_new _ _⟩

set_option maxHeartbeats 1000000 in
theorem read_any (x : Sd) (r off : Int) (w : World) :
    Calls Tryd.prog 17 #[SdV x, .int .i64 r, .int .i64 off] w fun e w' => e = .returned (.int .i64 (bnd (acc (bmay x.r1 x.r2 x.r3 x.gt) x.fr r 0 x.r2) off x.size)) ∧ Below w.heap.size w w' := by
  have H := hold_drew (hold_new w x)
  go_enter Tryd.func17, Tryd.ntmps17
  go_wp2
  go_region_held3 (fun W => SdAt W w.heap.size x ∧ Below w.heap.size w W)
    (first | exact H | exact hold_drew H)
    (first
      | (go_at_call 38; ((with_reducible refine (W.read_any x.r1 x.r2 x.r3 x.gt x.fr x.fw x.fe r _).mono ?_); rintro e w4 ⟨rfl, h4⟩; have H := hold_below H h4))
      | (go_at_call 37; ((with_reducible refine (bound_any x _ off _).mono ?_); rintro e w4 ⟨rfl, h4⟩; have H := hold_below H h4)))
  go_wp2
  go_ret
  exact ⟨rfl, H.2⟩

set_option maxHeartbeats 1000000 in
theorem write_any (x : Sd) (r off : Int) (w : World) :
    Calls Tryd.prog 19 #[SdV x, .int .i64 r, .int .i64 off] w fun e w' => e = .returned (.int .i64 (bnd (acc (bmay x.r1 x.r2 x.r3 x.gt) x.fw r 0 x.r1) off x.size)) ∧ Below w.heap.size w w' := by
  have H := hold_drew (hold_new w x)
  go_enter Tryd.func19, Tryd.ntmps19
  go_wp2
  go_region_held3 (fun W => SdAt W w.heap.size x ∧ Below w.heap.size w W)
    (first | exact H | exact hold_drew H)
    (first
      | (go_at_call 39; ((with_reducible refine (W.write_any x.r1 x.r2 x.r3 x.gt x.fr x.fw x.fe r _).mono ?_); rintro e w4 ⟨rfl, h4⟩; have H := hold_below H h4))
      | (go_at_call 37; ((with_reducible refine (bound_any x _ off _).mono ?_); rintro e w4 ⟨rfl, h4⟩; have H := hold_below H h4)))
  go_wp2
  go_ret
  exact ⟨rfl, H.2⟩

set_option maxHeartbeats 1000000 in
theorem fetch_any (x : Sd) (r off : Int) (w : World) :
    Calls Tryd.prog 20 #[SdV x, .int .i64 r, .int .i64 off] w fun e w' => e = .returned (.int .i64 (bnd (acc (bmay x.r1 x.r2 x.r3 x.gt) x.fe r x.r1 x.r2) off x.size)) ∧ Below w.heap.size w w' := by
  have H := hold_drew (hold_new w x)
  go_enter Tryd.func20, Tryd.ntmps20
  go_wp2
  go_region_held3 (fun W => SdAt W w.heap.size x ∧ Below w.heap.size w W)
    (first | exact H | exact hold_drew H)
    (first
      | (go_at_call 40; ((with_reducible refine (W.execute_any x.r1 x.r2 x.r3 x.gt x.fr x.fw x.fe r _).mono ?_); rintro e w4 ⟨rfl, h4⟩; have H := hold_below H h4))
      | (go_at_call 37; ((with_reducible refine (bound_any x _ off _).mono ?_); rintro e w4 ⟨rfl, h4⟩; have H := hold_below H h4)))
  go_wp2
  go_ret
  exact ⟨rfl, H.2⟩

/-- where a call comes to, and why not -/
def dto (x : Sd) (r off : Int) : Int := if bnd (cer (bmay x.r1 x.r2 x.r3 x.gt) x.fe r x.r1 x.r2 x.r3 x.gt off) off x.size = 0 then cto (bmay x.r1 x.r2 x.r3 x.gt) x.fe r x.r1 x.r2 x.r3 x.gt off else 0
def der (x : Sd) (r off : Int) : Int := bnd (cer (bmay x.r1 x.r2 x.r3 x.gt) x.fe r x.r1 x.r2 x.r3 x.gt off) off x.size

set_option maxHeartbeats 1000000 in
theorem call_any (x : Sd) (r off : Int) (w : World) :
    Calls Tryd.prog 15 #[SdV x, .int .i64 r, .int .i64 off] w fun e w' => e = .returned (.tuple #[.int .i64 (dto x r off), .int .i64 (der x r off)]) ∧ Below w.heap.size w w' := by
  unfold dto der
  generalize hE : cer (bmay x.r1 x.r2 x.r3 x.gt) x.fe r x.r1 x.r2 x.r3 x.gt off = E
  generalize hT : cto (bmay x.r1 x.r2 x.r3 x.gt) x.fe r x.r1 x.r2 x.r3 x.gt off = T
  have HC : Hid (∀ V, Calls Tryd.prog 36 #[BV x.r1 x.r2 x.r3 x.gt, W.FV x.fr x.fw x.fe, .int .i64 r, .int .i64 off] V fun e w' => e = .returned (.tuple #[.int .i64 T, .int .i64 E]) ∧ Below V.heap.size V w') := Lib.hid (fun V => by
    have := W.call_any x.r1 x.r2 x.r3 x.gt x.fr x.fw x.fe r off V
    rw [hE, hT] at this
    exact this)
  clear hE hT
  have H := Lib.hid (hold_new w x)
  by_cases h0 : bnd E off x.size = 0
  · rw [if_pos h0]
    have d1 : (bnd E off x.size != 0) = false := by simp [h0]
    have h0' := Lib.hid h0
    clear h0
    go_enter Tryd.func15, Tryd.ntmps15
    go_wp2_with (first
      | (go_at_call 36; ((with_reducible refine (HC.out _).mono ?_); rintro e w1 ⟨rfl, h1⟩; obtain ⟨⟨k0, k1, k2, k3, k4, k5, k6, k7, k8, k9⟩, b1⟩ := hold_below H.out h1))
      | (go_at_call 37; ((with_reducible refine (bound_any x _ off _).mono ?_); rintro e w4 ⟨rfl, h4⟩)))
    exact bodyPost_ret (v := .tuple #[.int .i64 T, .int .i64 0]) (by simp [results, Tryd.results15, go_sem]) rfl ⟨by rw [h0'.out], bel2 b1 h4⟩
  · rw [if_neg h0]
    have d1 : (bnd E off x.size != 0) = true := by simp [h0]
    clear h0
    go_enter Tryd.func15, Tryd.ntmps15
    go_wp2_with (first
      | (go_at_call 36; ((with_reducible refine (HC.out _).mono ?_); rintro e w1 ⟨rfl, h1⟩; obtain ⟨⟨k0, k1, k2, k3, k4, k5, k6, k7, k8, k9⟩, b1⟩ := hold_below H.out h1))
      | (go_at_call 37; ((with_reducible refine (bound_any x _ off _).mono ?_); rintro e w4 ⟨rfl, h4⟩)))
    exact bodyPost_ret (v := .tuple #[.int .i64 0, .int .i64 (bnd E off x.size)]) (by simp [results, Tryd.results15, go_sem]) rfl ⟨rfl, bel2 b1 h4⟩

end Go.Proofs.YtknfiepbibaklaaDoor.D
