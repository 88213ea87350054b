/-
  The methods of a store once more, with what they leave told by a table of which just the needed entries are known; and two stores, or a store and other memory, side by side.
-/
import Derived.Test.YtknfiepbibaklaaDoorSAwake
namespace Go.Proofs.YtknfiepbibaklaaDoor.W
open Go.ChangeShapes Go.WideShapes Go.ChangeAt Go.RowKit

/-- what the table has behind a change at k -/
structure Chg (S : Int → Option (List Int)) (k : Int) (v : Option (List Int)) (S' : Int → Option (List Int)) : Prop where
  at_ : S' k = v
  off : ∀ j, j ≠ k → S' j = S j
theorem chg_upd (S : Int → Option (List Int)) (k : Int) (v : Option (List Int)) : Chg S k v (upd S k v) := ⟨upd_same _ _ _, fun _ h => upd_other _ _ h⟩

section
variable {w : World} {b : Nat} {F : Nat → Prop} {q u l : Int} {c : Nat} {S : Int → Option (List Int)}

theorem make_is (h : StoreAt w b F q u l c S) {n u' l' : Int} {ws' : List Int} (n0 : 0 ≤ n) (hn : n ≤ 1024) (hq : n ≤ q - u) (hc : c < 4611686018427387904) (l0 : 0 ≤ l) (l1 : l < 4611686018427387904) (u0 : 0 ≤ u) (uq : u ≤ q) (q1 : q ≤ 9223372036854774000) (eu : u + n = u') (el : l + 1 = l') (ew : List.replicate n.toNat 0 = ws') :
    Calls Tryd.prog 10 #[SP b, .int .i64 n] w fun e w' => e = .returned (.tuple #[.int .i64 l', .int .i64 0]) ∧ ∃ F' S', StoreAt w' b F' q u' l' (c + 1) S' ∧ Chg S l' (some ws') S' ∧ Went F w F' w' := by
  subst eu el ew
  refine (make_at h n0 hn hq hc l0 l1 u0 uq q1).mono fun e w' hp => ?_
  obtain ⟨rfl, F', h', hw⟩ := hp
  exact ⟨rfl, F', _, h', chg_upd _ _ _, hw⟩

theorem resize_is (h : StoreAt w b F q u l c S) {k : Int} (h0 : -9223372036854775808 ≤ k) (h1 : k ≤ 9223372036854775807) {ws : List Int} (hS : S k = some ws) {n u' : Int} {ws' : List Int} (n0 : 0 ≤ n) (hn : n ≤ 1024) (hq : n - ws.length ≤ q - u) (hc : c < 4611686018427387904) (u0 : 0 ≤ u) (uq : u ≤ q) (q1 : q ≤ 9223372036854774000) (eu : u + (n - ws.length) = u') (ew : rez ws n.toNat = ws') :
    Calls Tryd.prog 24 #[SP b, .int .i64 k, .int .i64 n] w fun e w' => e = .returned (.int .i64 0) ∧ ∃ F' S', StoreAt w' b F' q u' l (c + 1) S' ∧ Chg S k (some ws') S' ∧ Went F w F' w' := by
  subst eu ew
  refine (resize_at h h0 h1 hS n0 hn hq hc u0 uq q1).mono fun e w' hp => ?_
  obtain ⟨rfl, F', h', hw⟩ := hp
  exact ⟨rfl, F', _, h', chg_upd _ _ _, hw⟩

theorem drop_is (h : StoreAt w b F q u l c S) {k : Int} (h0 : -9223372036854775808 ≤ k) (h1 : k ≤ 9223372036854775807) {ws : List Int} (hS : S k = some ws) {u' : Int} (u0 : 0 ≤ u) (u1 : u ≤ 9223372036854774000) (eu : u - ws.length = u') :
    Calls Tryd.prog 25 #[SP b, .int .i64 k] w fun e w' => e = .returned (.int .i64 0) ∧ ∃ S', StoreAt w' b F q u' l c S' ∧ Chg S k none S' ∧ Went F w F w' := by
  subst eu
  refine (drop_yes h h0 h1 hS u0 u1).mono fun e w' hp => ?_
  obtain ⟨rfl, h', hw⟩ := hp
  exact ⟨rfl, _, h', chg_upd _ _ _, hw⟩

end

/-- a store's blocks are all younger than w0, and nothing older than w0 has changed -/
structure Young (w0 w : World) (F : Nat → Prop) : Prop where
  below : Below w0.heap.size w0 w
  ge : ∀ i, F i → w0.heap.size ≤ i
theorem Young.went {w0 w w' : World} {F F' : Nat → Prop} (h : Young w0 w F) (hw : Went F w F' w') : Young w0 w' F' :=
  ⟨h.below.trans (hw.below h.ge h.below.size), hw.ge h.ge h.below.size⟩
theorem Young.drew {w0 w : World} {F : Nat → Prop} (h : Young w0 w F) : Young w0 w.drew F := ⟨h.below.drew, h.ge⟩

/-- two stores with no block in common, both younger than w0 -/
structure Both (w0 w : World) (F G : Nat → Prop) : Prop where
  one : Young w0 w F
  two : Young w0 w G
  apart : ∀ i, F i → ¬ G i
theorem Both.went {w0 w w' : World} {b : Nat} {F F' G : Nat → Prop} {q u l : Int} {c : Nat} {S : Int → Option (List Int)} (h : Both w0 w F G) (hw : Went F w F' w') (hz : StoreAt w b G q u l c S) : Both w0 w' F' G :=
  ⟨h.one.went hw, ⟨(h.one.went hw).below, h.two.ge⟩, fun i hi hg => (hw.out (hz.ltF i hg) (fun hf => h.apart i hf hg)) hi⟩
theorem Both.swap {w0 w : World} {F G : Nat → Prop} (h : Both w0 w F G) : Both w0 w G F := ⟨h.two, h.one, fun i hi hf => h.apart i hf hi⟩
theorem Both.kept {w0 w w' : World} {b : Nat} {F F' G : Nat → Prop} {q u l : Int} {c : Nat} {S : Int → Option (List Int)} (h : Both w0 w F G) (hw : Went F w F' w') (hz : StoreAt w b G q u l c S) : StoreAt w' b G q u l c S :=
  hz.other hw (fun i hi hf => h.apart i hf hi)

end Go.Proofs.YtknfiepbibaklaaDoor.W
