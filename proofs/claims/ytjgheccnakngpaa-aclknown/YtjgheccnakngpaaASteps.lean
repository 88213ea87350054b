/-
  What the laws of access lists ask of Set, Drop and Small, by their ways.
-/
import Derived.Test.YtjgheccnakngpaaAAwake
import Derived.Test.YtjgheccnakngpaaAOpen
namespace Go.Proofs.Ytjgheccnakngpaa.A
open Go.ChangeShapes Go.WideShapes Go.ChangeAt Go.RowKit
open Go.Proofs.Ytjgheccnakngpaa.N

theorem dropL_setL {l : List Tm} {t : Tm} (hu : Up l) : dropL (setL l t) t.1 = dropL l t.1 := by
  apply up_ext (dropL_up (setL_up hu)) (dropL_up hu)
  intro x
  simp only [dropL, List.mem_filter, setL_mem, decide_eq_true_eq]
  constructor
  · rintro ⟨rfl | ⟨h, _⟩, h2⟩
    · exact absurd rfl h2
    · exact ⟨h, h2⟩
  · rintro ⟨h, h2⟩
    exact ⟨Or.inr ⟨h, h2⟩, h2⟩
theorem setL_there (l : List Tm) (t : Tm) : there (setL l t) t.1 = true := there_iff.2 ⟨t, setL_mem.2 (Or.inl rfl), rfl⟩
theorem setL_may {l : List Tm} {t : Tm} (h : setE l t = 0) : lmay (setL l t) = true := by rw [← setR_zero h]; exact setR_may
theorem setL_sz {l : List Tm} {t : Tm} (hl : ∀ t ∈ l, t.1.length ≤ maxLen) (ht : t.1.length ≤ maxLen) : ∀ x ∈ setL l t, x.1.length ≤ maxLen := by
  intro x hx
  rcases setL_mem.1 hx with rfl | ⟨h, _⟩
  · exact ht
  · exact hl x h
theorem dropL_sz {l : List Tm} {u : List UInt8} (hl : ∀ t ∈ l, t.1.length ≤ maxLen) : ∀ x ∈ dropL l u, x.1.length ≤ maxLen := fun x hx => hl x (List.mem_filter.1 hx).1
theorem dropL_zero (l : List Tm) (u : List UInt8) : dropL (l.take 0) u = [] := by simp [dropL]
theorem dropL_step {l : List Tm} {u : List UInt8} {k : Nat} (hk : k < l.length) (h : ¬ l[k].1 = u) : dropL (l.take (k + 1)) u = dropL (l.take k) u ++ [l[k]] := by
  rw [List.take_succ_eq_append_getElem hk, dropL, List.filter_append]
  simp [dropL, h]
theorem dropL_skip {l : List Tm} {u : List UInt8} {k : Nat} (hk : k < l.length) (h : l[k].1 = u) : dropL (l.take (k + 1)) u = dropL (l.take k) u := by
  rw [List.take_succ_eq_append_getElem hk, dropL, List.filter_append]
  simp [dropL, h]
theorem dropL_le (l : List Tm) (u : List UInt8) (k : Nat) : (dropL (l.take k) u).length ≤ k := Nat.le_trans (List.length_filter_le _ _) (by simp; omega)

theorem small_is {b : Bool} (a : Option Addr) (c : Nat) (l : List Tm) (w : World) (hr : TRow w a c l) (hm : l.length ≤ maxLen) (hb : small l = b) :
    Calls Try.prog 9 #[.slice a l.length c] w fun e w' => e = .returned (.bool b) ∧ w' = w := by
  subst hb; exact small_any a c l w hr hm

theorem set_ok (a : Option Addr) (c : Nat) (l : List Tm) (t : Tm) (w : World) (hr : TRow w a c l) (hl : ∀ t ∈ l, t.1.length ≤ maxLen) (ht : t.1.length ≤ maxLen) (h : setE l t = 0) :
    Calls Try.prog 10 #[.slice a l.length c, TV t] w fun e w' => ∃ a' c', e = .returned (.tuple #[.slice a' (setL l t).length c', .int .i64 0]) ∧ TRow w' a' c' (setL l t) ∧ Below w.heap.size w w' :=
  (set_any a c l t w hr hl ht).mono fun e w' ⟨a', c', e1, e2, e3⟩ => by
    rw [setR_zero h] at e1 e2
    rw [h] at e1
    exact ⟨a', c', e1, e2, e3⟩
theorem set_bad (a : Option Addr) (c : Nat) (l : List Tm) (t : Tm) (w : World) (hr : TRow w a c l) (hl : ∀ t ∈ l, t.1.length ≤ maxLen) (ht : t.1.length ≤ maxLen) (h : setE l t ≠ 0) :
    Calls Try.prog 10 #[.slice a l.length c, TV t] w fun e w' => ∃ a' c' n, e = .returned (.tuple #[.slice a' 0 c', .int .i64 n]) ∧ (n == 0) = false ∧ Below w.heap.size w w' :=
  (set_any a c l t w hr hl ht).mono fun e w' ⟨a', c', e1, e2, e3⟩ => by
    rw [setR_not h] at e1
    exact ⟨a', c', _, e1, by simpa using h, e3⟩
theorem drop_ok (a : Option Addr) (c : Nat) (l : List Tm) (u : List UInt8) (w : World) (hr : TRow w a c l) (hl : ∀ t ∈ l, t.1.length ≤ maxLen) (h : dropE l u = 0) {m : List Tm} (hm : dropL l u = m) :
    Calls Try.prog 17 #[.slice a l.length c, .string (bs u)] w fun e w' => ∃ a' c', e = .returned (.tuple #[.slice a' m.length c', .int .i64 0]) ∧ TRow w' a' c' m ∧ Below w.heap.size w w' :=
  (drop_any a c l u w hr hl).mono fun e w' ⟨a', c', e1, e2, e3⟩ => by
    rw [dropR, if_pos h, hm] at e1 e2
    rw [h] at e1
    exact ⟨a', c', e1, e2, e3⟩
theorem drop_bad (a : Option Addr) (c : Nat) (l : List Tm) (u : List UInt8) (w : World) (hr : TRow w a c l) (hl : ∀ t ∈ l, t.1.length ≤ maxLen) {n : Int} (h : dropE l u = n) (h0 : n ≠ 0) :
    Calls Try.prog 17 #[.slice a l.length c, .string (bs u)] w fun e w' => ∃ a' c', e = .returned (.tuple #[.slice a' 0 c', .int .i64 n]) ∧ Below w.heap.size w w' :=
  (drop_any a c l u w hr hl).mono fun e w' ⟨a', c', e1, e2, e3⟩ => by
    rw [dropR, if_neg (by rw [h]; exact h0)] at e1
    rw [h] at e1
    exact ⟨a', c', e1, e3⟩
theorem same_is (a b : Option Addr) (c d : Nat) (l m : List Tm) (w : World) (hr : TRow w a c l) (hs : TRow w b d m) (hq : l.length ≤ 1000000) (h : l = m) :
    Calls Try.prog 14 #[.slice a l.length c, .slice b m.length d] w fun e w' => e = .returned (.bool true) ∧ ∃ n, w' = w.drewN n := by
  have := same_any a b c d l m w hr hs hq (h ▸ hq)
  rw [show decide (l = m) = true by simp [h]] at this
  exact this

/-- a term of the law's own -/
def Box (w0 W : World) (t : Tm) : Prop := Below w0.heap.size w0 W ∧ w0.heap.size < W.heap.size ∧ TAt W w0.heap.size 0 t
theorem Box.new (w0 : World) (t : Tm) : Box w0 (w0.alloc (TO t)) t := ⟨one_new _ _, by simp, TAt.new w0 t⟩
theorem Box.go {w0 W V : World} {t : Tm} (h : Box w0 W t) (hb : Below W.heap.size W V) : Box w0 V t := ⟨bel2 h.1 hb, Nat.lt_of_lt_of_le h.2.1 hb.size, h.2.2.below h.2.1 hb⟩
theorem Box.facts {w0 W : World} {t : Tm} (h : Box w0 W t) : w0.heap.size < W.heap.size ∧ W.cell? ⟨w0.heap.size, 0, none⟩ = some (.string (bs t.1)) ∧ W.cell? ⟨w0.heap.size, 1, none⟩ = some (.bool t.2.1) ∧ W.cell? ⟨w0.heap.size, 2, none⟩ = some (.bool t.2.2.1) ∧ W.cell? ⟨w0.heap.size, 3, none⟩ = some (.bool t.2.2.2) := ⟨h.2.1, h.2.2.zero⟩

end Go.Proofs.Ytjgheccnakngpaa.A
