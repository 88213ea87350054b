/-
  The document's example holds: awake answers true. And the contracts of Words, Read, Letters and SameWords in the form that the laws use.
-/
import Derived.Test.YtjpfhnainjhhgaaLRef
namespace Go.Proofs.Ytjpfhnainjhhgaa.W
open Go.ChangeShapes Go.WideShapes Go.ChangeAt Go.RowKit
open Go.Proofs.Ytjpfhnainjhhgaa.N (bs bs_data bs_of bs_size)

theorem words_is (s : ByteArray) (w : World) (h : s.size ≤ 255) {l : List UInt8} {n : Nat} (hl : s.data.toList = l) (hn : nw s.size = n) :
    Calls Try.prog 8 #[.string s] w fun e w' => e = .returned (.tuple #[.slice (some ⟨w.heap.size, 0, none⟩) n n, .int .i64 0]) ∧ w'.heap[w.heap.size]? = some (row (wds l)) ∧ Below w.heap.size w w' := by
  subst hl hn
  exact words_any s w h

theorem nums_of {w : World} {b o : Nat} {zs : List Int} (h : Lie w b o zs) : NumsIn .u64 w (some ⟨b, o, none⟩) zs := fun _ => ⟨b, o, rfl, h⟩
theorem wds_u64 {l : List UInt8} (h : l.length ≤ 255) : ∀ z ∈ wds l, U64 z := fun z hz => by
  have := wds_bd h z hz
  exact ⟨this.1, by omega⟩

theorem awake_any (w : World) : Calls Try.prog 7 #[] w fun e w' => e = .returned (.bool true) ∧ Below w.heap.size w w' := by
  have hw := words_is (s := ⟨#[97, 98]⟩) w (l := [97, 98]) (n := 2) (by decide) rfl rfl
  have hr : ∀ W : World, Lie W w.heap.size 0 (wds [97, 98]) → Calls Try.prog 9 #[.slice (some ⟨w.heap.size, 0, none⟩) 2 2] W fun e w' => e = .returned (.tuple #[.string ⟨#[97, 98]⟩, .int .i64 2, .int .i64 0]) ∧ Below W.heap.size W w' := fun W hL => by
    have hg := pre_good (l := [97, 98]) (more := []) (by decide)
    have ht := pre_txt (l := [97, 98]) (more := []) (by decide)
    have hn := pre_rl (l := [97, 98]) (more := []) (by decide)
    rw [List.append_nil] at hg ht hn
    exact read_yes (c := 2) (nums_of hL) (wds_u64 (by decide)) hg ht hn
  have HR := Lib.hid hr
  clear hr
  go_enter Try.func7, Try.ntmps7
  go_wp2_with (first
    | (go_at_call 8; ((with_reducible refine hw.mono ?_); rintro e w1 ⟨rfl, h1, b1⟩; have HL := Lib.hid (row_lie h1); clear h1))
    | (go_at_call 9; ((with_reducible refine (HR.out w1 HL.out).mono ?_); rintro e w2 ⟨rfl, b2⟩; have q0 := HL.out.below b2 0 (by decide); have q1 := HL.out.below b2 1 (by decide); rw [show (wds [97, 98]).getD 0 0 = 2 by decide] at q0; rw [show (wds [97, 98]).getD 1 0 = 13044809728 by decide] at q1)))
  go_ret
  exact ⟨rfl, b1.trans (b2.mono b1.size)⟩

end Go.Proofs.Ytjpfhnainjhhgaa.W
