/-
  The law LettersTurn answers true.
-/
import Derived.Test.YtjpfhnainjhhgaaLOwn
namespace Go.Proofs.Ytjpfhnainjhhgaa.W
open Go.ChangeShapes Go.WideShapes Go.ChangeAt Go.RowKit
open Go.Proofs.Ytjpfhnainjhhgaa.N (bs bs_data bs_of bs_size)

theorem u64_wf {n : Int} (h : (Lit.int .u64 n).wf = true) : U64 n := by
  have := bounds_u64 h
  exact ⟨this.1, by have := this.2; omega⟩

set_option maxRecDepth 8000 in
set_option maxHeartbeats 2000000 in
theorem turn_walk (s : ByteArray) (p : Option Addr) (cap : Nat) (zs : List Int) (w : World) (hs : s.size ≤ maxLen) (hN : NumsIn .u64 w p zs) (hm : zs.length ≤ maxLen) (hz : ∀ n ∈ zs, (Lit.int .u64 n).wf = true) :
    Calls Try.prog 3 #[.string s, .slice p zs.length cap] w fun e w' => e = .returned (.bool true) ∧ Below w.heap.size w w' := by
  have hz' : ∀ z ∈ zs, U64 z := fun z h => u64_wf (hz z h)
  have HN := Lib.hid hN
  have HZ := Lib.hid hz'
  clear hN hz hz'
  unfold maxLen at hs hm
  by_cases h1 : 2000 < s.size
  · have t1 : decide ((s.size : Int) > 2000) = true := decide_eq_true (by omega)
    go_enter Try.func3, Try.ntmps3
    go_wp2_with (go_at_call 7; ((with_reducible refine (awake_any w).mono ?_); rintro e wa ⟨rfl, ba⟩))
    go_ret
    exact ⟨rfl, ba⟩
  have t1 : decide ((s.size : Int) > 2000) = false := decide_eq_false (by omega)
  by_cases h2 : 100 < zs.length
  · have t2 : decide ((zs.length : Int) > 100) = true := decide_eq_true (by omega)
    go_enter Try.func3, Try.ntmps3
    go_wp2_with (go_at_call 7; ((with_reducible refine (awake_any w).mono ?_); rintro e wa ⟨rfl, ba⟩))
    go_ret
    exact ⟨rfl, ba⟩
  have t2 : decide ((zs.length : Int) > 100) = false := decide_eq_false (by omega)
  by_cases h3 : 255 < s.size
  · have t3 : decide ((s.size : Int) > 255) = true := decide_eq_true (by omega)
    have hw : ∀ W, _ := fun W => words_long s W h3 (by unfold maxLen; omega)
    go_enter Try.func3, Try.ntmps3
    go_wp2_with (first
      | (go_at_call 7; ((with_reducible refine (awake_any w).mono ?_); rintro e wa ⟨rfl, ba⟩))
      | (go_at_call 8; ((with_reducible refine (hw wa).mono ?_); rintro e wb ⟨rfl, eb⟩; obtain rfl := eb.symm)))
    go_ret
    exact ⟨rfl, ba⟩
  have t3 : decide ((s.size : Int) > 255) = false := decide_eq_false (by omega)
  have hsz : s.data.toList.length = s.size := Array.length_toList
  obtain ⟨i0, hi, hz0, hz1, hz2⟩ := info_parts info_word
  have hlw : (wds s.data.toList).length = nw s.size := by rw [wds_len, hsz]
  have hn65 := nw_le (show s.size ≤ 255 by omega)
  have hw : ∀ W, _ := fun W => words_any s W (by omega)
  have hrd : ∀ (W : World) (q : Option Addr) (c : Nat), NumsIn .u64 W q (wds s.data.toList ++ zs) → Calls Try.prog 9 #[.slice q (nw s.size + zs.length) c] W fun e w' => e = .returned (.tuple #[.string s, .int .i64 (nw s.size), .int .i64 0]) ∧ Below W.heap.size W w' := fun W q c hq => by
    have := read_yes (c := c) hq (fun z hz => (List.mem_append.1 hz).elim (wds_u64 (by omega) z) (HZ.out z)) (pre_good (by omega)) (pre_txt (by omega)) (pre_rl (by omega))
    rw [List.length_append, hlw, hsz, bs_of] at this
    exact this
  have hle : ∀ W, _ := fun W => letters_any s W (by omega)
  have hsm : ∀ (W : World) (g1 o1 g2 o2 c d : Nat), Lie W g1 o1 (wds s.data.toList) → Lie W g2 o2 (wds s.data.toList) → Calls Try.prog 10 #[.slice (some ⟨g1, o1, none⟩) (nw s.size) c, .slice (some ⟨g2, o2, none⟩) (nw s.size) d] W fun e w' => e = .returned (.bool true) ∧ ∃ n, w' = W.drewN n := fun W g1 o1 g2 o2 c d l1 l2 => by
    have := same_any (c := c) (d := d) _ _ W l1 l2 (by omega)
    rw [hlw] at this
    exact this.mono fun e w' ⟨e1, e2⟩ => ⟨by rw [e1]; simp, e2⟩
  have F3 : Hid (nw s.size ≤ 100000) := Lib.hid (by omega)
  have F5 : Hid (nw s.size + zs.length ≤ 100000) := Lib.hid (by omega)
  have HLx : Hid ((wds s.data.toList ++ zs).length = nw s.size + zs.length) := Lib.hid (by rw [List.length_append, hlw])
  have HS : (s.toList == s.toList) = true := beq_self_eq_true _
  have HR := Lib.hid hrd
  have HLe := Lib.hid hle
  have HSm := Lib.hid hsm
  have HLw := Lib.hid hlw
  clear hrd hle hsm hlw hsz
  go_enter Try.func3, Try.ntmps3
  go_wp2_with (first
    | (go_at_call 7; ((with_reducible refine (awake_any w).mono ?_); rintro e wa ⟨rfl, ba⟩))
    | (go_at_call 8; ((with_reducible refine (hw wa).mono ?_); rintro e wb ⟨rfl, hb, bb⟩; have HL := Lib.hid (row_lie hb); clear hb; have HO := Lib.hid (ownW_lit (base := wb.heap.size) (w := wb) (Nat.le_refl _)); have one := Lib.hid (show Below wb.heap.size wb (wb.alloc (.cells #[] 33)) from (Below.refl _ _).alloc (Nat.le_refl _) _)))
    | (at_builtin; refine wpList_nums rfl _ _ rfl Try.underlying22 hi hz0 hz1 hz2 rfl HO.out (some ⟨wa.heap.size, 0, none⟩) (nw s.size) (nw s.size) rfl (wds s.data.toList) HLw.out (nums_of (HL.out.below one.out)) (nw s.size) (wds s.data.toList) (List.nil_append _) HLw.out F3.out one.out.size ?_; intro p1 c1 w1 ho1 _ hg1; have b1 := Lib.hid (one.out.trans (below_grown (B := wb.heap.size) hg1 one.out.size (fun g hg => by cases hg; exact Nat.le_refl _))); have HO1 := Lib.hid ho1; have N1 := Lib.hid (((HN.out.below ba).below bb).below b1.out); clear ho1 hg1)
    | (at_builtin; refine wpList_nums rfl _ _ rfl Try.underlying22 hi hz0 hz1 hz2 rfl HO1.out p zs.length cap rfl zs rfl N1.out (nw s.size + zs.length) (wds s.data.toList ++ zs) rfl HLx.out F5.out b1.out.size ?_; intro p2 c2 w2 _ n2 hg2; have b2 := Lib.hid (b1.out.trans (below_grown (B := wb.heap.size) hg2 b1.out.size (fun g hg => (HO1.out.que.lt g hg).1))); have N2 := Lib.hid n2; clear n2 hg2)
    | (go_at_call 9; ((with_reducible refine (HR.out w2 p2 c2 N2.out).mono ?_); rintro e w3 ⟨rfl, b3⟩))
    | (go_at_call 11; ((with_reducible refine (HLe.out w3).mono ?_); rintro e w4 ⟨g4, o4, c4, rfl, l4, b4⟩; have HL4 := Lib.hid l4; clear l4))
    | (go_at_call 10; ((with_reducible refine (HSm.out w4 _ _ _ _ _ _ (((HL.out.below b2.out).below b3).below b4) HL4.out).mono ?_); rintro e w5 ⟨rfl, n5, e5⟩; obtain rfl := e5.symm)))
  go_ret
  have c1 := ba.trans (bb.mono ba.size)
  have c2' := c1.trans (b2.out.mono c1.size)
  have c3 := c2'.trans (b3.mono c2'.size)
  have c4' := c3.trans (b4.mono c3.size)
  exact ⟨rfl, ⟨c4'.os, c4'.tape, c4'.output, c4'.size, c4'.block⟩⟩

end Go.Proofs.Ytjpfhnainjhhgaa.W
