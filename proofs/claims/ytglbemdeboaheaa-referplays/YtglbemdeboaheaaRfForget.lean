/-
  Forget: all names of a segment struck from the map while it is gone through, in whatever order its entries come.
-/
import Derived.Test.YtglbemdeboaheaaRfCalls
import Derived.Lib.SlMapFilter
import Derived.Shelf.Abstract
namespace Go.Proofs.Ytglbemdeboaheaa.Rf
open Go.ChangeShapes Go.WideShapes Go.ChangeAt Go.RowKit
open Go.Proofs.Ytglbemdeboaheaa.N (bs bs_data bs_size bs_inj may retB)
open Go.Maps (Fk Fk_start Fk_end Fk_struck Fk_stays)

/-- is the element this segment? -/
def segD (s : Int) (_ : Lit) : DataW Unit → Bool
  | .lit (.int _ v) => v == s
  | _ => false

set_option maxHeartbeats 400000 in
theorem closure_any (r : Int) (n : Txt) (v s : Int) (bx : Nat) (W : World) (hx : W.cell? ⟨bx, 0, none⟩ = some (.int .i64 s)) :
    Calls Try.prog 21 #[KV r n, .int .i64 v, .pointer (some ⟨bx, 0, none⟩)] W fun e w' => e = .returned (.bool (v == s)) ∧ W.grownBy w' none := by
  have hl : bx < W.heap.size := World.block_lt_of_cell? _ _ hx
  have h1 : (W.alloc (.cells #[.int .i64 r, .string (bs n)] 50)).cell? ⟨bx, 0, none⟩ = some (.int .i64 s) := by rw [← hx]; exact (one_new W _).cell (p := ⟨bx, 0, none⟩) hl
  go_enter Try.func21, Try.ntmps21
  go_wp2
  go_ret
  exact ⟨rfl, World.grownBy_alloc _ _ _⟩

set_option maxHeartbeats 2000000 in
theorem delete_any {w : World} {mb c bx : Nat} {s : Int} {es : List (Lit × DataW Unit)} (hown : w.ownsMap Try.prog 50 intR mb c (.map es)) (hbox : w.cell? ⟨bx, 0, none⟩ = some (.int .i64 s)) (hne : bx ≠ mb) :
    Calls Try.prog 20 #[.map (some mb), .func (.func 21) #[] #[.pointer (some ⟨bx, 0, none⟩)]] w fun e w' =>
      e = .returned (.tuple #[]) ∧ w'.ownsMap Try.prog 50 intR mb c (Lib.deleteFuncD (segD s) (.map es)) ∧ w.grownBy w' (some mb) := by
  obtain ⟨es0, e0, hap, hkeys⟩ := hown.entries lawRef
  cases e0
  have HB := Lib.hid hbox
  have HA := Lib.hid hap
  have HK := Lib.hid hkeys
  clear hbox hap hkeys
  go_enter Try.func20, Try.ntmps20
  go_wp2_with (first
    | (at_range; refine wpList_range_own _ rfl _ 44 rfl 50 3 lawRef Try.underlying44 intR mb c _ rfl hown ?_; intro w0 hrg0 hg0 hs0)
    | go_in)
  go_frame
  go_loopw [8] (fun _ wr => Hid (∃ (left : Lit → Bool) (cnt : Nat), wr.ranges Try.prog 50 intR mb w.heap.size c (Fk (segD s) es left) left cnt ∧ w.grownBy wr (some mb)))
    (fun _ wr => wr.rangeLeft mb w.heap.size)
  case atStart => exact Lib.hid ⟨_, _, by rw [Fk_start HK.out]; exact hrg0, hg0.but _⟩
  case round =>
    clear hrg0 hg0 hs0
    obtain ⟨left, cnt, hrg, hgw⟩ := hrel.out
    have HG := Lib.hid hgw
    clear hrel hgw
    go_wp2_with (first
      | (at_next; refine wpList_next_ranges _ rfl _ rfl 50 lawRef intR (fun x : Int × Txt => KV x.1 x.2) (fun z : Int => Value.int .i64 z) (fun key l hkey => by obtain ⟨r, n, e, _⟩ := key_inv hkey; exact ⟨(r, n), e⟩) (fun v y hv => by obtain ⟨z, e, _⟩ := intR_is hv; exact ⟨z, e⟩) mb w.heap.size c _ left cnt rfl hrg ?_ ?_)
      | go_in)
    · intro _ hl0
      have HL := Lib.hid hl0
      clear hl0
      go_wp2
      go_end0
      exact ⟨rfl, by rw [← Fk_end HL.out]; exact hrg.owns, HG.out⟩
    · intro r n v l yd yp w1 cnt1 hkey hlx hv hat hrg1 hlt hg1 hs1 hen
      obtain ⟨r1, n1, ek, hk, rfl⟩ := key_inv hkey
      obtain ⟨rfl, rfl⟩ := KV_inj ek
      obtain ⟨v1, ev, ey⟩ := intR_is hv
      cases ev
      cases ey
      have HX := Lib.hid hlx
      have HT := Lib.hid hat
      have HR := Lib.hid hkey
      have HW := Lib.hid (HG.out.andThen hg1 (fun j hj => by cases hj; exact Or.inl (Nat.le_refl _)))
      have HLT := Lib.hid hlt
      have hw1 : w.heap.size < w1.heap.size := hrg1.lt
      have HF := Lib.hid ((hrg1.alloc (.cells #[.int .i64 r, .string (bs n)] 50)))
      have CB : Hid ((w1.alloc (.cells #[.int .i64 r, .string (bs n)] 50)).cell? ⟨bx, 0, none⟩ = some (.int .i64 s)) := Lib.hid (by
        have h1 := HW.out.cell HB.out (fun e => hne (by cases e; rfl))
        rw [← h1]
        exact (one_new w1 _).cell (p := ⟨bx, 0, none⟩) (World.block_lt_of_cell? _ _ h1))
      have N0 : Hid ((w1.alloc (.cells #[.int .i64 r, .string (bs n)] 50)).cell? ⟨w1.heap.size, 0, none⟩ = some (.int .i64 r)) := Lib.hid (by simp)
      have N1 : Hid ((w1.alloc (.cells #[.int .i64 r, .string (bs n)] 50)).cell? ⟨w1.heap.size, 1, none⟩ = some (.string (bs n))) := Lib.hid (by simp)
      clear hkey hlx hv hat hg1 hs1 hlt ek hrg1
      cases hp : v == s
      · have hc := closure_any r n v s bx _ CB.out
        rw [hp] at hc
        have HP := Lib.hid hp
        have HC := Lib.hid hc
        clear hp hc
        go_wp2_with (first
          | (go_at_call 21; refine HC.out.mono ?_; rintro e w2 ⟨rfl, hg2⟩; have G2 := Lib.hid hg2; have hrg2 := Lib.hid (HF.out.kept hg2 (by simp) (by simp)); clear hg2)
          | go_in)
        go_roundw
        case rel => exact Lib.hid ⟨_, cnt1, by rw [← Fk_stays HA.out (kl_key r n) HX.out (show segD s (kl r n) (.lit (.int .i64 v)) = false from HP.out) HT.out]; exact hrg2.out, (HW.out.andThen (World.grownBy_alloc w1 _ none) (fun j hj => by cases hj)).andThen G2.out (fun j hj => by cases hj)⟩
        case measure => rw [hrg2.out.left_eq, hrg.left_eq]; exact HLT.out
      · have hc := closure_any r n v s bx _ CB.out
        rw [hp] at hc
        have HP := Lib.hid hp
        have HC := Lib.hid hc
        clear hp hc
        go_wp2_with (first
          | (go_at_call 21; refine HC.out.mono ?_; rintro e w2 ⟨rfl, hg2⟩; have G2 := Lib.hid hg2; have hrg2 := Lib.hid (HF.out.kept hg2 (by simp) (by simp)); have d0 := hg2.cell N0.out (by simp); have d1 := hg2.cell N1.out (by simp); clear hg2)
          | (at_delete; refine wpList_delete_ranges _ rfl _ _ 44 50 rfl 3 lawRef Try.underlying44 intR mb w.heap.size c _ _ _ rfl hrg2.out _ _ rfl HR.out ?_; intro w3 cnt3 hrg3 hle hturn; go_frame)
          | go_in)
        rw [Maps.strike_twice] at hrg3
        go_roundw
        case rel => exact Lib.hid ⟨_, cnt3, by rw [← Fk_struck HA.out (kl_key r n) HX.out (show segD s (kl r n) (.lit (.int .i64 v)) = true from HP.out) HT.out]; exact hrg3, ((HW.out.andThen (World.grownBy_alloc w1 _ none) (fun j hj => by cases hj)).andThen G2.out (fun j hj => by cases hj)).andThen hturn.grown (fun j hj => by cases hj; exact Or.inr rfl)⟩
        case measure => rw [hrg3.left_eq, hrg.left_eq]; have := HLT.out; omega

set_option maxHeartbeats 1000000 in
theorem delete_nil (fv : Value) (w : World) :
    Calls Try.prog 20 #[.map none, fv] w fun e w' => e = .returned (.tuple #[]) ∧ w' = w.alloc (.mapIter none 0 #[] 0) := by
  have hrg := run_range_nilMap (P := Try.prog) w 44 _ _ Try.underlying44
  have hnx : ∀ ty, (Instr.next (.pointer (some ⟨w.heap.size, 0, none⟩)) false ty).run Try.prog (w.alloc (.mapIter none 0 #[] 0)) = _ := fun ty => run_next_nilMap _ ty 0 0 #[]
  go_enter Try.func20, Try.ntmps20
  go_wp2
  refine wp_loop_rounds 1 ?_
  rw [rounds_succ]
  go_wp2
  go_end0
  exact ⟨rfl, rfl⟩

section
variable {w : World} {b : Nat} {F : Nat → Prop} {c : Nat} {L : List E} {mp : Option Nat}

theorem filter_seg (L : List E) (s : Int) : (L.map enc).filter (fun p => !segD s p.1 p.2) = (forget L s).map enc := by
  rw [List.filter_map, forget]
  rfl

theorem RfL.struck {mb : Nat} (h : RfL w b F c L (some mb)) (s : Int) {es : List (Lit × DataW Unit)} (hp : es.Perm (L.map enc)) {w' : World} (hD : w'.ownsMap Try.prog 50 intR mb c (Lib.deleteFuncD (segD s) (.map es))) (hg : w.grownBy w' (some mb)) : RfL w' b F c (forget L s) (some mb) :=
  h.turn hg ⟨_, hD, by rw [← filter_seg]; exact hp.filter _⟩ (h.good.forget s)

theorem len_forget (L : List E) (s : Int) : (forget L s).length ≤ L.length := List.length_filter_le _ _

set_option maxHeartbeats 1000000 in
theorem forget_any (h : RfAt w b F c L) (s : Int) {k : Int} (hc : c ≤ maxLen) (hk : ((L.length : Nat) : Int) - ((forget L s).length : Nat) = k) :
    Calls Try.prog 12 #[RP b, .int .i64 s] w fun e w' => e = .returned (.int .i64 k) ∧ Went F w F w' ∧ RfAt w' b F c (forget L s) := by
  obtain ⟨mp, h⟩ := h
  have hle := h.le
  have hle2 := len_forget L s
  unfold maxLen at hc
  have h1 := h.keep (w' := w.alloc (.cells #[.int .i64 s] 3)) (by simp) (fun i hi => heap_alloc_old _ _ (h.ltF i hi))
  have c0 := h.cell
  have c1 := h1.cell
  have l1 := h1.len
  have hbw := h.lt
  have hlt := h.ltF
  have hb1 : (w.alloc (.cells #[.int .i64 s] 3)).cell? ⟨w.heap.size, 0, none⟩ = some (.int .i64 s) := by simp
  have e64 : IntKind.i64.wrap ((L.length : Int) - ((forget L s).length : Nat)) = k := by rw [IntWalk.i64_in _ (by omega)]; exact hk
  have HK := Lib.hid hk
  cases mp with
  | none =>
    have hL := h.none_ rfl
    subst hL
    obtain rfl : k = 0 := by rw [← hk]; rfl
    have H2 := Lib.hid ((h1.keep (w' := (w.alloc (.cells #[.int .i64 s] 3)).alloc (.mapIter none 0 #[] 0)) (by simp) (fun i hi => heap_alloc_old _ _ (h1.ltF i hi))))
    have c2 := H2.out.cell
    have l2 := H2.out.len
    clear h h1 hle hle2 hk e64
    go_enter Try.func12, Try.ntmps12
    go_wp2_with (go_at_call 20; ((with_reducible refine (delete_nil _ _).mono ?_); rintro e w1 ⟨rfl, rfl⟩))
    go_ret
    exact ⟨rfl, Went.of_below ((one_new w _).trans ((one_new _ _).mono (by simp))), _, H2.out⟩
  | some mb =>
    obtain ⟨es, hD, hp⟩ := h1.some_ mb rfl
    have HC := Lib.hid (delete_any hD hb1 (fun e => by have := hlt mb (h.inM mb rfl); omega))
    have H1 := Lib.hid h1
    have HP := Lib.hid hp
    clear h h1 hD hp
    have LL := Lib.hid hlt
    clear hlt
    go_enter Try.func12, Try.ntmps12
    go_wp2_with (go_at_call 20; ((with_reducible refine HC.out.mono ?_); rintro e w2 ⟨rfl, d1, d2⟩; have H2 := Lib.hid (H1.out.struck s HP.out d1 d2); have c2 := H2.out.cell; have l2 := H2.out.len; have D2 := Lib.hid d2; clear d1 d2))
    go_ret
    exact ⟨rfl, (Went.of_below (one_new w _)).trans (Went.grown D2.out (H1.out.inM mb rfl)), _, H2.out⟩

end

end Go.Proofs.Ytglbemdeboaheaa.Rf
