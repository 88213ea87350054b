/-
  The document's own test whether a branch may be added (can).
-/
import Derived.Test.YtpcdcmoapenbdaaDoorMHeads
namespace Go.Proofs.YtpcdcmoapenbdaaDoor.T
open Go.ChangeShapes Go.WideShapes Go.ChangeAt Go.RowKit
open Go.Proofs.YtpcdcmoapenbdaaDoor.N (bs bs_data bs_size bs_inj bs_of Glob)
open Go.Proofs.YtpcdcmoapenbdaaDoor.A (Tm TRow)

def canE (m : Ms) (d : Int) (s : Txt) (br : Br) : Int :=
  if isMD m.D d = false then 4 else if N.may 32 s = false then 3 else if (at? m.E d s).isSome = true then 5 else if br.kind < 1 ∨ 3 < br.kind then 15
  else if br.kind = 1 then (if br.uid < 1 ∨ A.lmay br.acl = false ∨ W.bmay br.r1 br.r2 br.r3 br.gt = false then 1 else if hasU m br.uid = true then 5 else 0)
  else if br.kind = 3 then (if N.er br.link = 0 then 0 else 3) else 0

theorem nameMay_is {s : Txt} (hs : s.length ≤ maxLen) {r : Bool} (h : N.may 32 s = r) (V : World) : Calls Tryd.prog 36 #[.string (bs s)] V fun e w' => e = .returned (.bool r) ∧ V = w' := by
  have := N.nameMay_any (bs s) V (by rw [bs_size]; exact hs)
  rw [bs_data, h] at this
  exact this.mono fun _ _ h => ⟨h.1, h.2.symm⟩
theorem refEr_is {l : Txt} (hl : l.length ≤ maxLen) {E : Int} (he : N.er l = E) (V : World) : Calls Tryd.prog 32 #[.string (bs l)] V fun e w' => ∃ a n c, e = .returned (.tuple #[.slice a n c, .int .i64 E]) ∧ Below V.heap.size V w' := by
  have := N.refSplit_any (bs l) V (by rw [bs_size]; exact hl)
  rw [bs_data] at this
  exact this.mono fun e w' ⟨a, c, h1, _, h3⟩ => ⟨a, (N.ps l).length, c, by rw [h1, he], h3⟩
theorem listMay_is {V : World} {a : Option Addr} {c : Nat} {l : List Tm} (hr : TRow V a c l) (hl : ∀ t ∈ l, t.1.length ≤ maxLen) {r : Bool} (h : A.lmay l = r) : Calls Tryd.prog 66 #[.slice a l.length c] V fun e w' => e = .returned (.bool r) ∧ ∃ n, w' = V.drewN n := by
  have := A.listMay_any a c l V hr hl
  rw [h] at this
  exact this
theorem refRing_is {r1 r2 r3 gt : Int} {r : Bool} (h : W.bmay r1 r2 r3 gt = r) (V : World) : Calls Tryd.prog 67 #[.agg #[.int .i64 r1, .int .i64 r2, .int .i64 r3, .int .i64 gt]] V fun e w' => e = .returned (.bool r) ∧ w' = V.alloc (W.BO r1 r2 r3 gt) := by
  have := W.rmay_any r1 r2 r3 gt V
  rw [h] at this
  exact this
theorem mat_is {w : World} {b : Nat} {F : Nat → Prop} {m : Ms} (h : MAt w b F m) {d : Int} {s : Txt} {r : Int} (e : atN (at? m.E d s) = r) :
    Calls Tryd.prog 45 #[TP b, .int .i64 d, .string (bs s)] w fun e w' => e = .returned (.int .i64 r) ∧ w = w' := by
  subst e
  exact mat_any h d s
theorem mdir_is {w : World} {b : Nat} {F : Nat → Prop} {m : Ms} (h : MAt w b F m) {d : Int} {r : Bool} (e : isMD m.D d = r) :
    Calls Tryd.prog 65 #[TP b, .int .i64 d] w fun e w' => e = .returned (.bool r) ∧ w = w' := by
  subst e
  exact mdir_any h d
theorem MAt.drewN {w : World} {b : Nat} {F : Nat → Prop} {m : Ms} (h : MAt w b F m) (n : Nat) : MAt (w.drewN n) b F m := h.below (bel_drewN _ _)
theorem MAt.alloc {w : World} {b : Nat} {F : Nat → Prop} {m : Ms} (h : MAt w b F m) (o : Obj) : MAt (w.alloc o) b F m := h.below (one_new _ _)

set_option maxHeartbeats 8000000 in
theorem can_any {w : World} {b : Nat} {F : Nat → Prop} {m : Ms} (h : MAt w b F m) {d : Int} {s : Txt} (hs : s.length ≤ maxLen) {br : Br} {a : Option Addr} {cc : Nat} (hr : TRow w a cc br.acl) (htx : ∀ t ∈ br.acl, t.1.length ≤ maxLen) (hl : br.link.length ≤ maxLen) {r : Int} (hR : canE m d s br = r) :
    Calls Tryd.prog 43 #[TP b, .int .i64 d, .string (bs s), BrV br (.slice a br.acl.length cc)] w fun e w' => e = .returned (.int .i64 r) ∧ Below w.heap.size w w' := by
  have H := Lib.hid h
  have HR := Lib.hid hr
  have HT := Lib.hid htx
  have HE := Lib.hid hR
  clear h hr htx hR
  cases h1 : isMD m.D d with
  | false =>
    have M1 := Lib.hid h1
    obtain rfl : r = 4 := by rw [← HE.out]; simp [canE, h1]
    clear h1
    go_enter Tryd.func43, Tryd.ntmps43
    go_wp2_with (first
      | (go_at_call 65; ((refine (mdir_is (H.out.alloc _) M1.out).mono ?_); rintro e w1 ⟨rfl, rfl⟩; have B1 := Lib.hid (one_new w (BmO br (.slice a br.acl.length cc)))))
      | (go_at_call 36; ((refine (nameMay_is hs M2.out _).mono ?_); rintro e w1 ⟨rfl, rfl⟩))
      | (go_at_call 45; ((refine (mat_is (H.out.alloc _) M3.out).mono ?_); rintro e w1 ⟨rfl, rfl⟩))
      | (go_at_call 66; ((refine (listMay_is (HR.out.alloc _) HT.out M4.out).mono ?_); rintro e w1 ⟨rfl, n1, rfl⟩; have B2 := Lib.hid (bel2 B1.out (bel_drewN _ n1))))
      | (go_at_call 67; ((refine (refRing_is M5.out _).mono ?_); rintro e w1 ⟨rfl, rfl⟩; have B3 := Lib.hid (bel2 B2.out (one_new _ (W.BO br.r1 br.r2 br.r3 br.gt)))))
      | (go_at_call 68; ((refine (muid_any (((H.out.alloc _).drewN _).alloc _) br.uid).mono ?_); rintro e w1 ⟨r1, rfl, hr1, n2, rfl⟩; rw [M6.out] at hr1; have B4 := Lib.hid (bel2 B3.out (bel_drewN _ n2))))
      | (go_at_call 32; ((refine (refEr_is hl M7.out _).mono ?_); rintro e w1 ⟨a1, n1, c1, rfl, b1⟩; have B5 := Lib.hid (bel2 B1.out b1))))
    go_ret
    exact ⟨rfl, one_new _ _⟩
  | true =>
    have M1 := Lib.hid h1
    cases h2 : N.may 32 s with
    | false =>
      have M2 := Lib.hid h2
      obtain rfl : r = 3 := by rw [← HE.out]; simp [canE, h1, h2]
      clear h1 h2
      go_enter Tryd.func43, Tryd.ntmps43
      go_wp2_with (first
        | (go_at_call 65; ((refine (mdir_is (H.out.alloc _) M1.out).mono ?_); rintro e w1 ⟨rfl, rfl⟩; have B1 := Lib.hid (one_new w (BmO br (.slice a br.acl.length cc)))))
        | (go_at_call 36; ((refine (nameMay_is hs M2.out _).mono ?_); rintro e w1 ⟨rfl, rfl⟩))
        | (go_at_call 45; ((refine (mat_is (H.out.alloc _) M3.out).mono ?_); rintro e w1 ⟨rfl, rfl⟩))
        | (go_at_call 66; ((refine (listMay_is (HR.out.alloc _) HT.out M4.out).mono ?_); rintro e w1 ⟨rfl, n1, rfl⟩; have B2 := Lib.hid (bel2 B1.out (bel_drewN _ n1))))
        | (go_at_call 67; ((refine (refRing_is M5.out _).mono ?_); rintro e w1 ⟨rfl, rfl⟩; have B3 := Lib.hid (bel2 B2.out (one_new _ (W.BO br.r1 br.r2 br.r3 br.gt)))))
        | (go_at_call 68; ((refine (muid_any (((H.out.alloc _).drewN _).alloc _) br.uid).mono ?_); rintro e w1 ⟨r1, rfl, hr1, n2, rfl⟩; rw [M6.out] at hr1; have B4 := Lib.hid (bel2 B3.out (bel_drewN _ n2))))
        | (go_at_call 32; ((refine (refEr_is hl M7.out _).mono ?_); rintro e w1 ⟨a1, n1, c1, rfl, b1⟩; have B5 := Lib.hid (bel2 B1.out b1))))
      go_ret
      exact ⟨rfl, one_new _ _⟩
    | true =>
      have M2 := Lib.hid h2
      cases h3 : at? m.E d s with
      | some k =>
        have M3 : Hid (atN (at? m.E d s) = (k : Int)) := Lib.hid (by rw [h3]; rfl)
        obtain rfl : r = 5 := by rw [← HE.out]; simp [canE, h1, h2, h3]
        clear h1 h2 h3
        go_enter Tryd.func43, Tryd.ntmps43
        go_wp2_with (first
          | (go_at_call 65; ((refine (mdir_is (H.out.alloc _) M1.out).mono ?_); rintro e w1 ⟨rfl, rfl⟩; have B1 := Lib.hid (one_new w (BmO br (.slice a br.acl.length cc)))))
          | (go_at_call 36; ((refine (nameMay_is hs M2.out _).mono ?_); rintro e w1 ⟨rfl, rfl⟩))
          | (go_at_call 45; ((refine (mat_is (H.out.alloc _) M3.out).mono ?_); rintro e w1 ⟨rfl, rfl⟩))
          | (go_at_call 66; ((refine (listMay_is (HR.out.alloc _) HT.out M4.out).mono ?_); rintro e w1 ⟨rfl, n1, rfl⟩; have B2 := Lib.hid (bel2 B1.out (bel_drewN _ n1))))
          | (go_at_call 67; ((refine (refRing_is M5.out _).mono ?_); rintro e w1 ⟨rfl, rfl⟩; have B3 := Lib.hid (bel2 B2.out (one_new _ (W.BO br.r1 br.r2 br.r3 br.gt)))))
          | (go_at_call 68; ((refine (muid_any (((H.out.alloc _).drewN _).alloc _) br.uid).mono ?_); rintro e w1 ⟨r1, rfl, hr1, n2, rfl⟩; rw [M6.out] at hr1; have B4 := Lib.hid (bel2 B3.out (bel_drewN _ n2))))
          | (go_at_call 32; ((refine (refEr_is hl M7.out _).mono ?_); rintro e w1 ⟨a1, n1, c1, rfl, b1⟩; have B5 := Lib.hid (bel2 B1.out b1))))
        go_ret
        exact ⟨rfl, one_new _ _⟩
      | none =>
        have M3 : Hid (atN (at? m.E d s) = -1) := Lib.hid (by rw [h3]; rfl)
        by_cases k0 : br.kind < 1
        · have t0 : decide (br.kind < 1) = true := by simpa using k0
          obtain rfl : r = 15 := by rw [← HE.out]; simp [canE, h1, h2, h3, k0]
          clear h1 h2 h3 k0
          go_enter Tryd.func43, Tryd.ntmps43
          go_wp2_with (first
            | (go_at_call 65; ((refine (mdir_is (H.out.alloc _) M1.out).mono ?_); rintro e w1 ⟨rfl, rfl⟩; have B1 := Lib.hid (one_new w (BmO br (.slice a br.acl.length cc)))))
            | (go_at_call 36; ((refine (nameMay_is hs M2.out _).mono ?_); rintro e w1 ⟨rfl, rfl⟩))
            | (go_at_call 45; ((refine (mat_is (H.out.alloc _) M3.out).mono ?_); rintro e w1 ⟨rfl, rfl⟩))
            | (go_at_call 66; ((refine (listMay_is (HR.out.alloc _) HT.out M4.out).mono ?_); rintro e w1 ⟨rfl, n1, rfl⟩; have B2 := Lib.hid (bel2 B1.out (bel_drewN _ n1))))
            | (go_at_call 67; ((refine (refRing_is M5.out _).mono ?_); rintro e w1 ⟨rfl, rfl⟩; have B3 := Lib.hid (bel2 B2.out (one_new _ (W.BO br.r1 br.r2 br.r3 br.gt)))))
            | (go_at_call 68; ((refine (muid_any (((H.out.alloc _).drewN _).alloc _) br.uid).mono ?_); rintro e w1 ⟨r1, rfl, hr1, n2, rfl⟩; rw [M6.out] at hr1; have B4 := Lib.hid (bel2 B3.out (bel_drewN _ n2))))
            | (go_at_call 32; ((refine (refEr_is hl M7.out _).mono ?_); rintro e w1 ⟨a1, n1, c1, rfl, b1⟩; have B5 := Lib.hid (bel2 B1.out b1))))
          go_ret
          exact ⟨rfl, one_new _ _⟩
        by_cases k4 : 3 < br.kind
        · have t0 : decide (br.kind < 1) = false := by simpa using k0
          obtain rfl : r = 15 := by rw [← HE.out]; simp [canE, h1, h2, h3, k4]
          have t1 : decide (3 < br.kind) = true := by simpa using k4
          clear h1 h2 h3 k0 k4
          go_enter Tryd.func43, Tryd.ntmps43
          go_wp2_with (first
            | (go_at_call 65; ((refine (mdir_is (H.out.alloc _) M1.out).mono ?_); rintro e w1 ⟨rfl, rfl⟩; have B1 := Lib.hid (one_new w (BmO br (.slice a br.acl.length cc)))))
            | (go_at_call 36; ((refine (nameMay_is hs M2.out _).mono ?_); rintro e w1 ⟨rfl, rfl⟩))
            | (go_at_call 45; ((refine (mat_is (H.out.alloc _) M3.out).mono ?_); rintro e w1 ⟨rfl, rfl⟩))
            | (go_at_call 66; ((refine (listMay_is (HR.out.alloc _) HT.out M4.out).mono ?_); rintro e w1 ⟨rfl, n1, rfl⟩; have B2 := Lib.hid (bel2 B1.out (bel_drewN _ n1))))
            | (go_at_call 67; ((refine (refRing_is M5.out _).mono ?_); rintro e w1 ⟨rfl, rfl⟩; have B3 := Lib.hid (bel2 B2.out (one_new _ (W.BO br.r1 br.r2 br.r3 br.gt)))))
            | (go_at_call 68; ((refine (muid_any (((H.out.alloc _).drewN _).alloc _) br.uid).mono ?_); rintro e w1 ⟨r1, rfl, hr1, n2, rfl⟩; rw [M6.out] at hr1; have B4 := Lib.hid (bel2 B3.out (bel_drewN _ n2))))
            | (go_at_call 32; ((refine (refEr_is hl M7.out _).mono ?_); rintro e w1 ⟨a1, n1, c1, rfl, b1⟩; have B5 := Lib.hid (bel2 B1.out b1))))
          go_ret
          exact ⟨rfl, one_new _ _⟩
        by_cases k1 : br.kind = 1
        · have t2 : (br.kind == 1) = true := by simpa using k1
          have t3 : (br.kind == 3) = false := by simp [k1]
          have t0 : decide (br.kind < 1) = false := by simpa using k0
          have t1 : decide (3 < br.kind) = false := by simpa using k4
          by_cases u1 : br.uid < 1
          · have v1 : decide (br.uid < 1) = true := by simpa using u1
            obtain rfl : r = 1 := by rw [← HE.out]; simp [canE, h1, h2, h3, k1, u1]
            clear h1 h2 h3 k0 k4 k1 u1
            go_enter Tryd.func43, Tryd.ntmps43
            go_wp2_with (first
              | (go_at_call 65; ((refine (mdir_is (H.out.alloc _) M1.out).mono ?_); rintro e w1 ⟨rfl, rfl⟩; have B1 := Lib.hid (one_new w (BmO br (.slice a br.acl.length cc)))))
              | (go_at_call 36; ((refine (nameMay_is hs M2.out _).mono ?_); rintro e w1 ⟨rfl, rfl⟩))
              | (go_at_call 45; ((refine (mat_is (H.out.alloc _) M3.out).mono ?_); rintro e w1 ⟨rfl, rfl⟩))
              | (go_at_call 66; ((refine (listMay_is (HR.out.alloc _) HT.out M4.out).mono ?_); rintro e w1 ⟨rfl, n1, rfl⟩; have B2 := Lib.hid (bel2 B1.out (bel_drewN _ n1))))
              | (go_at_call 67; ((refine (refRing_is M5.out _).mono ?_); rintro e w1 ⟨rfl, rfl⟩; have B3 := Lib.hid (bel2 B2.out (one_new _ (W.BO br.r1 br.r2 br.r3 br.gt)))))
              | (go_at_call 68; ((refine (muid_any (((H.out.alloc _).drewN _).alloc _) br.uid).mono ?_); rintro e w1 ⟨r1, rfl, hr1, n2, rfl⟩; rw [M6.out] at hr1; have B4 := Lib.hid (bel2 B3.out (bel_drewN _ n2))))
              | (go_at_call 32; ((refine (refEr_is hl M7.out _).mono ?_); rintro e w1 ⟨a1, n1, c1, rfl, b1⟩; have B5 := Lib.hid (bel2 B1.out b1))))
            go_ret
            exact ⟨rfl, one_new _ _⟩
          have v1 : decide (br.uid < 1) = false := by simpa using u1
          cases h4 : A.lmay br.acl with
          | false =>
            have M4 := Lib.hid h4
            obtain rfl : r = 1 := by rw [← HE.out]; simp [canE, h1, h2, h3, k1, h4]
            clear h1 h2 h3 k0 k4 k1 u1 h4
            go_enter Tryd.func43, Tryd.ntmps43
            go_wp2_with (first
              | (go_at_call 65; ((refine (mdir_is (H.out.alloc _) M1.out).mono ?_); rintro e w1 ⟨rfl, rfl⟩; have B1 := Lib.hid (one_new w (BmO br (.slice a br.acl.length cc)))))
              | (go_at_call 36; ((refine (nameMay_is hs M2.out _).mono ?_); rintro e w1 ⟨rfl, rfl⟩))
              | (go_at_call 45; ((refine (mat_is (H.out.alloc _) M3.out).mono ?_); rintro e w1 ⟨rfl, rfl⟩))
              | (go_at_call 66; ((refine (listMay_is (HR.out.alloc _) HT.out M4.out).mono ?_); rintro e w1 ⟨rfl, n1, rfl⟩; have B2 := Lib.hid (bel2 B1.out (bel_drewN _ n1))))
              | (go_at_call 67; ((refine (refRing_is M5.out _).mono ?_); rintro e w1 ⟨rfl, rfl⟩; have B3 := Lib.hid (bel2 B2.out (one_new _ (W.BO br.r1 br.r2 br.r3 br.gt)))))
              | (go_at_call 68; ((refine (muid_any (((H.out.alloc _).drewN _).alloc _) br.uid).mono ?_); rintro e w1 ⟨r1, rfl, hr1, n2, rfl⟩; rw [M6.out] at hr1; have B4 := Lib.hid (bel2 B3.out (bel_drewN _ n2))))
              | (go_at_call 32; ((refine (refEr_is hl M7.out _).mono ?_); rintro e w1 ⟨a1, n1, c1, rfl, b1⟩; have B5 := Lib.hid (bel2 B1.out b1))))
            go_ret
            exact ⟨rfl, B2.out⟩
          | true =>
            have M4 := Lib.hid h4
            cases h5 : W.bmay br.r1 br.r2 br.r3 br.gt with
            | false =>
              have M5 := Lib.hid h5
              obtain rfl : r = 1 := by rw [← HE.out]; simp [canE, h1, h2, h3, k1, h4, h5]
              clear h1 h2 h3 k0 k4 k1 u1 h4 h5
              go_enter Tryd.func43, Tryd.ntmps43
              go_wp2_with (first
                | (go_at_call 65; ((refine (mdir_is (H.out.alloc _) M1.out).mono ?_); rintro e w1 ⟨rfl, rfl⟩; have B1 := Lib.hid (one_new w (BmO br (.slice a br.acl.length cc)))))
                | (go_at_call 36; ((refine (nameMay_is hs M2.out _).mono ?_); rintro e w1 ⟨rfl, rfl⟩))
                | (go_at_call 45; ((refine (mat_is (H.out.alloc _) M3.out).mono ?_); rintro e w1 ⟨rfl, rfl⟩))
                | (go_at_call 66; ((refine (listMay_is (HR.out.alloc _) HT.out M4.out).mono ?_); rintro e w1 ⟨rfl, n1, rfl⟩; have B2 := Lib.hid (bel2 B1.out (bel_drewN _ n1))))
                | (go_at_call 67; ((refine (refRing_is M5.out _).mono ?_); rintro e w1 ⟨rfl, rfl⟩; have B3 := Lib.hid (bel2 B2.out (one_new _ (W.BO br.r1 br.r2 br.r3 br.gt)))))
                | (go_at_call 68; ((refine (muid_any (((H.out.alloc _).drewN _).alloc _) br.uid).mono ?_); rintro e w1 ⟨r1, rfl, hr1, n2, rfl⟩; rw [M6.out] at hr1; have B4 := Lib.hid (bel2 B3.out (bel_drewN _ n2))))
                | (go_at_call 32; ((refine (refEr_is hl M7.out _).mono ?_); rintro e w1 ⟨a1, n1, c1, rfl, b1⟩; have B5 := Lib.hid (bel2 B1.out b1))))
              go_ret
              exact ⟨rfl, B3.out⟩
            | true =>
              have M5 := Lib.hid h5
              cases h6 : hasU m br.uid with
              | true =>
                have M6 := Lib.hid h6
                obtain rfl : r = 5 := by rw [← HE.out]; simp [canE, h1, h2, h3, k1, u1, h4, h5, h6]
                clear h1 h2 h3 k0 k4 k1 u1 h4 h5 h6
                go_enter Tryd.func43, Tryd.ntmps43
                go_wp2_with (first
                  | (go_at_call 65; ((refine (mdir_is (H.out.alloc _) M1.out).mono ?_); rintro e w1 ⟨rfl, rfl⟩; have B1 := Lib.hid (one_new w (BmO br (.slice a br.acl.length cc)))))
                  | (go_at_call 36; ((refine (nameMay_is hs M2.out _).mono ?_); rintro e w1 ⟨rfl, rfl⟩))
                  | (go_at_call 45; ((refine (mat_is (H.out.alloc _) M3.out).mono ?_); rintro e w1 ⟨rfl, rfl⟩))
                  | (go_at_call 66; ((refine (listMay_is (HR.out.alloc _) HT.out M4.out).mono ?_); rintro e w1 ⟨rfl, n1, rfl⟩; have B2 := Lib.hid (bel2 B1.out (bel_drewN _ n1))))
                  | (go_at_call 67; ((refine (refRing_is M5.out _).mono ?_); rintro e w1 ⟨rfl, rfl⟩; have B3 := Lib.hid (bel2 B2.out (one_new _ (W.BO br.r1 br.r2 br.r3 br.gt)))))
                  | (go_at_call 68; ((refine (muid_any (((H.out.alloc _).drewN _).alloc _) br.uid).mono ?_); rintro e w1 ⟨r1, rfl, hr1, n2, rfl⟩; rw [M6.out] at hr1; have B4 := Lib.hid (bel2 B3.out (bel_drewN _ n2))))
                  | (go_at_call 32; ((refine (refEr_is hl M7.out _).mono ?_); rintro e w1 ⟨a1, n1, c1, rfl, b1⟩; have B5 := Lib.hid (bel2 B1.out b1))))
                go_ret
                exact ⟨rfl, B4.out⟩
              | false =>
                have M6 := Lib.hid h6
                obtain rfl : r = 0 := by rw [← HE.out]; simp [canE, h1, h2, h3, k1, u1, h4, h5, h6]
                clear h1 h2 h3 k0 k4 k1 u1 h4 h5 h6
                go_enter Tryd.func43, Tryd.ntmps43
                go_wp2_with (first
                  | (go_at_call 65; ((refine (mdir_is (H.out.alloc _) M1.out).mono ?_); rintro e w1 ⟨rfl, rfl⟩; have B1 := Lib.hid (one_new w (BmO br (.slice a br.acl.length cc)))))
                  | (go_at_call 36; ((refine (nameMay_is hs M2.out _).mono ?_); rintro e w1 ⟨rfl, rfl⟩))
                  | (go_at_call 45; ((refine (mat_is (H.out.alloc _) M3.out).mono ?_); rintro e w1 ⟨rfl, rfl⟩))
                  | (go_at_call 66; ((refine (listMay_is (HR.out.alloc _) HT.out M4.out).mono ?_); rintro e w1 ⟨rfl, n1, rfl⟩; have B2 := Lib.hid (bel2 B1.out (bel_drewN _ n1))))
                  | (go_at_call 67; ((refine (refRing_is M5.out _).mono ?_); rintro e w1 ⟨rfl, rfl⟩; have B3 := Lib.hid (bel2 B2.out (one_new _ (W.BO br.r1 br.r2 br.r3 br.gt)))))
                  | (go_at_call 68; ((refine (muid_any (((H.out.alloc _).drewN _).alloc _) br.uid).mono ?_); rintro e w1 ⟨r1, rfl, hr1, n2, rfl⟩; rw [M6.out] at hr1; have B4 := Lib.hid (bel2 B3.out (bel_drewN _ n2))))
                  | (go_at_call 32; ((refine (refEr_is hl M7.out _).mono ?_); rintro e w1 ⟨a1, n1, c1, rfl, b1⟩; have B5 := Lib.hid (bel2 B1.out b1))))
                go_ret
                exact ⟨rfl, B4.out⟩
        have t2 : (br.kind == 1) = false := by simpa using k1
        by_cases k3 : br.kind = 3
        · have t3 : (br.kind == 3) = true := by simpa using k3
          have t0 : decide (br.kind < 1) = false := by simpa using k0
          have t1 : decide (3 < br.kind) = false := by simpa using k4
          rcases er_of br.link with h7 | ⟨h7, _⟩
          · have M7 := Lib.hid h7
            obtain rfl : r = 0 := by rw [← HE.out]; simp [canE, h1, h2, h3, k3, h7]
            clear h1 h2 h3 k0 k4 k1 k3 h7
            go_enter Tryd.func43, Tryd.ntmps43
            go_wp2_with (first
              | (go_at_call 65; ((refine (mdir_is (H.out.alloc _) M1.out).mono ?_); rintro e w1 ⟨rfl, rfl⟩; have B1 := Lib.hid (one_new w (BmO br (.slice a br.acl.length cc)))))
              | (go_at_call 36; ((refine (nameMay_is hs M2.out _).mono ?_); rintro e w1 ⟨rfl, rfl⟩))
              | (go_at_call 45; ((refine (mat_is (H.out.alloc _) M3.out).mono ?_); rintro e w1 ⟨rfl, rfl⟩))
              | (go_at_call 66; ((refine (listMay_is (HR.out.alloc _) HT.out M4.out).mono ?_); rintro e w1 ⟨rfl, n1, rfl⟩; have B2 := Lib.hid (bel2 B1.out (bel_drewN _ n1))))
              | (go_at_call 67; ((refine (refRing_is M5.out _).mono ?_); rintro e w1 ⟨rfl, rfl⟩; have B3 := Lib.hid (bel2 B2.out (one_new _ (W.BO br.r1 br.r2 br.r3 br.gt)))))
              | (go_at_call 68; ((refine (muid_any (((H.out.alloc _).drewN _).alloc _) br.uid).mono ?_); rintro e w1 ⟨r1, rfl, hr1, n2, rfl⟩; rw [M6.out] at hr1; have B4 := Lib.hid (bel2 B3.out (bel_drewN _ n2))))
              | (go_at_call 32; ((refine (refEr_is hl M7.out _).mono ?_); rintro e w1 ⟨a1, n1, c1, rfl, b1⟩; have B5 := Lib.hid (bel2 B1.out b1))))
            go_ret
            exact ⟨rfl, B5.out⟩
          · have M7 := Lib.hid h7
            obtain rfl : r = 3 := by rw [← HE.out]; simp [canE, h1, h2, h3, k3, h7]
            clear h1 h2 h3 k0 k4 k1 k3 h7
            go_enter Tryd.func43, Tryd.ntmps43
            go_wp2_with (first
              | (go_at_call 65; ((refine (mdir_is (H.out.alloc _) M1.out).mono ?_); rintro e w1 ⟨rfl, rfl⟩; have B1 := Lib.hid (one_new w (BmO br (.slice a br.acl.length cc)))))
              | (go_at_call 36; ((refine (nameMay_is hs M2.out _).mono ?_); rintro e w1 ⟨rfl, rfl⟩))
              | (go_at_call 45; ((refine (mat_is (H.out.alloc _) M3.out).mono ?_); rintro e w1 ⟨rfl, rfl⟩))
              | (go_at_call 66; ((refine (listMay_is (HR.out.alloc _) HT.out M4.out).mono ?_); rintro e w1 ⟨rfl, n1, rfl⟩; have B2 := Lib.hid (bel2 B1.out (bel_drewN _ n1))))
              | (go_at_call 67; ((refine (refRing_is M5.out _).mono ?_); rintro e w1 ⟨rfl, rfl⟩; have B3 := Lib.hid (bel2 B2.out (one_new _ (W.BO br.r1 br.r2 br.r3 br.gt)))))
              | (go_at_call 68; ((refine (muid_any (((H.out.alloc _).drewN _).alloc _) br.uid).mono ?_); rintro e w1 ⟨r1, rfl, hr1, n2, rfl⟩; rw [M6.out] at hr1; have B4 := Lib.hid (bel2 B3.out (bel_drewN _ n2))))
              | (go_at_call 32; ((refine (refEr_is hl M7.out _).mono ?_); rintro e w1 ⟨a1, n1, c1, rfl, b1⟩; have B5 := Lib.hid (bel2 B1.out b1))))
            go_ret
            exact ⟨rfl, B5.out⟩
        · have t3 : (br.kind == 3) = false := by simpa using k3
          have t0 : decide (br.kind < 1) = false := by simpa using k0
          have t1 : decide (3 < br.kind) = false := by simpa using k4
          obtain rfl : r = 0 := by rw [← HE.out]; simp [canE, h1, h2, h3, k1, k3, k0, k4]
          clear h1 h2 h3 k0 k4 k1 k3
          go_enter Tryd.func43, Tryd.ntmps43
          go_wp2_with (first
            | (go_at_call 65; ((refine (mdir_is (H.out.alloc _) M1.out).mono ?_); rintro e w1 ⟨rfl, rfl⟩; have B1 := Lib.hid (one_new w (BmO br (.slice a br.acl.length cc)))))
            | (go_at_call 36; ((refine (nameMay_is hs M2.out _).mono ?_); rintro e w1 ⟨rfl, rfl⟩))
            | (go_at_call 45; ((refine (mat_is (H.out.alloc _) M3.out).mono ?_); rintro e w1 ⟨rfl, rfl⟩))
            | (go_at_call 66; ((refine (listMay_is (HR.out.alloc _) HT.out M4.out).mono ?_); rintro e w1 ⟨rfl, n1, rfl⟩; have B2 := Lib.hid (bel2 B1.out (bel_drewN _ n1))))
            | (go_at_call 67; ((refine (refRing_is M5.out _).mono ?_); rintro e w1 ⟨rfl, rfl⟩; have B3 := Lib.hid (bel2 B2.out (one_new _ (W.BO br.r1 br.r2 br.r3 br.gt)))))
            | (go_at_call 68; ((refine (muid_any (((H.out.alloc _).drewN _).alloc _) br.uid).mono ?_); rintro e w1 ⟨r1, rfl, hr1, n2, rfl⟩; rw [M6.out] at hr1; have B4 := Lib.hid (bel2 B3.out (bel_drewN _ n2))))
            | (go_at_call 32; ((refine (refEr_is hl M7.out _).mono ?_); rintro e w1 ⟨a1, n1, c1, rfl, b1⟩; have B5 := Lib.hid (bel2 B1.out b1))))
          go_ret
          exact ⟨rfl, one_new _ _⟩

end Go.Proofs.YtpcdcmoapenbdaaDoor.T
