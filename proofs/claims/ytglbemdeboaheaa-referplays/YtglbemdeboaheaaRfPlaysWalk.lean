/-
  ReferPlays walked: whatever is bound, dropped, forgotten.
-/
import Derived.Test.YtglbemdeboaheaaRfTail
import Derived.Test.YtglbemdeboaheaaRfSwDrop
import Derived.Test.YtglbemdeboaheaaRfSwForget
namespace Go.Proofs.Ytglbemdeboaheaa.Rf
open Go.ChangeShapes Go.WideShapes Go.ChangeAt Go.RowKit
open Go.Proofs.Ytglbemdeboaheaa.N (bs bs_data bs_size bs_inj bs_of may retB)
open Go.Proofs.Ytglbemdeboaheaa.G (El Row flat kT goodT)

/-- what holds behind each deed -/
def PlaysI (X : World) (b : Nat) (s0 : Value) (ds : List Dd) (a : Act) (w : World) : Prop :=
  Fr a ∧ slot a 0 = s0 ∧ slot a 3 = RP b ∧ ∃ (k c : Nat) (F : Nat → Prop) (m : List Dd), k ≤ ds.length ∧ slot a 5 = .int .i64 k ∧ c ≤ k ∧ m.length ≤ k ∧ (∀ x ∈ m, x.name.length ≤ 100 ∧ x.Ok) ∧ PM X w b F c (Lm m) (slot a 4) m
def PlaysMu (n : Nat) (a : Act) (_ : World) : Nat := n - (intOf (slot a 5)).toNat
theorem mu_plays {n k : Nat} (a : Act) (w : World) (v : Value) (h : v = .int .i64 ((k + 1 : Nat) : Int)) (hk : k < n) (e : slot a 5 = v := by rfl) : PlaysMu n a w < n - k := by
  unfold PlaysMu
  rw [e, h]
  simp only [intOf, Int.toNat_natCast]
  omega

set_option maxHeartbeats 16000000 in
set_option maxRecDepth 8000 in
theorem plays_walk (sa : Option Addr) (sc : Nat) (ds : List Dd) (X : World) (hr : Row kD X sa sc ds) (hl : ∀ q ∈ ds, q.Ok) :
    Calls Try.prog 3 #[.slice sa ds.length sc] X fun e w' => e = .returned (.bool true) ∧ Below X.heap.size X w' := by
  by_cases h200 : ds.length ≤ 200
  case neg =>
    have e1 : decide ((ds.length : Int) > 200) = true := by simp; omega
    clear hr hl
    go_enter Try.func3, Try.ntmps3
    go_wp2_with (first
      | (go_at_call 7; ((with_reducible refine (awake_any _).mono ?_); rintro e v1 ⟨rfl, b1⟩; have B1 := Lib.hid b1; clear b1)))
    go_ret
    exact ⟨rfl, B1.out⟩
  have e1 : decide ((ds.length : Int) > 200) = false := by simp; omega
  have HR := Lib.hid hr
  have HM := Lib.hid hl
  clear hr hl
  go_enter Try.func3, Try.ntmps3
  go_wp2_with (first
    | (go_at_call 7; ((with_reducible refine (awake_any _).mono ?_); rintro e v1 ⟨rfl, b1⟩; have B1 := Lib.hid b1; clear b1))
    | (go_at_call 8; ((with_reducible refine (new_any _).mono ?_); rintro e w1 ⟨rfl, rfl⟩; have Y0 := Lib.hid (RY.new B1.out))))
  clear e1 B1
  generalize v1.heap.size = b at Y0 ⊢
  refine loop_cut (PlaysI X b (.slice sa ds.length sc) ds) (PlaysMu ds.length) ⟨⟨rfl, rfl⟩, rfl, rfl, 0, 0, _, [], Nat.zero_le _, rfl, Nat.zero_le _, Nat.zero_le _, by simp, PM.start Y0.out⟩ ?_
  · clear Y0
    intro a wr hI J K' hJ hK'
    obtain ⟨hf, h0, h3, k, c, F, m, hk, h5, hc, hml, hq, hy⟩ := hI
    have hmu : PlaysMu ds.length a wr = ds.length - k := by unfold PlaysMu; rw [h5]; simp [intOf]
    rw [hmu] at hJ
    clear hmu
    have HQ := Lib.hid hq
    have HY := Lib.hid hy
    clear hq hy
    obtain ⟨va, vc, h4, hrow, hform⟩ := HY.out.row
    rw [h4] at HY
    obtain ⟨g, hg, rfl⟩ := hf.opens
    have e0 := (hg 0).trans h0
    have e3 := (hg 3).trans h3
    have e4 := (hg 4).trans h4
    have e5 := (hg 5).trans h5
    have HJ := Lib.hid hJ
    clear hg h0 h3 h4 h5 hf hJ
    rw [e0, e3, e4, e5]
    clear e0 e3 e4 e5
    by_cases hlt : k < ds.length
    case neg =>
      obtain rfl : k = ds.length := by omega
      go_wp2
      go_ret
      exact ⟨rfl, HY.out.tab.below⟩
    obtain ⟨bk, o, rfl, hbk, hcx⟩ := row_deed HR.out hlt
    obtain ⟨q0, q1, q2, q3⟩ := hcx.below hbk HY.out.tab.below
    have hok := Lib.hid (HM.out _ (List.getElem_mem hlt))
    generalize hd : ds[k] = d at q0 q1 q2 q3 hok
    clear hd hcx hbk hrow
    have P1 := Lib.hid (HY.out.deed d)
    have hds : ((bs d.name).size : Int) = d.name.length := by rw [bs_size]
    by_cases h100 : d.name.length ≤ 100
    case neg =>
      have e2 : decide (((bs d.name).size : Int) > 100) = true := by rw [hds]; simp; omega
      clear hds h100
      go_wp2
      go_ret
      exact ⟨rfl, P1.out.pm.tab.below⟩
    have e2 : decide (((bs d.name).size : Int) > 100) = false := by rw [hds]; simp; omega
    clear hds
    go_wp2
    clear HY q0 q1 q2 q3 e2
    generalize wr.heap.size = db at P1 ⊢
    generalize wr.alloc (DdO d) = V at P1 ⊢
    go_loopw [7, 8] (fun A j W => ∃ (jn n : Nat) (Ai : Int), jn ≤ m.length ∧ j = .int .i64 jn ∧ A = .int .i64 Ai ∧ W = V.drewN n ∧ Hid (AtOf m d.ring d.name jn Ai)) (fun _ j _ => m.length - (intOf j).toNat)
    case atStart => exact ⟨0, 0, -1, Nat.zero_le _, rfl, rfl, rfl, Lib.hid (AtOf.start _ _ _)⟩
    case round =>
      obtain ⟨jn, n, Ai, hjn, rfl, rfl, rfl, HAT⟩ := hrel
      by_cases hjl : jn < m.length
      · have hmne : m ≠ [] := fun e => by subst e; simp at hjl
        obtain ⟨va', vc', ev, hrow, hform⟩ := P1.out.pm.row
        cases ev
        obtain ⟨mb, rfl⟩ := hform hmne
        obtain ⟨hmb, r0, r1, r2, r3⟩ := row_deed0 hrow hjl
        obtain ⟨q0, q1, q2, q3⟩ := P1.out.at_
        clear hmne hrow hform hmb
        by_cases hring : m[jn].ring = d.ring
        case neg =>
          have t1 : (m[jn].ring == d.ring) = false := by simpa using hring
          have HAT2 := Lib.hid (HAT.out.no hjl (fun h => hring h.1))
          clear hring
          go_wp2
          go_quiet (fail)
          go_wp2
          go_roundw
          case rel => exact ⟨jn + 1, n + nq, Ai, by omega, by go_num, rfl, by first | rfl | rw [World.drewN_drewN], HAT2⟩
          case measure => simp [intOf]; omega
        have t1 : (m[jn].ring == d.ring) = true := by simpa using hring
        have te := txt_eq m[jn].name d.name
        by_cases hname : m[jn].name = d.name
        · have HAT2 := Lib.hid (AtOf.yes (m := m) hjl ⟨hring, hname⟩)
          rw [decide_eq_true hname] at te
          clear hring hname
          go_wp2
          go_quiet (fail)
          go_wp2
          go_roundw
          case rel => exact ⟨jn + 1, n + nq, jn, by omega, by go_num, rfl, by first | rfl | rw [World.drewN_drewN], HAT2⟩
          case measure => simp [intOf]; omega
        · have HAT2 := Lib.hid (HAT.out.no hjl (fun h => hname h.2))
          rw [decide_eq_false hname] at te
          clear hring hname
          go_wp2
          go_quiet (fail)
          go_wp2
          go_roundw
          case rel => exact ⟨jn + 1, n + nq, Ai, by omega, by go_num, rfl, by first | rfl | rw [World.drewN_drewN], HAT2⟩
          case measure => simp [intOf]; omega
      · obtain rfl : jn = m.length := by omega
        have P2 := Lib.hid (P1.out.drewN n)
        clear P1
        generalize V.drewN n = W at P2 ⊢
        go_upto_block 4 with (fail)
        refine wp_cut (SwI X b (.slice (some ⟨bk, o, none⟩) ds.length sc) k db d) ?_ ?_
        · rename_i K0 aK
          intro a2 W2 hI
          obtain ⟨hf, h0, h3, h5, h6, F2, c2, m2, hc2, hm2, hq2, hP2⟩ := hI
          obtain ⟨va2, vc2, h4, -, -⟩ := hP2.pm.row
          rw [h4] at hP2
          refine aK _ _ ?_
          refine tail_use hf h0 h3 h4 h5 h6 hP2 (by omega) hc2 hm2 hq2 hok.out h100 ?_
          clear hf h0 h3 h4 h5 h6 hP2 hc2 hm2 hq2
          intro a3 W3 hI
          obtain ⟨hf, h0, h3, h5, F3, c3, m3, hc3, hm3, hq3, hP3⟩ := hI
          obtain ⟨g3, hg, rfl⟩ := hf.opens
          have e0 := (hg 0).trans h0
          have e3 := (hg 3).trans h3
          have e5 := (hg 5).trans h5
          rw [← hg 4] at hP3
          rw [e0, e3, e5]
          clear hg h0 h3 h5 hf e0 e3 e5
          dsimp only [Exit.inBlock, Exit.then]
          go_wp2
          exact Met.intro (HJ.out _ _ ⟨⟨rfl, rfl⟩, rfl, rfl, k + 1, c3, F3, m3, by omega, by go_num, by omega, by omega, hq3, hP3⟩ (mu_plays _ _ _ (by go_num) hlt))
        · intro J4 K4 hJ4 hK4
          by_cases hop : d.op ≤ 4
          · exact sw_bind ⟨rfl, rfl⟩ rfl rfl rfl rfl rfl rfl P2.out HAT.out (by omega) hc hml HQ.out hok.out h100 hop hJ4 hK4
          · by_cases hop5 : d.op = 5
            · exact sw_drop ⟨rfl, rfl⟩ rfl rfl rfl rfl rfl rfl P2.out HAT.out (by omega) hc hml HQ.out hok.out h100 hop5 hJ4 hK4
            · exact sw_forget ⟨rfl, rfl⟩ rfl rfl rfl rfl rfl rfl P2.out HAT.out (by omega) hc hml HQ.out hok.out h100 ⟨hop, hop5⟩ hJ4 hK4

end Go.Proofs.Ytglbemdeboaheaa.Rf
