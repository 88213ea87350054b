/-
  ReferPlays, a deed that binds: what the program answers is what the list says, and the list goes on as the table does.
-/
import Derived.Test.YtglbemdeboaheaaRfFrame
import Derived.Deep.CutBlock
namespace Go.Proofs.Ytglbemdeboaheaa.Rf
open Go.ChangeShapes Go.WideShapes Go.ChangeAt Go.RowKit
open Go.Proofs.Ytglbemdeboaheaa.N (bs bs_data bs_size bs_inj bs_of may retB)
open Go.Proofs.Ytglbemdeboaheaa.G (El Row flat kT goodT)

/-- what holds behind the switch -/
def SwI (X : World) (b : Nat) (s0 : Value) (k db : Nat) (d : Dd) (a : Act) (w : World) : Prop :=
  Fr a ∧ slot a 0 = s0 ∧ slot a 3 = RP b ∧ slot a 5 = .int .i64 k ∧ slot a 6 = .pointer (some ⟨db, 0, none⟩) ∧
    ∃ (F : Nat → Prop) (c : Nat) (m : List Dd), c ≤ k + 1 ∧ m.length ≤ k + 1 ∧ (∀ x ∈ m, x.name.length ≤ 100 ∧ x.Ok) ∧ PS X w b F c (Lm m) (slot a 4) m db d

theorem arg_ways (r s : Int) : (decide (r < 0) = true ∧ (¬ (0 ≤ r ∧ r ≤ 7) ∨ ¬ (1 ≤ s ∧ s ≤ 63))) ∨ (decide (r < 0) = false ∧ decide (r > 7) = true ∧ (¬ (0 ≤ r ∧ r ≤ 7) ∨ ¬ (1 ≤ s ∧ s ≤ 63))) ∨
    (decide (r < 0) = false ∧ decide (r > 7) = false ∧ decide (s < 1) = true ∧ (¬ (0 ≤ r ∧ r ≤ 7) ∨ ¬ (1 ≤ s ∧ s ≤ 63))) ∨ (decide (r < 0) = false ∧ decide (r > 7) = false ∧ decide (s < 1) = false ∧ decide (s > 63) = true ∧ (¬ (0 ≤ r ∧ r ≤ 7) ∨ ¬ (1 ≤ s ∧ s ≤ 63))) ∨
    (decide (r < 0) = false ∧ decide (r > 7) = false ∧ decide (s < 1) = false ∧ decide (s > 63) = false ∧ (0 ≤ r ∧ r ≤ 7) ∧ (1 ≤ s ∧ s ≤ 63)) := by
  simp only [decide_eq_true_eq, decide_eq_false_iff_not]
  omega

section
variable {X V : World} {b : Nat} {s0 : Value} {k db : Nat} {d : Dd} {F : Nat → Prop} {c : Nat} {m : List Dd} {va : Option Addr} {vc : Nat} {A : Int} {a : Act} {J K' : Act → World → Prop} {Q' : Exit → Act → World → Prop}

set_option maxHeartbeats 16000000 in
set_option maxRecDepth 8000 in
theorem sw_bind (hf : Fr a) (h0 : slot a 0 = s0) (h3 : slot a 3 = RP b) (h4 : slot a 4 = .slice va m.length vc) (h5 : slot a 5 = .int .i64 k) (h6 : slot a 6 = .pointer (some ⟨db, 0, none⟩)) (h7 : slot a 7 = .int .i64 A)
    (hP : PS X V b F c (Lm m) (.slice va m.length vc) m db d) (hA : AtOf m d.ring d.name m.length A) (hk : k ≤ 1000) (hc : c ≤ k) (hm : m.length ≤ k) (hq : ∀ x ∈ m, x.name.length ≤ 100 ∧ x.Ok) (hd : d.Ok) (h100 : d.name.length ≤ 100) (hop : d.op ≤ 4)
    (hJ : ∀ a' w', SwI X b s0 k db d a' w' → J a' w') (hK : ∀ a' w', Met J a' w' → K' a' w') : Code.wp Try.prog swCode (Exit.then K' Q') a V := by
  obtain ⟨g, hg, rfl⟩ := hf.opens
  have e0 := (hg 0).trans h0
  have e3 := (hg 3).trans h3
  have e4 := (hg 4).trans h4
  have e5 := (hg 5).trans h5
  have e6 := (hg 6).trans h6
  have e7 := (hg 7).trans h7
  rw [e0, e3, e4, e5, e6, e7]
  clear e0 e3 e4 e5 e6 e7 hg h0 h3 h4 h5 h6 h7 hf
  conv => arg 2; whnf
  have P1 := Lib.hid hP
  have HA := Lib.hid hA
  have HQ := Lib.hid hq
  have HD := Lib.hid hd
  have HJ := Lib.hid hJ
  obtain ⟨q0, q1, q2, q3⟩ := hP.at_
  have hl : d.name.length ≤ maxLen := hd.2.2.2
  have o1 : decide (d.op ≤ 4) = true := by simpa using hop
  have NM := fun w => N.nameMay_any (bs d.name) w (by rw [bs_size]; exact hl)
  rw [bs_data] at NM
  have t7 : decide (A ≥ 0) = decide (0 ≤ A) := rfl
  clear hP hA hq hd hJ hop t7
  rcases arg_ways d.ring d.seg with ⟨f1, hn⟩ | ⟨f1, f2, hn⟩ | ⟨f1, f2, f3, hn⟩ | ⟨f1, f2, f3, f4, hn⟩ | ⟨f1, f2, f3, f4, hr, hs⟩
  · have CB := bind_arg (b := b) (r := d.ring) (s := d.seg) d.name hn
    clear hn
    go_wp2_with (go_at_call 10; (with_reducible refine (CB _).mono ?_); rintro e w2 ⟨rfl, rfl⟩)
    exact Met.intro (HJ.out _ _ ⟨⟨rfl, rfl⟩, rfl, rfl, rfl, rfl, F, c, m, by omega, by omega, HQ.out, P1.out⟩)
  · have CB := bind_arg (b := b) (r := d.ring) (s := d.seg) d.name hn
    clear hn
    go_wp2_with (go_at_call 10; (with_reducible refine (CB _).mono ?_); rintro e w2 ⟨rfl, rfl⟩)
    exact Met.intro (HJ.out _ _ ⟨⟨rfl, rfl⟩, rfl, rfl, rfl, rfl, F, c, m, by omega, by omega, HQ.out, P1.out⟩)
  · have CB := bind_arg (b := b) (r := d.ring) (s := d.seg) d.name hn
    clear hn
    go_wp2_with (go_at_call 10; (with_reducible refine (CB _).mono ?_); rintro e w2 ⟨rfl, rfl⟩)
    exact Met.intro (HJ.out _ _ ⟨⟨rfl, rfl⟩, rfl, rfl, rfl, rfl, F, c, m, by omega, by omega, HQ.out, P1.out⟩)
  · have CB := bind_arg (b := b) (r := d.ring) (s := d.seg) d.name hn
    clear hn
    go_wp2_with (go_at_call 10; (with_reducible refine (CB _).mono ?_); rintro e w2 ⟨rfl, rfl⟩)
    exact Met.intro (HJ.out _ _ ⟨⟨rfl, rfl⟩, rfl, rfl, rfl, rfl, F, c, m, by omega, by omega, HQ.out, P1.out⟩)
  · cases hmay : may 32 d.name with
    | false =>
      have CB := bind_name (b := b) (r := d.ring) (s := d.seg) (n := d.name) hr hs hl hmay
      rw [hmay] at NM
      clear hmay hr hs
      go_wp2_with (first
        | (go_at_call 9; (with_reducible refine (NM _).mono ?_); rintro e w3 ⟨rfl, e3⟩; subst w3)
        | (go_at_call 10; (with_reducible refine (CB _).mono ?_); rintro e w2 ⟨rfl, n2, rfl⟩; have P2 := Lib.hid (P1.out.drewN n2)))
      exact Met.intro (HJ.out _ _ ⟨⟨rfl, rfl⟩, rfl, rfl, rfl, rfl, F, c, m, by omega, by omega, HQ.out, P2.out⟩)
    | true =>
      rw [hmay] at NM
      have HMY := Lib.hid hmay
      clear hmay
      rcases HA.out with ⟨eA, hno⟩ | ⟨j, hj, eA, _, hsame⟩
      · subst eA
        have hget := Lib.hid (Lm_none (m := m) (r := d.ring) (n := d.name) (fun j hj => hno j hj hj))
        clear hno
        go_wp2_with (go_at_call 9; (with_reducible refine (NM _).mono ?_); rintro e w3 ⟨rfl, e3⟩; subst w3)
        go_quiet (fail)
        have P2 := Lib.hid (P1.out.drewN nq)
        clear q0 q1 q2 q3 P1
        generalize V.drewN nq = V2 at P2 ⊢
        obtain ⟨q0, q1, q2, q3⟩ := P2.out.at_
        have CB := Lib.hid (fun (W : World) (v' : Value) (h : PS X W b F c (Lm m) v' (m ++ [d]) db d) => y_bind (L' := Lm (m ++ [d])) h.pm.tab (r := d.ring) (s := d.seg) (n := d.name) hr hs hl HMY.out (Or.inl hget.out) (by unfold maxLen; omega) (by rw [Lm_app]; exact bound_new (x := toE d) hget.out))
        go_wp2_with (first
          | (go_at_call 10; (with_reducible refine (CB.out _ _ P3.out).mono ?_); rintro e w2 ⟨rfl, F2, y, gg⟩; have P4 := Lib.hid (P3.out.went gg y))
          | (at_builtin; refine G.wpList_g (s := kD) goodD rfl (.tmp 146) (.tmp 148) rfl rfl (P2.out.alloc _).pm.own (some ⟨V2.heap.size, 0, none⟩) 1 1 [d] rfl rfl (one_deed V2 d) (m.length + 1) (m ++ [d]) rfl (by simp) (by omega) (P2.out.alloc _).pm.tab.below.size ?_; intro a' c' w' o1' g1' v1'; have P3 := Lib.hid ((P2.out.alloc _).app o1' g1' v1'); obtain ⟨z0, z1, z2, z3⟩ := P3.out.at_; clear o1' g1' v1'))
        exact Met.intro (HJ.out _ _ ⟨⟨rfl, rfl⟩, rfl, rfl, rfl, rfl, F2, c + 1, m ++ [d], by omega, by simp; omega, fun x hx => (List.mem_append.1 hx).elim (HQ.out x) (fun h => by rw [List.mem_singleton.1 h]; exact ⟨h100, HD.out⟩), P4.out⟩)
      · subst eA
        have hget := Lib.hid (Lm_get P1.out.pm.tab.at_.good hj hsame)
        obtain ⟨va', vc', ev, hrow, _⟩ := P1.out.pm.row
        cases ev
        obtain ⟨bk, o, rfl, hbk, r0, r1, r2, r3⟩ := row_deed hrow hj
        clear hrow hbk hsame
        by_cases hseg : m[j].seg = d.seg
        · have t1 : (m[j].seg != d.seg) = false := by simpa using hseg
          have hget2 := Lib.hid (hget.out.trans (congrArg some hseg))
          clear hseg
          go_wp2_with (go_at_call 9; (with_reducible refine (NM _).mono ?_); rintro e w3 ⟨rfl, e3⟩; subst w3)
          go_quiet (fail)
          have P2 := Lib.hid (P1.out.drewN nq)
          clear q0 q1 q2 q3 P1
          generalize V.drewN nq = V2 at P2 ⊢
          obtain ⟨q0, q1, q2, q3⟩ := P2.out.at_
          have CB := Lib.hid (y_bind (L' := Lm m) P2.out.pm.tab (r := d.ring) (s := d.seg) (n := d.name) hr hs hl HMY.out (Or.inr hget2.out) (by unfold maxLen; omega) (bound_old (x := toE d) hget2.out))
          go_wp2_with (go_at_call 10; (with_reducible refine CB.out.mono ?_); rintro e w2 ⟨rfl, F2, y, gg⟩; have P4 := Lib.hid (P2.out.went gg y))
          exact Met.intro (HJ.out _ _ ⟨⟨rfl, rfl⟩, rfl, rfl, rfl, rfl, F2, c + 1, m, by omega, by omega, HQ.out, P4.out⟩)
        · have t1 : (m[j].seg != d.seg) = true := by simpa using hseg
          have HS := Lib.hid hseg
          clear hseg
          go_wp2_with (go_at_call 9; (with_reducible refine (NM _).mono ?_); rintro e w3 ⟨rfl, e3⟩; subst w3)
          go_quiet (fail)
          have P2 := Lib.hid (P1.out.drewN nq)
          clear q0 q1 q2 q3 P1
          generalize V.drewN nq = V2 at P2 ⊢
          obtain ⟨q0, q1, q2, q3⟩ := P2.out.at_
          have CB := Lib.hid (bind_there P2.out.pm.tab.at_ (r := d.ring) (s := d.seg) (n := d.name) hr hs hl HMY.out hget.out HS.out)
          go_wp2_with (go_at_call 10; (with_reducible refine CB.out.mono ?_); rintro e w2 ⟨rfl, n2, rfl⟩; have P4 := Lib.hid (P2.out.drewN n2))
          exact Met.intro (HJ.out _ _ ⟨⟨rfl, rfl⟩, rfl, rfl, rfl, rfl, F, c, m, by omega, by omega, HQ.out, P4.out⟩)

end

end Go.Proofs.Ytglbemdeboaheaa.Rf
