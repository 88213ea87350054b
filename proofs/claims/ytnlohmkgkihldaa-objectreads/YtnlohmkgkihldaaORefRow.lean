/-
  What the document's own words answers: the words of an object whose parts may be.
-/
import Derived.Test.YtnlohmkgkihldaaOCutsWalk
namespace Go.Proofs.Ytnlohmkgkihldaa.W
open Go.ChangeShapes Go.WideShapes Go.ChangeAt Go.RowKit
open Go.Proofs.Ytnlohmkgkihldaa.N (bs bs_data bs_of bs_size may may_pos retB)

/-- a slice that holds the words of a text -/
def LettersNew (l : List UInt8) (n : Nat) (w : World) (e : Ending) (w' : World) : Prop :=
  ∃ g o c, e = .returned (.slice (some ⟨g, o, none⟩) n c) ∧ w.heap.size ≤ g ∧ Lie w' g o (wds l) ∧ Below w.heap.size w w'

set_option maxRecDepth 8000 in
set_option maxHeartbeats 1000000 in
theorem letters_new (s : ByteArray) (w : World) (h : s.size ≤ 255) :
    Calls Try.prog 35 #[.string s] w (LettersNew s.data.toList (nw s.size) w) := by
  have hsz : s.data.toList.length = s.size := Array.length_toList
  obtain ⟨i0, hi, hz0, hz1, hz2⟩ := info_parts info_word
  go_enter Try.func35, Try.ntmps35
  go_wp2
  have h0 : Que w.heap.size 37 .u64 (w.alloc (.cells #[.int .u64 s.size] 37)) (.slice (some ⟨w.heap.size, 0, none⟩) 1 1) (fst s.data.toList 0) :=
    Or.inr ⟨w.heap.size, 0, 1, _, by simp [fst], Nat.le_refl _, heap_alloc_new w _, by simp [fst], by simp, fun i hi => by
      simp [fst] at hi
      subst hi
      simp [fst, hsz]⟩
  go_loopw [3, 4] (fun v i W => ∃ n j : Nat, n = 4 * j ∧ j ≤ (s.size + 3) / 4 ∧ i = .int .i64 n ∧ Que w.heap.size 37 .u64 W v (fst s.data.toList j) ∧ Below w.heap.size w W) (fun _ i _ => s.size + 4 - (intOf i).toNat)
  case atStart => exact ⟨0, 0, rfl, by omega, rfl, h0, (Below.refl _ _).alloc (Nat.le_refl _) _⟩
  case round =>
    clear h0
    obtain ⟨n, j, hn, hj, rfl, hq, hB⟩ := hrel
    have HQ := Lib.hid hq
    have HN := Lib.hid hn
    clear hq hn
    by_cases hlt : n < s.size
    · go_wp2
      go_loop [5, 6] (fun x i => ∃ k : Nat, k ≤ 4 ∧ i = .int .i64 k ∧ x = .int .u64 (hor s.data.toList n k)) (fun _ i => 4 - (intOf i).toNat)
      case atStart => exact ⟨0, by omega, rfl, rfl⟩
      case round =>
        obtain ⟨k, hk, rfl, rfl⟩ := hrel
        have hh := hor_lt s.data.toList n k hk
        by_cases h4 : k < 4
        · have e1 : hor s.data.toList n (k + 1) = hor s.data.toList n k * 512 + bt s.data.toList (n + k) := rfl
          have hh1 := hor_lt s.data.toList n (k + 1) (by omega)
          have hb := bt_lt s.data.toList (n + k)
          by_cases hin : n + k < s.size
          · have e2 := bt_of s hin
            go_wp2
            go_round
            case rel => exact ⟨k + 1, by omega, by go_num, by go_num⟩
            case measure => simp [intOf]; omega
          · have e2 : bt s.data.toList (n + k) = 0 := bt_out (by omega)
            go_wp2
            go_round
            case rel => exact ⟨k + 1, by omega, by go_num, by go_num⟩
            case measure => simp [intOf]; omega
        · obtain rfl : k = 4 := by omega
          have eq4 : hor s.data.toList n 4 = quad s.data.toList j := by rw [HN.out]; exact hor_quad _ _
          rw [eq4]
          have hbs := hB.size
          have HA := Lib.hid (HQ.out.below ((Below.refl wr.heap.size wr).alloc (Nat.le_refl _) (.cells #[.int .u64 (quad s.data.toList j)] 37)))
          clear hh eq4
          generalize hx : quad s.data.toList j = x at *
          rw [show ((4 : Nat) : Int) = 4 from rfl]
          go_wp2_with (at_builtin; refine wpList_que rfl _ _ rfl Try.underlying22 hi hz0 hz1 hz2 (by omega) rfl HA.out (by rw [fst_len]; omega) (by simp; omega) ⟨wr.heap.size, 0, none⟩ 1 rfl x (by simp [Addr.add_lit, World.cell?_alloc_new]) ?_; intro v3 w3 hv3 hgr3 ho3)
          go_roundw
          case rel =>
            rw [← hx, fst_step] at hv3
            refine ⟨n + 4, j + 1, by have := HN.out; omega, by have := HN.out; omega, by go_num, hv3, hB.trans ⟨hgr3.os, hgr3.tape, hgr3.output, Nat.le_trans (by simp) hgr3.size, fun i hi => ?_⟩⟩
            refine (hgr3.block i (by simp; omega) (fun e => ?_)).trans (heap_alloc_old wr _ (by omega))
            have := (HQ.out.lt i e.symm).1
            omega
          case measure => simp [intOf]; omega
    · have d : decide ((n : Int) < (s.size : Int)) = false := decide_eq_false (by omega)
      obtain rfl : j = (s.size + 3) / 4 := by have := HN.out; omega
      have hq := HQ.out
      rw [← hsz, fst_all] at hq
      rcases hq with ⟨_, h2⟩ | ⟨g, off, cap, cur, rfl, hb, hhp, hlc, hs, hcell⟩
      · have := congrArg List.length h2
        rw [wds_len] at this
        have := nw_pos s.data.toList.length
        simp at *
        omega
      · have hlie : Hid (Lie wr g off (wds s.data.toList)) := Lib.hid (fun i hi => by rw [cell_of_row wr g _ cur _ (0, 0) hhp]; exact hcell i hi)
        have HLn : (wds s.data.toList).length = nw s.size := by rw [wds_len, hsz]
        clear hcell hhp HQ hlc
        go_wp2
        go_ret
        exact ⟨g, off, cap, by rw [HLn]; rfl, hb, hlie.out, hB⟩

/-- the row under way, younger than its first world -/
structure RowW (base : Nat) (W0 W : World) (v : Value) (xs : List Int) : Prop where
  own : OwnW base W v xs
  bel : Below base W0 W
  le : base ≤ W.heap.size
/-- words beside it -/
structure SideW (W : World) (v : Value) (a : Option Addr) (zs : List Int) : Prop where
  nums : NumsIn .u64 W a zs
  ne : 0 < zs.length → ∀ b, v.ownBlock = some b → ∀ ad, a = some ad → ad.block ≠ b
section
variable {base : Nat} {W0 W W' : World} {v : Value} {xs : List Int}
theorem RowW.new (h : RowW base W0 W v xs) (hb : Below W.heap.size W W') : RowW base W0 W' v xs := ⟨h.own.below hb, h.bel.trans (hb.mono h.le), Nat.le_trans h.le hb.size⟩
theorem SideW.new {a : Option Addr} {zs : List Int} (h : SideW W v a zs) (hb : Below W.heap.size W W') : SideW W' v a zs := ⟨h.nums.below hb, h.ne⟩
/-- new words beside the row -/
theorem side_new (h : RowW base W0 W v xs) {g o : Nat} {zs : List Int} (hg : W.heap.size ≤ g) (hn : NumsIn .u64 W' (some ⟨g, o, none⟩) zs) : SideW W' v (some ⟨g, o, none⟩) zs :=
  ⟨hn, fun _ b hb ad e => by
    cases e
    have := (h.own.que.lt b hb).2
    simp only
    omega⟩
theorem side_one (h : RowW base W0 W v xs) (x : Int) : SideW (W.alloc (.cells #[.int .u64 x] 37)) v (some ⟨W.heap.size, 0, none⟩) [x] := side_new h (Nat.le_refl _) (one_num W x)
theorem row_drew (h : RowW base W0 W.drew v xs) (x : Int) : RowW base W0 (W.alloc (.cells #[.int .u64 x] 37)).drew v xs := h.new (one_new W.drew (.cells #[.int .u64 x] 37))
theorem side_drew (h : RowW base W0 W.drew v xs) (x : Int) : SideW (W.alloc (.cells #[.int .u64 x] 37)).drew v (some ⟨W.heap.size, 0, none⟩) [x] := side_one h x
/-- words that were there -/
theorem side_in (h : RowW base W0 W v xs) {a : Option Addr} {zs : List Int} (hn : NumsIn .u64 W0 a zs) (hb : W0.heap.size ≤ base) : SideW W v a zs := by
  refine ⟨fun h0 => ?_, fun h0 b hv ad e => ?_⟩
  · obtain ⟨g, o, e, hc⟩ := hn h0
    exact ⟨g, o, e, fun i hi => (h.bel.cell (p := ⟨g, o + i, none⟩) (Nat.lt_of_lt_of_le (World.block_lt_of_cell? W0 _ (hc i hi)) hb)).trans (hc i hi)⟩
  · obtain ⟨g, o, e', hc⟩ := hn h0
    subst e'
    cases e
    have h1 := (h.own.que.lt b hv).1
    have h2 := World.block_lt_of_cell? W0 _ (hc 0 h0)
    simp only at h2 ⊢
    omega
/-- the words of a text, laid beside the row -/
theorem letters_row (s : Txt) (hs : s.length ≤ 255) (h : RowW base W0 W v xs) : Calls Try.prog 35 #[.string (bs s)] W fun e w' => ∃ g o c, e = .returned (.slice (some ⟨g, o, none⟩) (nw s.length) c) ∧ RowW base W0 w' v xs ∧ SideW w' v (some ⟨g, o, none⟩) (wds s) ∧ Below W.heap.size W w' := by
  refine (letters_new (bs s) W (by rw [bs_size]; exact hs)).mono ?_
  rintro e w' ⟨g, o, c, rfl, hg, hl, hb⟩
  rw [bs_data] at hl
  exact ⟨g, o, c, by rw [bs_size], h.new hb, side_new h hg (nums_of hl), hb⟩

theorem run_row {P : Program} {t ty : TypeId} {i : TypeInfo} (ht : P.underlying t = some (.slice 37)) (hi : P.info? 37 = some i) (hz : i.zero = some (.int .u64 0)) (hsz : i.size = 1) (hby : i.bytes = 8)
    (h : RowW base W0 W v xs) (p : Option Addr) (c : Nat) (zs : List Int) (hN : SideW W v p zs) (hlen : xs.length + zs.length ≤ 100000) :
    ∃ v' w', (Builtin.append_ #[t, t] ty #[v, .slice p zs.length c]).run P W = .ok v' w' ∧ RowW base W0 w' v' (xs ++ zs) ∧ (∀ a us, SideW W v a us → SideW w' v' a us) := by
  obtain ⟨v', w', h1, h2, h3, h4⟩ := run_nums2 (P := P) (ty := ty) ht hi hz hsz hby h.own p c zs hN.nums hlen h.le
  have hB : Below base W w' := below_grown h3 h.le (fun g hg => (h.own.que.lt g hg).1)
  refine ⟨v', w', h1, ⟨h2, h.bel.trans hB, Nat.le_trans h.le h3.size⟩, fun a us hs => ⟨fun h0 => ?_, fun h0 b hb ad e => ?_⟩⟩
  · obtain ⟨g, o, e, hc⟩ := hs.nums h0
    refine ⟨g, o, e, fun j hj => (grown_cell h3 (World.block_lt_of_cell? W _ (hc j hj)) (fun e2 => ?_)).trans (hc j hj)⟩
    subst e
    exact hs.ne h0 g e2 _ rfl rfl
  · rcases h4 with h4 | h4
    · rw [h4] at hb
      exact hs.ne h0 b hb ad e
    · rw [h4] at hb
      cases hb
      obtain ⟨g, o, e', hc⟩ := hs.nums h0
      subst e'
      cases e
      have := World.block_lt_of_cell? W _ (hc 0 h0)
      simp only at this ⊢
      omega
theorem step_row {P : Program} {t : TypeId} {i : TypeInfo} {ops : Array Oper} {o : Oper} {a : Act} {K : Act → World → Prop} {Q : Exit → Act → World → Prop} {E : Prop} (hgd : o.guard = none) (s y : Operand)
    (ho : o.op = .call { callee := .builtin .append, args := #[s, y], argTypes := #[t, t] }) (ht : P.underlying t = some (.slice 37)) (hi : P.info? 37 = some i) (hz : i.zero = some (.int .u64 0)) (hsz : i.size = 1) (hby : i.bytes = 8)
    (hs : a.eval s = v) (h : RowW base W0 W v xs) (p : Option Addr) (m c : Nat) (hy : a.eval y = .slice p m c) (zs : List Int) (hm : zs.length = m) (hN : SideW W v p zs) (N : Nat) (ys : List Int) (hys : xs ++ zs = ys) (hyl : ys.length = N) (hlen : N ≤ 100000)
    (hK : ∀ p' c' w', RowW base W0 w' (.slice p' N c') ys → (∀ a us, SideW W v a us → SideW w' (.slice p' N c') a us) → K (a.put o.dst (.slice p' N c')) w') : if Region.wanted o (yielded ops a.tmps) = true then Oper.wp P o a W K Q else E := by
  subst hm hys hyl
  rw [List.length_append] at hlen
  have hw : Region.wanted o (yielded ops a.tmps) = true := by simp [Region.wanted, hgd]
  rw [if_pos hw]
  obtain ⟨v', w', hr, h2, h3⟩ := run_row (P := P) (ty := o.type) ht hi hz hsz hby h p c zs hN hlen
  unfold Oper.wp execOp
  simp only [ho, resolve, invoke, builtin, Sem.run_bind, Sem.run_pure, Result.andThen_ok, List.map_toArray, List.map_cons, List.map_nil, hs, hy, hr]
  obtain ⟨p', c', e, -⟩ := h2.own.que.val
  subst e
  exact hK p' c' w' h2 h3
theorem wpList_row {P : Program} {t : TypeId} {i : TypeInfo} {ops : Array Oper} {rest : List Oper} {o : Oper} {a : Act} {Q : Exit → Act → World → Prop} (hgd : o.guard = none) (s y : Operand)
    (ho : o.op = .call { callee := .builtin .append, args := #[s, y], argTypes := #[t, t] }) (ht : P.underlying t = some (.slice 37)) (hi : P.info? 37 = some i) (hz : i.zero = some (.int .u64 0)) (hsz : i.size = 1) (hby : i.bytes = 8)
    (hs : a.eval s = v) (h : RowW base W0 W v xs) (p : Option Addr) (m c : Nat) (hy : a.eval y = .slice p m c) (zs : List Int) (hm : zs.length = m) (hN : SideW W v p zs) (N : Nat) (ys : List Int) (hys : xs ++ zs = ys) (hyl : ys.length = N) (hlen : N ≤ 100000)
    (hK : ∀ p' c' w', RowW base W0 w' (.slice p' N c') ys → (∀ a us, SideW W v a us → SideW w' (.slice p' N c') a us) → wpList P ops Q rest (a.put o.dst (.slice p' N c')) w') : wpList P ops Q (o :: rest) a W := by
  subst hm hys hyl
  rw [List.length_append] at hlen
  refine wpList_plain hgd fun K hK' => ?_
  obtain ⟨v', w', hr, h2, h3⟩ := run_row (P := P) (ty := o.type) ht hi hz hsz hby h p c zs hN hlen
  unfold Oper.wp execOp
  simp only [ho, resolve, invoke, builtin, Sem.run_bind, Sem.run_pure, Result.andThen_ok, List.map_toArray, List.map_cons, List.map_nil, hs, hy, hr]
  obtain ⟨p', c', e, -⟩ := h2.own.que.val
  subst e
  exact hK' _ _ (hK p' c' w' h2 h3)
end

end Go.Proofs.Ytnlohmkgkihldaa.W
