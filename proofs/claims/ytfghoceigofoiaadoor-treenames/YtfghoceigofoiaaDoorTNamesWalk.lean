/-
  TreeNames: the law's walk.
-/
import Derived.Test.YtfghoceigofoiaaDoorTNamesMath
namespace Go.Proofs.YtfghoceigofoiaaDoor.T
open Go.ChangeShapes Go.WideShapes Go.ChangeAt Go.RowKit
open Go.Proofs.YtfghoceigofoiaaDoor.N (bs bs_data bs_size bs_inj bs_of Row)
open Go.Proofs.YtfghoceigofoiaaDoor.A (Tm TRow)

def LoopN (w1 V : World) (b kb kt k : Nat) (f v : Value) : Prop := ∃ on F st, f = .string (bs (on.headD [])) ∧ on.length ≤ k ∧ NL w1 V b kb kt (4 * k) on v F st ∧ StN st on

theorem txt_ne {q : Txt} (h : N.may 32 q = true) : ((bs q).toList == []) = false := by
  rw [A.bs_toList]
  have := (N.may_pos h).1
  cases q with
  | nil => simp at this
  | cons => rfl
theorem txt_nil : ((bs []).toList == []) = true := by rw [A.bs_toList]; rfl
theorem may_len {q : Txt} (h : N.may 32 q = true) : q.length ≤ maxLen := short_txt (by have := (N.may_pos h).2.1; omega)

theorem lmay7 : A.lmay b7.acl = true := by decide
theorem bmay7 : W.bmay b7.r1 b7.r2 b7.r3 b7.gt = true := by decide
theorem free_no {q : Txt} (hm : N.may 32 q = true) : freeE noSt 0 q = 0 := free_ok hm rfl

theorem del_is {w : World} {b : Nat} {F : Nat → Prop} {c : Nat} {st : St} (h : TreeAt w b F c st) {d : Int} {s : Txt} (hd : rng d) (hs : s.length ≤ maxLen) {g : Nat} {x : Nd} {B : Br} (hP : st.P (d, s) = some g) (hN : st.N g = some x) (hB : x.br = B) (hk : B.kind = 1) (hc : c < 10000) :
    Calls Tryd.prog 11 #[TP b, .int .i64 d, .string (bs s)] w fun e w' => ∃ a' c', e = .returned (.tuple #[BrV B (.slice a' B.acl.length c'), .int .i64 0]) ∧ TreeAt w' b F (c + 1 + 2 * x.names.length) (unbindAll d x.names { st with G := upd st.G x.br.uid none }) ∧ Went F w F w' := by
  subst hB
  exact del_seg h hd hs hP hN hk hc
theorem look7 {w : World} {b : Nat} {F : Nat → Prop} {c : Nat} {st : St} (h : TreeAt w b F c st) {d : Int} {s : Txt} (hd : rng d) (hs : s.length ≤ maxLen) {g : Nat} {x : Nd} {B : Br} (hP : st.P (d, s) = some g) (hN : st.N g = some x) (hB : x.br = B) :
    Calls Tryd.prog 16 #[TP b, .int .i64 d, .string (bs s)] w (Shown w B fun v => .tuple #[v, .bool true]) := by
  subst hB
  exact look_yes h hd hs hP hN
def B7 : Br := ⟨1, 7, 0, [], false, [t7], 1, 2, 3, 0⟩
theorem rng7 : rng 7 := ⟨by omega, by omega⟩

set_option maxRecDepth 8000 in
set_option maxHeartbeats 4000000 in
theorem names_walk (a : Option Addr) (cc : Nat) (qs : List Txt) (pick : Nat) (w : World) (hr : Row w a cc qs) (hq : ∀ q ∈ qs, q.length ≤ maxLen) (hp : pick < 256) :
    Calls Tryd.prog 4 #[.slice a qs.length cc, .int .u8 pick] w fun e w' => e = .returned (.bool true) ∧ Below w.heap.size w w' := by
  have HR := Lib.hid hr
  have HQ := Lib.hid hq
  clear hr hq
  by_cases h0 : qs.length = 0
  · have e0 : ((qs.length : Int) == 0) = true := by simpa using h0
    clear h0
    go_enter Tryd.func4, Tryd.ntmps4
    go_wp2_with (go_at_call 8; ((refine (awake_any _).mono ?_); rintro e w1 ⟨rfl, b1⟩))
    go_ret
    exact ⟨rfl, b1⟩
  have e0 : ((qs.length : Int) == 0) = false := by simpa using h0
  by_cases h40 : 40 < qs.length
  · have e40 : decide (40 < (qs.length : Int)) = true := by simp; omega
    clear h0 h40
    go_enter Tryd.func4, Tryd.ntmps4
    go_wp2_with (go_at_call 8; ((refine (awake_any _).mono ?_); rintro e w1 ⟨rfl, b1⟩))
    go_ret
    exact ⟨rfl, b1⟩
  have e40 : decide (40 < (qs.length : Int)) = false := by simp; omega
  have h41 : qs.length ≤ 40 := by omega
  clear h0 h40
  go_enter Tryd.func4, Tryd.ntmps4
  go_wp2_with (first
    | (go_at_call 8; ((refine (awake_any _).mono ?_); rintro e w1 ⟨rfl, b1⟩; have K1 := Lib.hid b1; clear b1))
    | (go_at_call 9; ((refine (new_at w1).mono ?_); rintro e w2 ⟨rfl, h2, b2, s2⟩; have T2 := Lib.hid h2; have B2 := Lib.hid b2; clear h2 b2)))
  have H2 : Hid (LoopN w1 ((w2.alloc (.cells (A.flat [t7]).toArray 50)).alloc (BrO b7 (.slice (some ⟨w2.heap.size, 0, none⟩) 1 1))) w1.heap.size (w2.heap.size + 1) w2.heap.size 0 (.string (bs [])) (.slice none 0 0)) := Lib.hid
    ⟨[], _, noSt, rfl, Nat.le_refl _, {
      tree := (T2.out.alloc _).alloc _
      bel := B2.out.trans ((bel2 (one_new _ _) (one_new _ _)).mono B2.out.size)
      ge := fun i hi => Nat.le_of_eq hi.symm
      box := BrAt.behind w2 _ _ _
      row := (A.TRow.lit w2 [t7] 1 (by decide)).alloc _
      obox := fun e => by have : w2.heap.size + 1 = w1.heap.size := e; omega
      orow := fun e => by have : w2.heap.size = w1.heap.size := e; omega
      kbge := by omega
      ktge := by omega
      own := World.ownsRow_nil _ _ _ _
      oown := fun k e => by cases e
      short := fun s hs => by cases hs }, Or.inl ⟨rfl, rfl⟩⟩
  refine (show Code.wp _ _ _ _ ((w2.alloc (.cells (A.flat [t7]).toArray 50)).alloc (BrO b7 (.slice (some ⟨w2.heap.size, 0, none⟩) 1 1))) from ?_)
  generalize (w2.alloc (.cells (A.flat [t7]).toArray 50)).alloc (BrO b7 (.slice (some ⟨w2.heap.size, 0, none⟩) 1 1)) = V2 at H2 ⊢
  clear T2 B2 s2
  generalize w2.heap.size = kt at *
  generalize hkb : kt + 1 = kb at *
  clear hkb
  obtain ⟨i0, hi, hz0, hz1, hz2⟩ := info_parts info_text
  go_loopw [7, 8, 9] (fun f v i V => ∃ k : Nat, k ≤ qs.length ∧ i = .int .i64 k ∧ Hid (LoopN w1 V w1.heap.size kb kt k f v)) (fun _ _ i _ => qs.length - (intOf i).toNat)
  case atStart => exact ⟨0, Nat.zero_le _, rfl, H2⟩
  case round =>
    clear H2
    obtain ⟨k, hk, rfl, hL⟩ := hrel
    obtain ⟨on, F, st, rfl, hon, hN, hS⟩ := hL.out
    have HN := Lib.hid hN
    have HS := Lib.hid hS
    have HL := Lib.hid (K1.out.trans (hN.bel.mono K1.out.size))
    have hvs := hN.slice
    obtain ⟨va, vc, rfl⟩ := hvs
    clear hL hN hS
    by_cases hlt : k < qs.length
    · obtain ⟨bk, o, rfl, hbk0, hc0⟩ := HR.out.at_ hlt
      have hc := (HL.out.cell (p := ⟨bk, o + k, none⟩) hbk0).trans hc0
      have hbk : bk < wr.heap.size := Nat.lt_of_lt_of_le hbk0 HL.out.size
      have HB0 := Lib.hid hbk0
      have HC0 := Lib.hid hc0
      clear hbk0 hc0
      have hql := HQ.out _ (List.getElem_mem hlt)
      have hqs := bs_size qs[k]
      by_cases h100 : 100 < qs[k].length
      · have e100 : decide (100 < (qs[k].length : Int)) = true := by simp; omega
        clear h100
        go_wp2
        go_ret
        exact ⟨rfl, HL.out⟩
      have e100 : decide (100 < (qs[k].length : Int)) = false := by simp; omega
      clear h100
      rcases HS.out with ⟨rfl, rfl⟩ | ⟨hne, g, x, h7⟩
      · have en := txt_nil
        have HV : Hid (NL w1 wr.drew w1.heap.size kb kt (4 * k) [] (Value.slice va [].length vc) F noSt) := Lib.hid (HN.out.below (Below.refl _ _).drew)
        obtain ⟨p0, p1, p2, p3, p4, p5, p6, p7, p8, p9⟩ := HN.out.box.cell
        go_wp2
        clear p0 p1 p2 p3 p4 p5 p6 p7 p8 p9 HN
        have hk3 : Hid (wr.drew.cell? ⟨bk, o + k, none⟩ = some (.string (bs qs[k]))) := Lib.hid hc
        have k3 := Lib.hid (And.intro hk3.out HV.out.box.cell)
        cases hm : N.may 32 qs[k] with
        | false =>
          have HM := Lib.hid hm
          clear hm
          go_region_held3 (fun V => V.cell? ⟨bk, o + k, none⟩ = some (.string (bs qs[k])) ∧ V.cell? ⟨kb, 0, none⟩ = some (.int .i64 b7.kind) ∧ V.cell? ⟨kb, 1, none⟩ = some (.int .i64 b7.uid) ∧ V.cell? ⟨kb, 2, none⟩ = some (.int .i64 b7.dir) ∧ V.cell? ⟨kb, 3, none⟩ = some (.string (bs b7.link)) ∧ V.cell? ⟨kb, 4, none⟩ = some (.bool b7.obj) ∧ V.cell? ⟨kb, 5, none⟩ = some (.slice (some ⟨kt, 0, none⟩) 1 1) ∧ V.cell? ⟨kb, 6, none⟩ = some (.int .i64 b7.r1) ∧ V.cell? ⟨kb, 7, none⟩ = some (.int .i64 b7.r2) ∧ V.cell? ⟨kb, 8, none⟩ = some (.int .i64 b7.r3) ∧ V.cell? ⟨kb, 9, none⟩ = some (.int .i64 b7.gt))
            (first | (with_reducible exact k3.out) | exact k4.out)
            ((go_at_call 10; ((refine (add_no HV.out.tree (d := 0) (s := qs[k]) rng0 hql (freeE_may HM.out) (by decide) (br := b7) (a := some ⟨kt, 0, none⟩) (n := 1) (cc := 1)).mono ?_); rintro e w4 ⟨rfl, b4⟩; have N4 := Lib.hid (HV.out.below b4); have hc4 := (Below.cell (p := ⟨bk, o + k, none⟩) (K1.out.trans (N4.out.bel.mono K1.out.size)) HB0.out).trans HC0.out; have k4 := Lib.hid (And.intro hc4 N4.out.box.cell); clear b4)))
          go_wp2
          go_roundw
          case rel => exact ⟨k + 1, by omega, by go_num, Lib.hid ⟨[], F, noSt, rfl, Nat.zero_le _, N4.out.mono (by omega), Or.inl ⟨rfl, rfl⟩⟩⟩
          case measure => simp [intOf]; omega
        | true =>
          have HM := Lib.hid hm
          clear hm
          go_region_held3 (fun V => V.cell? ⟨bk, o + k, none⟩ = some (.string (bs qs[k])) ∧ V.cell? ⟨kb, 0, none⟩ = some (.int .i64 b7.kind) ∧ V.cell? ⟨kb, 1, none⟩ = some (.int .i64 b7.uid) ∧ V.cell? ⟨kb, 2, none⟩ = some (.int .i64 b7.dir) ∧ V.cell? ⟨kb, 3, none⟩ = some (.string (bs b7.link)) ∧ V.cell? ⟨kb, 4, none⟩ = some (.bool b7.obj) ∧ V.cell? ⟨kb, 5, none⟩ = some (.slice (some ⟨kt, 0, none⟩) 1 1) ∧ V.cell? ⟨kb, 6, none⟩ = some (.int .i64 b7.r1) ∧ V.cell? ⟨kb, 7, none⟩ = some (.int .i64 b7.r2) ∧ V.cell? ⟨kb, 8, none⟩ = some (.int .i64 b7.r3) ∧ V.cell? ⟨kb, 9, none⟩ = some (.int .i64 b7.gt))
            (first | (with_reducible exact k3.out) | exact k4.out)
            ((go_at_call 10; ((refine (add_seg HV.out.tree (d := 0) (s := qs[k]) rng0 hql (free_no HM.out) (br := b7) (a := some ⟨kt, 0, none⟩) (cc := 1) HV.out.row (fun t ht => by rw [List.mem_singleton.1 ht]; exact short_txt (by decide)) rfl (by decide) (by decide) lmay7 bmay7 rfl (by omega)).mono ?_); rintro e w4 ⟨rfl, F4, g4, hg4, t4, x4⟩; have N4 := Lib.hid (HV.out.went t4 x4); have hc4 := (Below.cell (p := ⟨bk, o + k, none⟩) (K1.out.trans (N4.out.bel.mono K1.out.size)) HB0.out).trans HC0.out; have k4 := Lib.hid (And.intro hc4 N4.out.box.cell); clear hg4 t4 x4)))
          go_wp2_with (first
            | (at_builtin; refine wpList_append_own_at _ rfl (.tmp 69) (.tmp 74) 45 rfl w1.heap.size 9 i0 _ 1 16 Tryd.underlying45 hi hz0 hz1 hz2 rfl (by decide) _ ([] : List Txt).length (vals []) rfl (N4.out.own.alloc _) ⟨w4.heap.size, 0, none⟩ 1 1 [.string (bs qs[k])] rfl rfl (one_text w4 qs[k]) (by simp [Value.oneCell']) (by unfold maxLen; omega) (by omega) (by have := N4.out.bel.size; simp; omega) ?_; intro v' w5 h1 h2 _ h4; have hrs := row_slice h1; obtain ⟨k1, cap, e1⟩ := hrs; subst e1; have N5 := Lib.hid (N4.out.put h1 h2 h4 HM.out); have hc5 := (Below.cell (p := ⟨bk, o + k, none⟩) (K1.out.trans (N5.out.bel.mono K1.out.size)) HB0.out).trans HC0.out; clear h1 h2 h4))
          go_roundw
          case rel => exact ⟨k + 1, by omega, by go_num, Lib.hid ⟨[qs[k]], F4, _, rfl, by simp, N5.out.mono (by omega), Or.inr ⟨by simp, g4, _, seven_one g4 qs[k]⟩⟩⟩
          case measure => simp [intOf]; omega
      · have H7 := Lib.hid h7
        clear h7
        cases on with
        | nil => exact absurd rfl hne
        | cons f0 rest =>
          have hf0 := HN.out.short f0 (by simp)
          have en : ((bs ((f0 :: rest).headD [])).toList == []) = false := txt_ne hf0
          have en' : ((bs f0).toList == []) = false := txt_ne hf0
          have HF0 := Lib.hid hf0
          have HP : Hid (st.P (0, f0) = some g) := Lib.hid (by rw [H7.out.p]; simp)
          clear hf0 hne
          by_cases hok : N.may 32 qs[k] = true ∧ qs[k] ∉ f0 :: rest
          · have HM := Lib.hid hok.1
            have HQn := Lib.hid hok.2
            clear hok
            go_wp2_with (first
              | (go_at_call 13; ((refine (name_at HN.out.tree (d := 0) (s := f0) (m := qs[k]) rng0 (may_len HF0.out) hql HP.out H7.out.n (H7.out.free HM.out HQn.out) (by omega)).mono ?_); rintro e w4 ⟨rfl, F4, t4, x4⟩; have N4 := Lib.hid (HN.out.went t4 x4); have hc4 := (Below.cell (p := ⟨bk, o + k, none⟩) (K1.out.trans (N4.out.bel.mono K1.out.size)) HB0.out).trans HC0.out; clear t4 x4))
              | (at_builtin; refine wpList_append_own_at _ rfl (.tmp 69) (.tmp 74) 45 rfl w1.heap.size 9 i0 _ 1 16 Tryd.underlying45 hi hz0 hz1 hz2 rfl (by decide) _ (f0 :: rest).length (vals (f0 :: rest)) rfl (N4.out.own.alloc _) ⟨w4.heap.size, 0, none⟩ 1 1 [.string (bs qs[k])] rfl rfl (one_text w4 qs[k]) (by simp [Value.oneCell']) (by unfold maxLen; omega) (by omega) (by have := N4.out.bel.size; simp; omega) ?_; intro v' w5 h1 h2 _ h4; have hrs := row_slice h1; obtain ⟨k1, cap, e1⟩ := hrs; subst e1; have N5 := Lib.hid (N4.out.put h1 h2 h4 HM.out); have hc5 := (Below.cell (p := ⟨bk, o + k, none⟩) (K1.out.trans (N5.out.bel.mono K1.out.size)) HB0.out).trans HC0.out; clear h1 h2 h4))
            go_roundw
            case rel => exact ⟨k + 1, by omega, by go_num, Lib.hid ⟨(f0 :: rest) ++ [qs[k]], F4, _, rfl, by simp at hon ⊢; omega, N5.out.mono (by omega), Or.inr ⟨by simp, g, _, H7.out.more qs[k]⟩⟩⟩
            case measure => simp [intOf]; omega
          · obtain ⟨r, hr0, hfr⟩ : ∃ r, ¬ r = 0 ∧ freeE st 0 qs[k] = r := by
              cases hm : N.may 32 qs[k] with
              | false => exact ⟨3, by decide, freeE_may hm⟩
              | true => exact ⟨5, by decide, H7.out.there hm (Classical.byContradiction fun h => hok ⟨hm, h⟩)⟩
            have er : (r == 0) = false := by simpa using hr0
            have HR0 := Lib.hid hr0
            have HFR := Lib.hid hfr
            clear hok hr0 hfr
            go_wp2_with (go_at_call 13; ((refine (name_no HN.out.tree (d := 0) (s := f0) (m := qs[k]) rng0 (may_len HF0.out) hql HP.out HFR.out HR0.out).mono ?_); rintro e w4 ⟨rfl, n4, rfl⟩))
            go_roundw
            case rel => exact ⟨k + 1, by omega, by go_num, Lib.hid ⟨f0 :: rest, F, st, rfl, by omega, (HN.out.below (bel_drewN _ _)).mono (by omega), HS.out⟩⟩
            case measure => simp [intOf]; omega
    · obtain rfl : k = qs.length := by omega
      have hln := HS.out.len
      have HLN := Lib.hid hln
      have q2 := brk_neq
      have q3 := brk_guard
      have HC : Hid (4 * qs.length < 10000) := Lib.hid (by omega)
      have hob : on.length ≤ 40 := by omega
      clear hln hk hlt hon
      rcases HS.out with ⟨rfl, rfl⟩ | ⟨hne, g, x, h7⟩
      · go_wp2_with (go_at_call 20; ((refine (len_at HN.out.tree rng0 (n := 0) rfl).mono ?_); rintro e w4 ⟨rfl, rfl⟩))
        go_ret
        exact ⟨rfl, HL.out⟩
      · have H7 := Lib.hid h7
        have hl0 : 0 < on.length := List.length_pos_iff.2 hne
        have el : ((on.length : Int) == 0) = false := by simp; omega
        clear h7 hne
        go_wp2_with (go_at_call 20; ((refine (len_at HN.out.tree rng0 HLN.out).mono ?_); rintro e w4 ⟨rfl, rfl⟩))
        go_loopw [11] (fun i V => ∃ j : Nat, j ≤ on.length ∧ i = .int .i64 j ∧ Hid (NL w1 V w1.heap.size kb kt (4 * qs.length) on (Value.slice va on.length vc) F st)) (fun i _ => on.length - (intOf i).toNat)
        case atStart => exact ⟨0, Nat.zero_le _, rfl, HN⟩
        case round =>
          clear HN HL
          obtain ⟨j, hj, rfl, hN⟩ := hrel
          by_cases hlt : j < on.length
          · obtain ⟨gn, cap, ev, hgn, hcn⟩ := hN.out.at_ hlt
            simp only [Value.slice.injEq] at ev
            obtain ⟨rfl, _, rfl⟩ := ev
            have hmem : on[j] ∈ on := List.getElem_mem hlt
            have hsm := Lib.hid (may_len (hN.out.short _ hmem))
            have HP : Hid (st.P (0, on[j]) = some g) := Lib.hid (by rw [H7.out.p, if_pos hmem])
            clear hmem
            go_wp2_with (go_at_call 16; ((refine (look7 hN.out.tree (d := 0) (s := on[j]) rng0 hsm.out HP.out H7.out.n (B := ⟨1, 7, 0, [], false, [t7], 1, 2, 3, 0⟩) H7.out.br).mono ?_); rintro e w5 ⟨a5, c5, rfl, o5, b5⟩; have N5 := Lib.hid ((hN.out.below b5).below (one_new w5 (BrO ⟨1, 7, 0, [], false, [t7], 1, 2, 3, 0⟩ (.slice a5 1 c5)))); have p6 : (w5.alloc (BrO ⟨1, 7, 0, [], false, [t7], 1, 2, 3, 0⟩ (.slice a5 1 c5))).cell? ⟨kb, 6, none⟩ = some (.int .i64 1) := N5.out.box.cell.2.2.2.2.2.2.1; have p7 : (w5.alloc (BrO ⟨1, 7, 0, [], false, [t7], 1, 2, 3, 0⟩ (.slice a5 1 c5))).cell? ⟨kb, 7, none⟩ = some (.int .i64 2) := N5.out.box.cell.2.2.2.2.2.2.2.1; have p8 : (w5.alloc (BrO ⟨1, 7, 0, [], false, [t7], 1, 2, 3, 0⟩ (.slice a5 1 c5))).cell? ⟨kb, 8, none⟩ = some (.int .i64 3) := N5.out.box.cell.2.2.2.2.2.2.2.2.1; have p9 : (w5.alloc (BrO ⟨1, 7, 0, [], false, [t7], 1, 2, 3, 0⟩ (.slice a5 1 c5))).cell? ⟨kb, 9, none⟩ = some (.int .i64 0) := N5.out.box.cell.2.2.2.2.2.2.2.2.2; have hkb := (hN.out.below b5).box.lt; have d6 : w5.cell? ⟨kb, 6, none⟩ = some (.int .i64 1) := (hN.out.below b5).box.cell.2.2.2.2.2.2.1; have d7 : w5.cell? ⟨kb, 7, none⟩ = some (.int .i64 2) := (hN.out.below b5).box.cell.2.2.2.2.2.2.2.1; have d8 : w5.cell? ⟨kb, 8, none⟩ = some (.int .i64 3) := (hN.out.below b5).box.cell.2.2.2.2.2.2.2.2.1; have d9 : w5.cell? ⟨kb, 9, none⟩ = some (.int .i64 0) := (hN.out.below b5).box.cell.2.2.2.2.2.2.2.2.2; clear o5 b5 p6 p7 p8 p9))
            go_roundw
            case rel => exact ⟨j + 1, by omega, by go_num, N5⟩
            case measure => simp [intOf]; omega
          · obtain rfl : j = on.length := by omega
            clear hj hlt
            have hrem : ((pick : Int).tmod (on.length : Int)) = ((pick % on.length : Nat) : Int) := rfl
            have hix : pick % on.length < on.length := Nat.mod_lt _ hl0
            obtain ⟨gn, cap, ev, hgn, hcn⟩ := hN.out.at_ hix
            simp only [Value.slice.injEq] at ev
            obtain ⟨rfl, _, rfl⟩ := ev
            have hmem : on[pick % on.length] ∈ on := List.getElem_mem hix
            have hsm := Lib.hid (may_len (hN.out.short _ hmem))
            have HP : Hid (st.P (0, on[pick % on.length]) = some g) := Lib.hid (by rw [H7.out.p, if_pos hmem])
            have HL := Lib.hid (K1.out.trans (hN.out.bel.mono K1.out.size))
            clear hmem
            generalize hm : pick % on.length = m at *
            clear hm
            go_wp2_with (first
              | (go_at_call 11; ((refine (del_is hN.out.tree (d := 0) (s := on[m]) rng0 hsm.out HP.out H7.out.n (B := ⟨1, 7, 0, [], false, [t7], 1, 2, 3, 0⟩) H7.out.br rfl HC.out).mono ?_); rintro e w5 ⟨a5, c5, rfl, t5, x5⟩; have T5 := Lib.hid (t5.alloc (BrO ⟨1, 7, 0, [], false, [t7], 1, 2, 3, 0⟩ (.slice a5 1 c5))); have X5 := Lib.hid (BrAt.new w5 ⟨1, 7, 0, [], false, [t7], 1, 2, 3, 0⟩ (.slice a5 1 c5)); have B5 := Lib.hid ((hN.out.bel.trans (x5.below hN.out.ge hN.out.bel.size)).alloc (Nat.le_trans hN.out.bel.size x5.size) (BrO ⟨1, 7, 0, [], false, [t7], 1, 2, 3, 0⟩ (.slice a5 1 c5))); clear t5 x5))
              | (go_at_call 21; ((refine (uid_no T5.out rng7 (by rw [unbindAll_G]; show upd st.G x.br.uid none 7 = none; rw [H7.out.br]; exact upd_same _ _ _)).mono ?_); rintro e w6 ⟨rfl, b6⟩; have T6 := Lib.hid ((T5.out.below b6).alloc (BrO noBr (.slice none 0 0))); have B6 := Lib.hid ((B5.out.trans (b6.mono B5.out.size)).alloc (Nat.le_trans B5.out.size b6.size) (BrO noBr (.slice none 0 0))); obtain ⟨y0, y1, y2, y3, y4, y5, y6, y7, y8, y9⟩ := ((X5.out.below b6).alloc (BrO noBr (.slice none 0 0))).cell; clear b6))
              | (go_at_call 20; ((refine (len_at T6.out rng0 (n := 0) (by rw [unbindAll_Z, H7.out.names]; show (st.Z 0).getD 0 - _ = 0; rw [H7.out.z]; omega)).mono ?_); rintro e w7 ⟨rfl, rfl⟩)))
            go_ret
            exact ⟨rfl, K1.out.trans (B6.out.mono K1.out.size)⟩

end Go.Proofs.YtfghoceigofoiaaDoor.T
