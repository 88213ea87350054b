/-
  The law RulesKnown answers true.
-/
import Derived.Test.YtpcdcmoapenbdaaDoorRuAwake
namespace Go.Proofs.YtpcdcmoapenbdaaDoor.T
open Go.ChangeShapes Go.WideShapes Go.ChangeAt Go.RowKit
open Go.Proofs.YtpcdcmoapenbdaaDoor.N (bs bs_data bs_size bs_inj bs_of Glob)
open Go.Proofs.YtpcdcmoapenbdaaDoor.A (Tm TRow)

def bad : Nat → List Ru
  | 0 => [⟨0, []⟩]
  | 1 => [⟨4, []⟩]
  | 2 => [⟨2, [62]⟩]
  | 3 => [⟨1, [120]⟩]
  | 4 => [⟨3, []⟩]
  | 5 => [⟨3, [97]⟩]
  | _ => List.replicate 9 ⟨0, []⟩
def bn (k : Nat) : Nat := if k < 6 then 1 else 9
theorem bad_facts : ∀ k, k < 7 → (bad k).length = bn k ∧ (∀ r ∈ bad k, r.Ok) ∧ mayR (bad k) = false := by
  intro k hk
  obtain rfl | rfl | rfl | rfl | rfl | rfl | rfl : k = 0 ∨ k = 1 ∨ k = 2 ∨ k = 3 ∨ k = 4 ∨ k = 5 ∨ k = 6 := by omega
  all_goals exact ⟨by decide, okL _ (by decide), by decide⟩

def nine : Array Value := (G.flat kR (bad 6)).toArray
theorem made_nine (V : World) : (Instr.makeSlice 23 (.int .i64 9) (.int .i64 9)).run Tryd.prog V = .ok (.slice (some ⟨V.heap.size, 0, none⟩) 9 9) (V.alloc (.cells nine 40)) := by
  obtain ⟨i0, hi, hz0, hz1, hz2⟩ := info_parts goodR.info
  have hr := run_makeSlice (P := Tryd.prog) V 23 40 i0 _ Tryd.underlying23 hi hz0 .i64 .i64 9 9 (by omega) (by omega) (by rw [hz1]; decide) (by rw [hz2]; decide) (by decide)
  rw [hz1] at hr
  have e : madeCells kR.z.cells (Int.toNat 9 * kR.sz) = nine := by kernel_rfl
  rw [e] at hr
  exact hr

/-- the rows that may not be, and the row of them -/
@[reducible] def badW (w : World) : World :=
  (((((((w.alloc (.cells #[.int .i64 0, .string ⟨#[]⟩] 40)).alloc (.cells #[.int .i64 4, .string ⟨#[]⟩] 40)).alloc (.cells #[.int .i64 2, .string ⟨#[62]⟩] 40)).alloc (.cells #[.int .i64 1, .string ⟨#[120]⟩] 40)).alloc (.cells #[.int .i64 3, .string ⟨#[]⟩] 40)).alloc (.cells #[.int .i64 3, .string ⟨#[97]⟩] 40)).alloc (.cells nine 40)).alloc
    (.cells #[.slice (some ⟨w.heap.size, 0, none⟩) 1 1, .slice (some ⟨w.heap.size + 1, 0, none⟩) 1 1, .slice (some ⟨w.heap.size + 1 + 1, 0, none⟩) 1 1, .slice (some ⟨w.heap.size + 1 + 1 + 1, 0, none⟩) 1 1, .slice (some ⟨w.heap.size + 1 + 1 + 1 + 1, 0, none⟩) 1 1, .slice (some ⟨w.heap.size + 1 + 1 + 1 + 1 + 1, 0, none⟩) 1 1, .slice (some ⟨w.heap.size + 1 + 1 + 1 + 1 + 1 + 1, 0, none⟩) 9 9] 23)

structure KB (w V : World) (q : Nat) : Prop where
  cell : ∀ k, k < 7 → V.cell? ⟨q, k, none⟩ = some (.slice (some ⟨w.heap.size + k, 0, none⟩) (bn k) (bn k))
  row : ∀ k, k < 7 → G.Row kR V (some ⟨w.heap.size + k, 0, none⟩) (bn k) (bad k)
  lt : q < V.heap.size
  bel : Below w.heap.size w V
theorem KB.below {w V V' : World} {q : Nat} (h : KB w V q) (hb : Below V.heap.size V V') : KB w V' q :=
  ⟨fun k hk => (hb.cell (p := ⟨q, k, none⟩) h.lt).trans (h.cell k hk), fun k hk => (h.row k hk).below hb, Nat.lt_of_lt_of_le h.lt hb.size, bel2 h.bel hb⟩

theorem row_at {W : World} {i n : Nat} {l : List Ru} (h : W.heap[i]? = some (.cells (G.flat kR l).toArray 40)) (hn : l.length = n) : G.Row kR W (some ⟨i, 0, none⟩) n l := by
  subst hn
  refine ⟨Nat.le_refl _, fun e => (by cases e), fun _ => ⟨i, 0, rfl, (Array.getElem?_eq_some_iff.1 h).1, fun j hj r u hu => ?_⟩⟩
  have hr : r < 2 := by have := (List.getElem?_eq_some_iff.1 hu).1; simpa [kR] using this
  simp only [World.cell?, h]
  have hg := goodR.flat_get l j r hj hr
  rw [hu] at hg
  rw [Nat.zero_add, List.getElem?_toArray]
  exact hg

theorem pushes_below : ∀ (os : List Obj) (w : World), Below w.heap.size w (os.foldl World.alloc w)
  | [], _ => Below.refl _ _
  | o :: os, w => bel2 (one_new w o) (pushes_below os (w.alloc o))
theorem pushes_at : ∀ (os : List Obj) (w : World) (k : Nat) (o : Obj), os[k]? = some o → (os.foldl World.alloc w).heap[w.heap.size + k]? = some o
  | x :: os, w, 0, o, h => by
    obtain rfl : x = o := by simpa using h
    exact ((pushes_below os (w.alloc x)).block w.heap.size (by simp)).trans (heap_alloc_new w x)
  | x :: os, w, k + 1, o, h => by
    have := pushes_at os (w.alloc x) k o (by simpa using h)
    rw [show (w.alloc x).heap.size + k = w.heap.size + (k + 1) by simp; omega] at this
    exact this

def badO (w : World) : List Obj := [.cells #[.int .i64 0, .string ⟨#[]⟩] 40, .cells #[.int .i64 4, .string ⟨#[]⟩] 40, .cells #[.int .i64 2, .string ⟨#[62]⟩] 40, .cells #[.int .i64 1, .string ⟨#[120]⟩] 40, .cells #[.int .i64 3, .string ⟨#[]⟩] 40, .cells #[.int .i64 3, .string ⟨#[97]⟩] 40, .cells nine 40,
  .cells #[.slice (some ⟨w.heap.size, 0, none⟩) 1 1, .slice (some ⟨w.heap.size + 1, 0, none⟩) 1 1, .slice (some ⟨w.heap.size + 1 + 1, 0, none⟩) 1 1, .slice (some ⟨w.heap.size + 1 + 1 + 1, 0, none⟩) 1 1, .slice (some ⟨w.heap.size + 1 + 1 + 1 + 1, 0, none⟩) 1 1, .slice (some ⟨w.heap.size + 1 + 1 + 1 + 1 + 1, 0, none⟩) 1 1, .slice (some ⟨w.heap.size + 1 + 1 + 1 + 1 + 1 + 1, 0, none⟩) 9 9] 23]
theorem bad_w (w : World) : badW w = (badO w).foldl World.alloc w := rfl

theorem kb_new (w : World) : KB w (badW w) (w.heap.size + 1 + 1 + 1 + 1 + 1 + 1 + 1) where
  cell := fun k hk => by
    have h := pushes_at (badO w) w 7 _ rfl
    rw [← bad_w] at h
    simp only [World.cell?, h]
    obtain rfl | rfl | rfl | rfl | rfl | rfl | rfl : k = 0 ∨ k = 1 ∨ k = 2 ∨ k = 3 ∨ k = 4 ∨ k = 5 ∨ k = 6 := by omega
    all_goals rfl
  row := fun k hk => by
    refine row_at ?_ (bad_facts k hk).1
    rw [bad_w]
    refine pushes_at (badO w) w k _ ?_
    obtain rfl | rfl | rfl | rfl | rfl | rfl | rfl : k = 0 ∨ k = 1 ∨ k = 2 ∨ k = 3 ∨ k = 4 ∨ k = 5 ∨ k = 6 := by omega
    all_goals rfl
  lt := by simp
  bel := by rw [bad_w]; exact pushes_below _ _

def kS : Br := litB 1 4 ⟨#[]⟩
theorem kS_uid : kS.uid = 4 := rfl
def kRu : List Ru := [⟨3, [62, 113]⟩, ⟨2, []⟩, ⟨1, []⟩]
def kL : Int → Txt → Option Br := updL (updL (updL (updL noL 0 [100] (dirN 1)) 0 [97] (dirN 2)) 1 [108] (linkB [62, 100, 62, 115])) 1 [115] kS
theorem k_row (w : World) : G.Row kR (w.alloc (.cells #[.int .i64 3, .string ⟨#[62, 113]⟩, .int .i64 2, .string ⟨#[]⟩, .int .i64 1, .string ⟨#[]⟩] 40)) (some ⟨w.heap.size, 0, none⟩) 3 kRu := row_lit w kRu
theorem k_f1 : findR kL kRu (⟨#[62, 100]⟩ : ByteArray).data.toList (-1) (⟨#[108]⟩ : ByteArray).data.toList = (0, kS) := by kernel_rfl
theorem k_f2 : findR kL kRu (⟨#[62]⟩ : ByteArray).data.toList 1 (⟨#[115]⟩ : ByteArray).data.toList = (0, kS) := by kernel_rfl
theorem k_f3 : findR kL kRu (⟨#[62]⟩ : ByteArray).data.toList (-1) (⟨#[115]⟩ : ByteArray).data.toList = (4, noBr) := by kernel_rfl
theorem k_f4 : findR kL kRu (⟨#[62]⟩ : ByteArray).data.toList 0 (⟨#[97]⟩ : ByteArray).data.toList = (4, noBr) := by kernel_rfl
theorem k_f5 : findR kL kRu (⟨#[62]⟩ : ByteArray).data.toList 0 (⟨#[]⟩ : ByteArray).data.toList = (3, noBr) := by kernel_rfl
theorem k_f6 : findR kL [] (⟨#[62, 100]⟩ : ByteArray).data.toList 1 (⟨#[115]⟩ : ByteArray).data.toList = (4, noBr) := by kernel_rfl
theorem bad_find (L : Int → Txt → Option Br) {k : Nat} (h : mayR (bad k) = false) (work : Txt) (fr : Int) (s : Txt) : findR L (bad k) work fr s = (1, noBr) := by rw [findR, if_neg (by rw [h]; simp)]

/-- a tree that names say, rules in a row beside it -/
structure KT (w1 W V : World) (b c : Nat) (q : Nat) : Prop where
  has : Has W V b c (Sees kL (fun d' => decide (d' = 2) || (decide (d' = 1) || rootD d')) 2 fun u' => decide (u' = 4) || false)
  row : G.Row kR V (some ⟨q, 0, none⟩) 3 kRu
theorem KT.below {w1 W V V' : World} {b c q : Nat} (h : KT w1 W V b c q) (hb : Below V.heap.size V V') : KT w1 W V' b c q := ⟨h.has.below hb, h.row.below hb⟩

set_option maxHeartbeats 4000000 in
set_option maxRecDepth 20000 in
theorem rulesKnown_walk {w : World} (hg : Glob w) : Calls Tryd.prog 4 #[] w fun e w' => e = .returned (.bool true) ∧ Below w.heap.size w w' := by
  have HG := Lib.hid hg
  have hmn := made_nine
  clear hg
  go_enter Tryd.func4, Tryd.ntmps4
  go_upto_region 4 with (go_at_call 7; (refine (awake14_any HG.out).mono ?_); rintro e w1 ⟨rfl, b1⟩; have B1 := Lib.hid b1; clear b1)
  refine (show Code.wp _ _ _ _ (badW w1) from ?_)
  have K := Lib.hid (kb_new w1)
  generalize badW w1 = W at K ⊢
  generalize w1.heap.size + 1 + 1 + 1 + 1 + 1 + 1 + 1 = q at K ⊢
  have BW := Lib.hid (bel2 B1.out K.out.bel)
  have HGW := Lib.hid (HG.out.below BW.out)
  clear hmn B1
  go_wp2_with (go_at_call 9; ((refine (has_new W).mono ?_); rintro e w2 ⟨rfl, h2, _⟩; have H2 := Lib.hid h2; clear h2))
  go_loopw [3] (fun i V => ∃ k : Nat, k ≤ 7 ∧ i = .int .i64 k ∧ Hid (Has W V W.heap.size 0 (Sees noL rootD 0 fun _ => false))) (fun i _ => 7 - (intOf i).toNat)
  case atStart => exact ⟨0, by omega, rfl, H2⟩
  case round =>
    clear H2
    obtain ⟨k, hk, rfl, hV⟩ := hrel
    by_cases hlt : k < 7
    · obtain ⟨hbn, hok, hm⟩ := bad_facts k hlt
      have KV := K.out.below hV.out.bel
      have c0 := KV.cell k hlt
      have hlq := KV.lt
      have HOK := Lib.hid hok
      have HBN := Lib.hid hbn
      have HM := Lib.hid hm
      have RW := Lib.hid (K.out.row k hlt)
      clear hok hm hbn KV
      generalize bn k = n at c0 HBN RW
      generalize w1.heap.size + k = p at c0 RW
      go_wp2_with (first
        | (go_at_call 14; ((with_reducible refine (has_rules hV.out HGW.out (RW.out.below hV.out.bel) HOK.out HBN.out ⟨#[62]⟩ 0 ⟨#[97]⟩ (by decide) rng0 (by decide) (bad_find _ HM.out _ _ _)).mono ?_); rintro e w3 ⟨a3, c3, rfl, r3, b3⟩; have h3 := Lib.hid ((hV.out.below b3).alloc (BrO noBr (.slice a3 noBr.acl.length c3))); have c0 := (b3.cell (p := ⟨q, k, none⟩) hlq).trans c0; have hlq := Nat.lt_of_lt_of_le hlq b3.size))
        | (go_at_call 12; ((refine (rulesMay_any (HGW.out.below h3.out.bel) (RW.out.below h3.out.bel) HOK.out HBN.out HM.out).mono ?_); rintro e w4 ⟨rfl, b4⟩; have h4 := Lib.hid (h3.out.below b4))))
      go_roundw
      case rel => exact ⟨k + 1, by omega, by go_num, h4⟩
      case measure => simp [intOf]; omega
    · obtain rfl : k = 7 := by omega
      rw [show ((7 : Nat) : Int) = 7 from rfl]
      go_wp2_with (first
        | (go_at_call 18; ((with_reducible refine (has_dir hV.out 0 ⟨#[100]⟩ rng0 rfl (by decide) rfl (lb := 1) rfl (by omega)).mono ?_); rintro e w3 ⟨rfl, h3, _⟩))
        | (go_at_call 18; ((with_reducible refine (has_dir h3 0 ⟨#[97]⟩ rng0 rfl (by decide) rfl (lb := 2) rfl (by omega)).mono ?_); rintro e w4 ⟨rfl, h4, _⟩))
        | (go_at_call 18; ((with_reducible refine (has_link h4 HGW.out 1 ⟨#[108]⟩ ⟨#[62, 100, 62, 115]⟩ rng_1 rfl (by decide) rfl (by decide) (by omega)).mono ?_); rintro e w5 ⟨rfl, h5, _⟩))
        | (go_at_call 18; ((with_reducible refine (has_seg h5 1 ⟨#[115]⟩ 4 rng_1 rfl (by decide) rfl (by omega) (by omega) rfl (by omega)).mono ?_); rintro e w6 ⟨rfl, h6, _⟩; have T6 : Hid (KT w1 W (w6.alloc (.cells #[.int .i64 3, .string ⟨#[62, 113]⟩, .int .i64 2, .string ⟨#[]⟩, .int .i64 1, .string ⟨#[]⟩] 40)) W.heap.size _ w6.heap.size) := Lib.hid ⟨h6.alloc _, k_row w6⟩; clear h3 h4 h5 h6))
        | (go_at_call 14; ((with_reducible refine (has_rules T6.out.has HGW.out T6.out.row (okL _ rfl) (n := 3) rfl ⟨#[62, 100]⟩ (-1) ⟨#[108]⟩ (by decide) rngm1 (by decide) k_f1).mono ?_); rintro e w7 ⟨a7, c7, rfl, r7, b7⟩; have T7 := Lib.hid ((T6.out.below b7).below (one_new _ (BrO kS (.slice a7 kS.acl.length c7)))); have X7 := Lib.hid (BrAt.new w7 kS (.slice a7 kS.acl.length c7)); clear r7 b7 T6))
        | (go_at_call 14; ((with_reducible refine (has_rules T7.out.has HGW.out T7.out.row (okL _ rfl) (n := 3) rfl ⟨#[62]⟩ 1 ⟨#[115]⟩ (by decide) rng_1 (by decide) k_f2).mono ?_); rintro e w8 ⟨a8, c8, rfl, r8, b8⟩; have T8 := Lib.hid ((T7.out.below b8).below (one_new _ (BrO kS (.slice a8 kS.acl.length c8)))); have X7 := Lib.hid ((X7.out.below b8).below (one_new _ (BrO kS (.slice a8 kS.acl.length c8)))); have X8 := Lib.hid (BrAt.new w8 kS (.slice a8 kS.acl.length c8)); clear r8 b8 T7))
        | (go_at_call 14; ((with_reducible refine (has_rules T8.out.has HGW.out T8.out.row (okL _ rfl) (n := 3) rfl ⟨#[62]⟩ (-1) ⟨#[115]⟩ (by decide) rngm1 (by decide) k_f3).mono ?_); rintro e w9 ⟨a9, c9, rfl, r9, b9⟩; have T9 := Lib.hid ((T8.out.below b9).below (one_new _ (BrO noBr (.slice a9 noBr.acl.length c9)))); have X7 := Lib.hid ((X7.out.below b9).below (one_new _ (BrO noBr (.slice a9 noBr.acl.length c9)))); have X8 := Lib.hid ((X8.out.below b9).below (one_new _ (BrO noBr (.slice a9 noBr.acl.length c9)))); clear r9 b9 T8))
        | (go_at_call 14; ((with_reducible refine (has_rules T9.out.has HGW.out T9.out.row (okL _ rfl) (n := 3) rfl ⟨#[62]⟩ 0 ⟨#[97]⟩ (by decide) rng0 (by decide) k_f4).mono ?_); rintro e w10 ⟨a10, c10, rfl, r10, b10⟩; have T10 := Lib.hid ((T9.out.below b10).below (one_new _ (BrO noBr (.slice a10 noBr.acl.length c10)))); have X7 := Lib.hid ((X7.out.below b10).below (one_new _ (BrO noBr (.slice a10 noBr.acl.length c10)))); have X8 := Lib.hid ((X8.out.below b10).below (one_new _ (BrO noBr (.slice a10 noBr.acl.length c10)))); clear r10 b10 T9))
        | (go_at_call 14; ((with_reducible refine (has_rules T10.out.has HGW.out T10.out.row (okL _ rfl) (n := 3) rfl ⟨#[62]⟩ 0 ⟨#[]⟩ (by decide) rng0 (by decide) k_f5).mono ?_); rintro e w11 ⟨a11, c11, rfl, r11, b11⟩; have T11 := Lib.hid ((T10.out.below b11).below (one_new _ (BrO noBr (.slice a11 noBr.acl.length c11)))); have X7 := Lib.hid ((X7.out.below b11).below (one_new _ (BrO noBr (.slice a11 noBr.acl.length c11)))); have X8 := Lib.hid ((X8.out.below b11).below (one_new _ (BrO noBr (.slice a11 noBr.acl.length c11)))); clear r11 b11 T10))
        | (go_at_call 14; ((with_reducible refine (has_rules T11.out.has HGW.out (G.Row.nil _) (okL [] rfl) (n := 0) rfl ⟨#[62, 100]⟩ 1 ⟨#[115]⟩ (by decide) rng_1 (by decide) k_f6).mono ?_); rintro e w12 ⟨a12, c12, rfl, r12, b12⟩; have T12 := Lib.hid ((T11.out.below b12).below (one_new _ (BrO noBr (.slice a12 noBr.acl.length c12)))); have X7 := Lib.hid (X7.out.below b12); have X8 := Lib.hid (X8.out.below b12); clear r12 b12 T11; obtain ⟨_, x1, _⟩ := X7.out.cell; obtain ⟨_, y1, _⟩ := X8.out.cell; rw [kS_uid] at x1 y1; have xl := X7.out.lt; have yl := X8.out.lt)))
      go_ret
      exact ⟨rfl, bel2 BW.out T12.out.has.bel⟩

end Go.Proofs.YtpcdcmoapenbdaaDoor.T
