/-
  Objects in memory: slices of definitions (two cells each) and of links (three cells each); and what wordsMay and first answer.
-/
import Derived.Test.YtnlohmkgkihldaaLRow
import Derived.Test.YtnlohmkgkihldaaOLim
import Derived.Test.YtnlohmkgkihldaaNCalls
import Derived.WalkLawsBesides
import Derived.Laws.StructEq
namespace Go.Proofs.Ytnlohmkgkihldaa.W
open Go.ChangeShapes Go.WideShapes Go.ChangeAt Go.RowKit
open Go.Proofs.Ytnlohmkgkihldaa.N (bs bs_data bs_of bs_size may may_pos retB)

theorem below_drewN (w : World) (n : Nat) : Below w.heap.size w (w.drewN n) := ⟨rfl, rfl, rfl, Nat.le_refl _, fun _ _ => rfl⟩
theorem bel2 {w v u : World} (h : Below w.heap.size w v) (h' : Below v.heap.size v u) : Below w.heap.size w u := h.trans (h'.mono h.size)
theorem one_new (w : World) (o : Obj) : Below w.heap.size w (w.alloc o) := (Below.refl _ _).alloc (Nat.le_refl _) o
theorem txt_same {x y : List UInt8} (h : x = y) : ((bs x).toList == (bs y).toList) = true := by rw [h]; exact beq_self_eq_true _
theorem txt_other {x y : List UInt8} (h : ¬ x = y) : ((bs x).toList == (bs y).toList) = false := by
  rw [Lib.toList_data, Lib.toList_data, bs_data, bs_data]
  exact beq_eq_false_iff_ne.2 h

/-- a definition, a link lies there -/
def DAt (w : World) (b o : Nat) (d : Txt × Int) : Prop := w.cell? ⟨b, o, none⟩ = some (.string (bs d.1)) ∧ w.cell? ⟨b, o + 1, none⟩ = some (.int .i64 d.2)
def KAt (w : World) (b o : Nat) (d : Txt × Txt × Int) : Prop := w.cell? ⟨b, o, none⟩ = some (.string (bs d.1)) ∧ w.cell? ⟨b, o + 1, none⟩ = some (.string (bs d.2.1)) ∧ w.cell? ⟨b, o + 2, none⟩ = some (.int .i64 d.2.2)
def DRow (w : World) (a : Option Addr) (l : List (Txt × Int)) : Prop := 0 < l.length → ∃ bk o, a = some ⟨bk, o, none⟩ ∧ bk < w.heap.size ∧ ∀ j (h : j < l.length), DAt w bk (o + j * 2) l[j]
def KRow (w : World) (a : Option Addr) (l : List (Txt × Txt × Int)) : Prop := 0 < l.length → ∃ bk o, a = some ⟨bk, o, none⟩ ∧ bk < w.heap.size ∧ ∀ j (h : j < l.length), KAt w bk (o + j * 3) l[j]
theorem DAt.below {w w' : World} {b o : Nat} {t : Txt × Int} (h : DAt w b o t) (hl : b < w.heap.size) (hb : Below w.heap.size w w') : DAt w' b o t :=
  ⟨(hb.cell (p := ⟨b, o, none⟩) hl).trans h.1, (hb.cell (p := ⟨b, o + 1, none⟩) hl).trans h.2⟩
theorem KAt.below {w w' : World} {b o : Nat} {t : Txt × Txt × Int} (h : KAt w b o t) (hl : b < w.heap.size) (hb : Below w.heap.size w w') : KAt w' b o t :=
  ⟨(hb.cell (p := ⟨b, o, none⟩) hl).trans h.1, (hb.cell (p := ⟨b, o + 1, none⟩) hl).trans h.2.1, (hb.cell (p := ⟨b, o + 2, none⟩) hl).trans h.2.2⟩
theorem DRow.below {w w' : World} {a : Option Addr} {l : List (Txt × Int)} (h : DRow w a l) (hb : Below w.heap.size w w') : DRow w' a l := fun h0 => by
  obtain ⟨bk, o, e, hl, hc⟩ := h h0
  exact ⟨bk, o, e, Nat.lt_of_lt_of_le hl hb.size, fun j hj => (hc j hj).below hl hb⟩
theorem KRow.below {w w' : World} {a : Option Addr} {l : List (Txt × Txt × Int)} (h : KRow w a l) (hb : Below w.heap.size w w') : KRow w' a l := fun h0 => by
  obtain ⟨bk, o, e, hl, hc⟩ := h h0
  exact ⟨bk, o, e, Nat.lt_of_lt_of_le hl hb.size, fun j hj => (hc j hj).below hl hb⟩
theorem DRow.at_ {w : World} {a : Option Addr} {l : List (Txt × Int)} (h : DRow w a l) {k : Nat} (hk : k < l.length) : ∃ bk o, a = some ⟨bk, o, none⟩ ∧ bk < w.heap.size ∧ DAt w bk (o + k * 2) l[k] := by
  obtain ⟨bk, o, e, hl, hc⟩ := h (by omega)
  exact ⟨bk, o, e, hl, hc k hk⟩
theorem KRow.at_ {w : World} {a : Option Addr} {l : List (Txt × Txt × Int)} (h : KRow w a l) {k : Nat} (hk : k < l.length) : ∃ bk o, a = some ⟨bk, o, none⟩ ∧ bk < w.heap.size ∧ KAt w bk (o + k * 3) l[k] := by
  obtain ⟨bk, o, e, hl, hc⟩ := h (by omega)
  exact ⟨bk, o, e, hl, hc k hk⟩

/-- where the four slices of an object lie -/
structure Pl where
  ta : Option Addr
  tc : Nat
  sa : Option Addr
  sc : Nat
  da : Option Addr
  dc : Nat
  la : Option Addr
  lc : Nat
/-- an object by value -/
@[reducible] def OV (q : Pl) (o : Ob) : Value := .agg #[.slice q.ta o.text.length q.tc, .slice q.sa o.stat.length q.sc, .slice q.da o.defs.length q.dc, .slice q.la o.links.length q.lc]
structure ObIn (w : World) (q : Pl) (o : Ob) : Prop where
  t : NumsIn .u64 w q.ta o.text
  s : NumsIn .u64 w q.sa o.stat
  d : DRow w q.da o.defs
  l : KRow w q.la o.links
def I64 (z : Int) : Prop := -9223372036854775808 ≤ z ∧ z ≤ 9223372036854775807
/-- what every object's numbers and lengths keep to -/
structure Fit (o : Ob) : Prop where
  tz : ∀ z ∈ o.text, U64 z
  sz : ∀ z ∈ o.stat, U64 z
  tl : o.text.length ≤ maxLen
  sl : o.stat.length ≤ maxLen
  dl : o.defs.length ≤ maxLen
  ll : o.links.length ≤ maxLen
  dn : ∀ d ∈ o.defs, d.1.length ≤ maxLen ∧ I64 d.2
  ln : ∀ d ∈ o.links, d.1.length ≤ maxLen ∧ d.2.1.length ≤ maxLen ∧ I64 d.2.2
theorem ObIn.below {w w' : World} {q : Pl} {o : Ob} (h : ObIn w q o) (hb : Below w.heap.size w w') : ObIn w' q o := ⟨h.t.below hb, h.s.below hb, h.d.below hb, h.l.below hb⟩

theorem wm1_any (z : Int) (w : World) : Calls Try.prog 41 #[.int .u64 z] w fun e w' => e = .returned (.bool (decide (z > 68719476735))) ∧ w' = w := by
  go_enter Try.func41, Try.ntmps41
  go_wp2
  go_ret
  exact ⟨rfl, rfl⟩

theorem all_not_at {zs : List Int} {k : Nat} (h : k < zs.length) (hz : zs.getD k 0 > 68719476735) : zs.all okW = false := by
  rw [List.all_eq_false]
  have e : zs.getD k 0 = zs[k] := by simp [List.getD, h]
  rw [e] at hz
  refine ⟨zs[k], List.getElem_mem _, ?_⟩
  simp [okW]
  omega
theorem all_upto {zs : List Int} (hz : ∀ z ∈ zs, U64 z) (h : ∀ j, j < zs.length → zs.getD j 0 ≤ 68719476735) : zs.all okW = true := by
  rw [List.all_eq_true]
  intro z hm
  obtain ⟨j, hj, rfl⟩ := List.mem_iff_getElem.1 hm
  have := h j hj
  have e : zs.getD j 0 = zs[j] := by simp [List.getD, hj]
  rw [e] at this
  have := (hz _ hm).1
  simp [okW]
  omega

set_option maxHeartbeats 400000 in
theorem idxW_any (a : Option Addr) (c : Nat) (zs : List Int) (w : World) (hn : NumsIn .u64 w a zs) (hz : ∀ z ∈ zs, U64 z) (hl : zs.length ≤ maxLen) :
    Calls Try.prog 53 #[.slice a zs.length c, .func (.func 41) #[] #[]] w fun e w' => (∃ r : Int, e = .returned (.int .i64 r) ∧ decide (r ≥ 0) = !(zs.all okW)) ∧ w' = w := by
  have HN := Lib.hid hn
  have HZ := Lib.hid hz
  clear hn hz
  unfold maxLen at hl
  go_enter Try.func53, Try.ntmps53
  go_wp2
  go_loop [8] (fun i => ∃ k : Nat, k ≤ zs.length ∧ i = .int .i64 k ∧ Hid (∀ j, j < k → zs.getD j 0 ≤ 68719476735)) (fun i => zs.length - (intOf i).toNat)
  case atStart => exact ⟨0, Nat.zero_le _, rfl, Lib.hid (fun j hj => by omega)⟩
  case round =>
    obtain ⟨k, hk, rfl, ha⟩ := hrel
    by_cases hlt : k < zs.length
    · obtain ⟨b, o, rfl, hc⟩ := HN.out (by omega)
      have hcell := hc k hlt
      by_cases hv : zs.getD k 0 > 68719476735
      · have HV := Lib.hid (all_not_at hlt hv)
        generalize zs.getD k 0 = v at *
        clear hc
        go_wp2_with (go_at_call 41; refine (wm1_any _ _).mono ?_; rintro e w' ⟨rfl, rfl⟩)
        go_ret
        refine ⟨⟨(k : Int), rfl, ?_⟩, rfl⟩
        rw [HV.out]
        exact decide_eq_true (by omega)
      · have HT := Lib.hid (show ∀ j, j < k + 1 → zs.getD j 0 ≤ 68719476735 from fun j hj => by
          by_cases e : j = k
          · rw [e]; omega
          · exact ha.out j (by omega))
        generalize zs.getD k 0 = v at *
        clear hc
        go_wp2_with (go_at_call 41; refine (wm1_any _ _).mono ?_; rintro e w' ⟨rfl, rfl⟩)
        go_round
        case rel => exact ⟨k + 1, by omega, by go_num, HT⟩
        case measure => simp [intOf]; omega
    · obtain rfl : k = zs.length := by omega
      go_wp2
      go_ret
      refine ⟨⟨-1, rfl, ?_⟩, rfl⟩
      rw [all_upto HZ.out ha.out]
      rfl

theorem containsW_any (a : Option Addr) (c : Nat) (zs : List Int) (w : World) (hn : NumsIn .u64 w a zs) (hz : ∀ z ∈ zs, U64 z) (hl : zs.length ≤ maxLen) :
    Calls Try.prog 40 #[.slice a zs.length c, .func (.func 41) #[] #[]] w fun e w' => e = .returned (.bool (!(zs.all okW))) ∧ w' = w := by
  go_enter Try.func40, Try.ntmps40
  go_wp2_with (go_at_call 53; refine (idxW_any _ _ _ _ hn hz hl).mono ?_; rintro e w' ⟨⟨r, rfl, hr⟩, rfl⟩)
  go_ret
  exact ⟨rfl, rfl⟩

theorem wordsMay_any (a : Option Addr) (c : Nat) (zs : List Int) (m : Nat) (w : World) (hn : NumsIn .u64 w a zs) (hz : ∀ z ∈ zs, U64 z) (hl : zs.length ≤ maxLen) :
    Calls Try.prog 29 #[.slice a zs.length c, .int .i64 m] w fun e w' => e = .returned (.bool (decide (zs.length ≤ m) && zs.all okW)) ∧ w' = w := by
  have hcall := containsW_any a c zs w hn hz hl
  clear hn hz
  unfold maxLen at hl
  by_cases h : zs.length ≤ m
  · have e1 : decide ((zs.length : Int) ≤ (m : Int)) = true := decide_eq_true (by omega)
    have HD := Lib.hid (decide_eq_true h)
    go_enter Try.func29, Try.ntmps29
    go_wp2_with (go_at_call 40; refine hcall.mono ?_; rintro e w' ⟨rfl, rfl⟩)
    go_ret
    exact ⟨retB (by rw [HD.out]; simp), rfl⟩
  · have e1 : decide ((zs.length : Int) ≤ (m : Int)) = false := decide_eq_false (by omega)
    have HD := Lib.hid (decide_eq_false h)
    go_enter Try.func29, Try.ntmps29
    go_wp2
    go_ret
    exact ⟨retB (by rw [HD.out]; simp), rfl⟩

/-- first's question, of one definition -/
theorem first1_any (t u : Txt) (n : Int) (g : Nat) (w : World) (hg : w.cell? ⟨g, 0, none⟩ = some (.string (bs t))) :
    Calls Try.prog 56 #[.agg #[.string (bs u), .int .i64 n], .pointer (some ⟨g, 0, none⟩)] w fun e w' => e = .returned (.bool (decide (u = t))) ∧ Below w.heap.size w w' := by
  have hlt := World.block_lt_of_cell? w _ hg
  have hg2 : ∀ o, (w.alloc o).cell? ⟨g, 0, none⟩ = some (.string (bs t)) := fun o => ((one_new w o).cell (p := ⟨g, 0, none⟩) hlt).trans hg
  by_cases h : u = t
  · have e1 := txt_same h
    go_enter Try.func56, Try.ntmps56
    go_wp2
    go_ret
    exact ⟨rfl, one_new _ _⟩
  · have e1 := txt_other h
    go_enter Try.func56, Try.ntmps56
    go_wp2
    go_ret
    exact ⟨rfl, one_new _ _⟩

end Go.Proofs.Ytnlohmkgkihldaa.W
