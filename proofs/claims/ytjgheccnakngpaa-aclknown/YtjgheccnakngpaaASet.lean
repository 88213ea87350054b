/-
  Set and Drop: what they return.
-/
import Derived.Test.YtjgheccnakngpaaAConcat
import Derived.Deep.RegionWith
namespace Go.Proofs.Ytjgheccnakngpaa.A
open Go.ChangeShapes Go.WideShapes Go.ChangeAt Go.RowKit
open Go.Proofs.Ytjgheccnakngpaa.N

/-- where a slice begins whose first k terms are cut off -/
def dropA (a : Option Addr) (c k : Nat) : Option Addr := if c = k then a else a.map (·.add (k * 4))

theorem add_zero' (a : Addr) : a.add 0 = a := by
  obtain ⟨b, o, s⟩ := a
  unfold Addr.add
  split <;> simp_all

theorem slice_drop (a : Option Addr) (len c k : Nat) (h : k ≤ len) (w : World) : (Instr.slice 22 (.slice a len c) (some (.int .i64 k)) none none).run Try.prog w = .ok (.slice (dropA a c k) (len - k) (c - k)) w := by
  have he : Try.prog.elem 22 = 26 := by kernel_rfl
  have hu : Try.prog.underlying 22 = some (.slice (Try.prog.elem 22)) := by kernel_rfl
  rw [run_slice_l w 22 a len c hu .i64 k (by omega) (by omega), he, Try.sizeOf26]
  simp [Result.andThen, sliced, dropA]
theorem slice_take (a : Option Addr) (len c k : Nat) (h : k ≤ c) (w : World) : (Instr.slice 22 (.slice a len c) none (some (.int .i64 k)) none).run Try.prog w = .ok (.slice a k c) w := by
  have he : Try.prog.elem 22 = 26 := by kernel_rfl
  have hu : Try.prog.underlying 22 = some (.slice (Try.prog.elem 22)) := by kernel_rfl
  rw [run_slice_h w 22 a len c hu .i64 k (by omega) (by omega), he, Try.sizeOf26]
  cases a <;> simp [Result.andThen, sliced, add_zero']

theorem TRow.take {w : World} {a : Option Addr} {c : Nat} {l : List Tm} (h : TRow w a c l) (k : Nat) : TRow w a c (l.take k) := by
  refine ⟨Nat.le_trans (by simp; omega) h.1, h.2.1, fun h0 => ?_⟩
  obtain ⟨bk, o, e, hb, hc⟩ := h.2.2 (by simp at h0; omega)
  exact ⟨bk, o, e, hb, fun j hj => by rw [List.getElem_take]; exact hc j _⟩
theorem TRow.drop {w : World} {a : Option Addr} {c : Nat} {l : List Tm} (h : TRow w a c l) (k : Nat) : TRow w (dropA a c k) (c - k) (l.drop k) := by
  have h1 := h.1
  refine ⟨by simp; omega, fun e => ?_, fun h0 => ?_⟩
  · unfold dropA at e
    split at e
    · omega
    · have : a = none := by cases a with | none => rfl | some x => simp at e
      have := h.2.1 this
      omega
  · simp at h0
    obtain ⟨bk, o, rfl, hb, hc⟩ := h.2.2 (by omega)
    refine ⟨bk, o + k * 4, by simp [dropA, Addr.add_lit, show ¬ c = k by omega], hb, fun j hj => ?_⟩
    simp at hj
    rw [List.getElem_drop]
    have := hc (k + j) (by omega)
    rwa [show o + (k + j) * 4 = o + k * 4 + j * 4 by omega] at this

/-- a term in a block of its own -/
@[reducible] def TO (t : Tm) : Obj := .cells #[.string (bs t.1), .bool t.2.1, .bool t.2.2.1, .bool t.2.2.2] 26
theorem TAt.new (w : World) (t : Tm) : TAt (w.alloc (TO t)) w.heap.size 0 t :=
  ⟨by rw [cell_of_row _ _ _ _ _ _ (heap_alloc_new w _)]; rfl, by rw [cell_of_row _ _ _ _ _ _ (heap_alloc_new w _)]; rfl, by rw [cell_of_row _ _ _ _ _ _ (heap_alloc_new w _)]; rfl, by rw [cell_of_row _ _ _ _ _ _ (heap_alloc_new w _)]; rfl⟩

theorem TAt.drewN {w : World} {b o : Nat} {t : Tm} (h : TAt w b o t) (n : Nat) : TAt (w.drewN n) b o t := h
theorem TAt.zero {w : World} {b : Nat} {t : Tm} (h : TAt w b 0 t) : w.cell? ⟨b, 0, none⟩ = some (.string (bs t.1)) ∧ w.cell? ⟨b, 1, none⟩ = some (.bool t.2.1) ∧ w.cell? ⟨b, 2, none⟩ = some (.bool t.2.2.1) ∧ w.cell? ⟨b, 3, none⟩ = some (.bool t.2.2.2) := h

/-- three slices in a row: what Set hands to Concat -/
@[reducible] def P3 (a1 a2 a3 : Option Addr) (n1 n2 n3 c1 c2 c3 : Nat) : Obj := .cells #[.slice a1 n1 c1, .slice a2 n2 c2, .slice a3 n3 c3] 22

def SetPost (l : List Tm) (t : Tm) (w : World) (e : Ending) (w' : World) : Prop := ∃ a c, e = .returned (.tuple #[.slice a (setR l t).length c, .int .i64 (setE l t)]) ∧ TRow w' a c (setR l t) ∧ Below w.heap.size w w'

theorem setPost_err {l : List Tm} {t : Tm} {w w' : World} {n : Int} (h : setE l t = n) (h0 : n ≠ 0) (hb : Below w.heap.size w w') : SetPost l t w (.returned (.tuple #[.slice none 0 0, .int .i64 n])) w' := by
  have e := setR_not (h ▸ h0)
  refine ⟨none, 0, ?_, ?_, hb⟩
  · rw [e, h]; rfl
  · rw [e]; exact TRow.nil _

theorem concat3 (W : World) (a a3 : Option Addr) (c c3 n n3 : Nat) (l1 r m : List Tm) (t : Tm) (hm : l1 ++ (t :: r) = m) (h1 : TRow W a c l1) (h3 : TRow W a3 c3 r) (e1 : l1.length = n) (e3 : r.length = n3) (hl : l1.length ≤ 1000) (hl3 : r.length ≤ 1000) :
    Calls Try.prog 21 #[.slice (some ⟨W.heap.size + 1, 0, none⟩) 3 3] ((W.alloc (TO t)).alloc (P3 a (some ⟨W.heap.size, 0, none⟩) a3 n 1 n3 c 1 c3)).drew fun e w' => ∃ a' c', e = .returned (.slice a' m.length c') ∧ TRow w' a' c' m ∧ Below W.heap.size W w' := by
  subst e1 e3 hm
  have hb : Below W.heap.size W ((W.alloc (TO t)).alloc (P3 a (some ⟨W.heap.size, 0, none⟩) a3 l1.length 1 r.length c 1 c3)).drew := (bel2 (one_new _ _) (one_new _ _)).drew
  have ht : TRow ((W.alloc (TO t)).alloc (P3 a (some ⟨W.heap.size, 0, none⟩) a3 l1.length 1 r.length c 1 c3)).drew (some ⟨W.heap.size, 0, none⟩) 1 [t] := (TRow.lit W [t] 1 (by simp)).below ((one_new _ _).drew)
  have hc : ∀ j, ((W.alloc (TO t)).alloc (P3 a (some ⟨W.heap.size, 0, none⟩) a3 l1.length 1 r.length c 1 c3)).drew.cell? ⟨W.heap.size + 1, j, none⟩ = (#[Value.slice a l1.length c, .slice (some ⟨W.heap.size, 0, none⟩) 1 1, .slice a3 r.length c3] : Array Value)[j]? := fun j => by
    have := heap_alloc_new (W.alloc (TO t)) (P3 a (some ⟨W.heap.size, 0, none⟩) a3 l1.length 1 r.length c 1 c3)
    rw [show (W.alloc (TO t)).heap.size = W.heap.size + 1 by simp] at this
    exact cell_of_row _ _ j _ _ _ this
  have := concat_any (W.heap.size + 1) [(a, c, l1), (some ⟨W.heap.size, 0, none⟩, 1, [t]), (a3, c3, r)] ((W.alloc (TO t)).alloc (P3 a (some ⟨W.heap.size, 0, none⟩) a3 l1.length 1 r.length c 1 c3)).drew (by simp) (by simp)
    (fun j hj => by
      rw [hc j]
      match j, hj with
      | 0, _ => rfl
      | 1, _ => rfl
      | 2, _ => rfl)
    (fun j hj => by
      match j, hj with
      | 0, _ => exact h1.below hb
      | 1, _ => exact ht
      | 2, _ => exact h3.below hb)
    (by simp [all]; omega)
  rw [show all [(a, c, l1), (some ⟨W.heap.size, 0, none⟩, 1, [t]), (a3, c3, r)] = l1 ++ (t :: r) by simp [all]] at this
  exact this.mono fun e w' ⟨a', c', he, hr, hw⟩ => ⟨a', c', he, hr, bel2 hb hw⟩

theorem setPost_ok {l : List Tm} {t : Tm} {w w' : World} {a : Option Addr} {c : Nat} (h : setE l t = 0) (hr : TRow w' a c (setL l t)) (hb : Below w.heap.size w w') : SetPost l t w (.returned (.tuple #[.slice a (setL l t).length c, .int .i64 0])) w' := by
  refine ⟨a, c, ?_, ?_, hb⟩
  · rw [setR_zero h, h]
  · rw [setR_zero h]; exact hr

set_option maxHeartbeats 2000000 in
theorem set_may (a : Option Addr) (c : Nat) (l : List Tm) (t : Tm) (w : World) (hr : TRow w a c l) (hl : ∀ t ∈ l, t.1.length ≤ maxLen) (hm : lmay l = false) :
    Calls Try.prog 10 #[.slice a l.length c, TV t] w (SetPost l t w) := by
  have HL := Lib.hid hl
  have HR := Lib.hid (hr.alloc (TO t))
  have HE := Lib.hid (setE_may (t := t) hm)
  clear hl hr
  go_enter Try.func10, Try.ntmps10
  go_wp2_with (first
    | (go_at_call 12; refine (may_any _ _ _ _ HR.out HL.out).mono ?_; rintro e w1 ⟨rfl, h1⟩))
  exact bodyPost_ret (v := .tuple #[.slice none 0 0, .int .i64 1]) (by simp [results, Try.results10, go_sem]) rfl (setPost_err HE.out (by decide) (bel2 (one_new _ _) h1))

set_option maxHeartbeats 2000000 in
theorem set_name (a : Option Addr) (c : Nat) (l : List Tm) (t : Tm) (w : World) (hr : TRow w a c l) (hl : ∀ t ∈ l, t.1.length ≤ maxLen) (ht : t.1.length ≤ maxLen) (hm : lmay l = true) (hn : may 16 t.1 = false) :
    Calls Try.prog 10 #[.slice a l.length c, TV t] w (SetPost l t w) := by
  have HL := Lib.hid hl
  have HR := Lib.hid (hr.alloc (TO t))
  have HT := Lib.hid (TAt.new w t)
  have HE := Lib.hid (setE_name hm hn)
  clear hl hr
  go_enter Try.func10, Try.ntmps10
  go_wp2_with (first
    | (go_at_call 12; refine (may_any _ _ _ _ HR.out HL.out).mono ?_; rintro e w1 ⟨rfl, h1⟩; have y1 : w.heap.size < w1.heap.size := (by have := h1.size; simp at this; omega); obtain ⟨k0, k1, k2, k3⟩ := (HT.out.below (by simp) h1).zero)
    | (go_at_call 19; refine (isUser_any _ _ ht).mono ?_; rintro e w2 ⟨rfl, n, rfl⟩))
  exact bodyPost_ret (v := .tuple #[.slice none 0 0, .int .i64 3]) (by simp [results, Try.results10, go_sem]) rfl (setPost_err HE.out (by decide) (bel2 (bel2 (one_new _ _) h1) (below_drewN _ _)))

set_option maxHeartbeats 2000000 in
theorem set_full (a : Option Addr) (c : Nat) (l : List Tm) (t : Tm) (w : World) (hr : TRow w a c l) (hl : ∀ t ∈ l, t.1.length ≤ maxLen) (ht : t.1.length ≤ maxLen) (hm : lmay l = true) (hn : may 16 t.1 = true) (hth : there l t.1 = false) (h16 : l.length = 16) :
    Calls Try.prog 10 #[.slice a l.length c, TV t] w (SetPost l t w) := by
  have HL := Lib.hid hl
  have HR := Lib.hid (hr.alloc (TO t))
  have HT := Lib.hid (TAt.new w t)
  have HE := Lib.hid (setE_full hm hn hth h16)
  have HU := Lib.hid (lmay_parts hm).2.2
  have hq : l.length ≤ 1000000 := by omega
  have hs := slice_drop a l.length c (ahead l t.1) (ahead_le _ _)
  have e16 : ((l.length : Int) == 16) = true := by simp; omega
  have h16' := Lib.hid h16
  clear hl hr h16
  go_enter Try.func10, Try.ntmps10
  go_wp2_with (first
    | (go_at_call 12; refine (may_any _ _ _ _ HR.out HL.out).mono ?_; rintro e w1 ⟨rfl, h1⟩; have y1 : w.heap.size < w1.heap.size := (by have := h1.size; simp at this; omega); have HR1 := Lib.hid (HR.out.below h1); obtain ⟨k0, k1, k2, k3⟩ := (HT.out.below (by simp) h1).zero)
    | (go_at_call 19; refine (isUser_any _ _ ht).mono ?_; rintro e w2 ⟨rfl, n, rfl⟩)
    | (go_at_call 20; refine (place_any a c l t.1 _ (HR1.out.drewN _) HU.out hq).mono ?_; rintro e w3 ⟨rfl, h3⟩))
  exact bodyPost_ret (v := .tuple #[.slice none 0 0, .int .i64 7]) (by simp [results, Try.results10, go_sem]) rfl (setPost_err HE.out (by decide) (bel2 (bel2 (bel2 (one_new _ _) h1) (below_drewN _ n)) h3))

set_option maxHeartbeats 2000000 in
theorem set_no (a : Option Addr) (c : Nat) (l : List Tm) (t : Tm) (w : World) (hr : TRow w a c l) (hl : ∀ t ∈ l, t.1.length ≤ maxLen) (ht : t.1.length ≤ maxLen) (hm : lmay l = true) (hn : may 16 t.1 = true) (hth : there l t.1 = false) (h16 : ¬ l.length = 16) :
    Calls Try.prog 10 #[.slice a l.length c, TV t] w (SetPost l t w) := by
  have HL := Lib.hid hl
  have HR := Lib.hid (hr.alloc (TO t))
  have HT := Lib.hid (TAt.new w t)
  have HE := Lib.hid (setE_no hm hn h16)
  have HU := Lib.hid (lmay_parts hm).2.2
  have q16 : l.length ≤ 16 := (lmay_parts hm).1
  have hq : l.length ≤ 1000000 := by omega
  have hs := slice_drop a l.length c (ahead l t.1) (ahead_le _ _)
  have hs2 := slice_take a l.length c (ahead l t.1) (Nat.le_trans (ahead_le _ _) hr.1)
  have e16 : ((l.length : Int) == 16) = false := by simp; omega
  have h16' := Lib.hid h16
  clear hl hr h16
  go_enter Try.func10, Try.ntmps10
  go_wp2_with (first
    | (go_at_call 12; refine (may_any _ _ _ _ HR.out HL.out).mono ?_; rintro e w1 ⟨rfl, h1⟩; have y1 : w.heap.size < w1.heap.size := (by have := h1.size; simp at this; omega); have HR1 := Lib.hid (HR.out.below h1); have HT1 := Lib.hid (HT.out.below (by simp) h1); obtain ⟨k0, k1, k2, k3⟩ := HT1.out.zero)
    | (go_at_call 19; refine (isUser_any _ _ ht).mono ?_; rintro e w2 ⟨rfl, n, rfl⟩)
    | (go_at_call 20; refine (place_any a c l t.1 _ (HR1.out.drewN _) HU.out hq).mono ?_; rintro e w3 ⟨rfl, h3⟩; have y3 : w.heap.size < w3.heap.size := (by have := h3.size; simp at this; omega); obtain ⟨m0, m1, m2, m3⟩ := ((HT1.out.drewN n).below y1 h3).zero))
  have g1 := Lib.hid (((HR1.out.drewN n).below h3).take (ahead l t.1))
  have g3 := Lib.hid (((HR1.out.drewN n).below h3).drop (ahead l t.1))
  have q1 := ahead_le l t.1
  have HC := Lib.hid (concat3 w3 a (dropA a c (ahead l t.1)) c (c - ahead l t.1) (ahead l t.1) (l.length - ahead l t.1) (l.take (ahead l t.1)) (l.drop (ahead l t.1)) (setL l t) t (setL_no HU.out hth) g1.out g3.out (by simp; omega) (by simp) (by simp; omega) (by simp; omega))
  go_region_with (go_at_call 21; refine HC.out.mono ?_; rintro e w4 ⟨a', c', rfl, h4, h5⟩)
  all_goals go_wp2
  all_goals exact bodyPost_ret (v := .tuple #[.slice a' (setL l t).length c', .int .i64 0]) (by simp [results, Try.results10, go_sem]) rfl (setPost_ok HE.out h4 (bel2 (bel2 (bel2 (bel2 (one_new _ _) h1) (below_drewN _ n)) h3) h5))

theorem dropA_next (a : Option Addr) (c k : Nat) (h : k < c) : (if c - k = 1 then dropA a c k else (dropA a c k).map (·.add (1 * 4))) = (if c = k + 1 then dropA a c k else dropA a c (k + 1)) := by
  unfold dropA
  by_cases e : c = k + 1
  · rw [if_pos (by omega), if_pos e]
  · rw [if_neg (by omega), if_neg e, if_neg (by omega), if_neg (by omega), Option.map_map]
    congr 1
    funext x
    simp [Addr.add_add]
    congr 1
    omega

/-- where the rest begins behind a term that is replaced -/
def dropB (a : Option Addr) (c k : Nat) : Option Addr := if c = k + 1 then dropA a c k else dropA a c (k + 1)
theorem TRow.dropB {w : World} {a : Option Addr} {c : Nat} {l : List Tm} (h : TRow w a c l) (k : Nat) (hk : k < l.length) : TRow w (dropB a c k) (c - k - 1) (l.drop (k + 1)) := by
  have h1 := h.1
  have h2 := h.drop (k + 1)
  unfold A.dropB
  split
  · have e : l.drop (k + 1) = [] := List.drop_eq_nil_of_le (by omega)
    rw [e]
    refine ⟨by simp, fun _ => by omega, fun h => by simp at h⟩
  · rwa [Nat.sub_sub]
theorem slice_next (a : Option Addr) (len c k : Nat) (h : k < len) (hc : len ≤ c) (w : World) : (Instr.slice 22 (.slice (dropA a c k) (len - k) (c - k)) (some (.int .i64 1)) none none).run Try.prog w = .ok (.slice (dropB a c k) (len - k - 1) (c - k - 1)) w := by
  have := slice_drop (dropA a c k) (len - k) (c - k) 1 (by omega) w
  rw [show dropA (dropA a c k) (c - k) 1 = dropB a c k from dropA_next a c k (by omega)] at this
  exact this

set_option maxHeartbeats 2000000 in
theorem set_yes (a : Option Addr) (c : Nat) (l : List Tm) (t : Tm) (w : World) (hr : TRow w a c l) (hl : ∀ t ∈ l, t.1.length ≤ maxLen) (ht : t.1.length ≤ maxLen) (hm : lmay l = true) (hn : may 16 t.1 = true) (hth : there l t.1 = true) :
    Calls Try.prog 10 #[.slice a l.length c, TV t] w (SetPost l t w) := by
  have HL := Lib.hid hl
  have HR := Lib.hid (hr.alloc (TO t))
  have HT := Lib.hid (TAt.new w t)
  have HE := Lib.hid (setE_yes hm hn hth)
  have HU := Lib.hid (lmay_parts hm).2.2
  have q16 : l.length ≤ 16 := (lmay_parts hm).1
  have hq : l.length ≤ 1000000 := by omega
  have q1 := (drop_yes HU.out hth).1
  have hs := slice_drop a l.length c (ahead l t.1) (ahead_le _ _)
  have hs2 := slice_take a l.length c (ahead l t.1) (Nat.le_trans (ahead_le _ _) hr.1)
  have hs3 := slice_next a l.length c (ahead l t.1) q1 hr.1
  clear hl hr
  go_enter Try.func10, Try.ntmps10
  go_wp2_with (first
    | (go_at_call 12; refine (may_any _ _ _ _ HR.out HL.out).mono ?_; rintro e w1 ⟨rfl, h1⟩; have y1 : w.heap.size < w1.heap.size := (by have := h1.size; simp at this; omega); have HR1 := Lib.hid (HR.out.below h1); have HT1 := Lib.hid (HT.out.below (by simp) h1); obtain ⟨k0, k1, k2, k3⟩ := HT1.out.zero)
    | (go_at_call 19; refine (isUser_any _ _ ht).mono ?_; rintro e w2 ⟨rfl, n, rfl⟩)
    | (go_at_call 20; refine (place_any a c l t.1 _ (HR1.out.drewN _) HU.out hq).mono ?_; rintro e w3 ⟨rfl, h3⟩; have y3 : w.heap.size < w3.heap.size := (by have := h3.size; simp at this; omega); obtain ⟨m0, m1, m2, m3⟩ := ((HT1.out.drewN n).below y1 h3).zero))
  have g1 := Lib.hid (((HR1.out.drewN n).below h3).take (ahead l t.1))
  have g3 := Lib.hid (((HR1.out.drewN n).below h3).dropB (ahead l t.1) q1)
  have HC := Lib.hid (concat3 w3 a (dropB a c (ahead l t.1)) c (c - ahead l t.1 - 1) (ahead l t.1) (l.length - ahead l t.1 - 1) (l.take (ahead l t.1)) (l.drop (ahead l t.1 + 1)) (setL l t) t (setL_yes HU.out hth) g1.out g3.out (by simp; omega) (by simp; omega) (by simp; omega) (by simp; omega))
  go_region_with (go_at_call 21; refine HC.out.mono ?_; rintro e w4 ⟨a', c', rfl, h4, h5⟩)
  all_goals go_wp2
  all_goals exact bodyPost_ret (v := .tuple #[.slice a' (setL l t).length c', .int .i64 0]) (by simp [results, Try.results10, go_sem]) rfl (setPost_ok HE.out h4 (bel2 (bel2 (bel2 (bel2 (one_new _ _) h1) (below_drewN _ n)) h3) h5))

theorem set_any (a : Option Addr) (c : Nat) (l : List Tm) (t : Tm) (w : World) (hr : TRow w a c l) (hl : ∀ t ∈ l, t.1.length ≤ maxLen) (ht : t.1.length ≤ maxLen) :
    Calls Try.prog 10 #[.slice a l.length c, TV t] w (SetPost l t w) := by
  cases hm : lmay l with
  | false => exact set_may a c l t w hr hl hm
  | true =>
    cases hn : may 16 t.1 with
    | false => exact set_name a c l t w hr hl ht hm hn
    | true =>
      cases hth : there l t.1 with
      | true => exact set_yes a c l t w hr hl ht hm hn hth
      | false =>
        by_cases h16 : l.length = 16
        · exact set_full a c l t w hr hl ht hm hn hth h16
        · exact set_no a c l t w hr hl ht hm hn hth h16

end Go.Proofs.Ytjgheccnakngpaa.A
