/-
  The document's own Add where it refuses, Name, Access and Ringed.
-/
import Derived.Test.YtpcdcmoapenbdaaDoorMAdd
namespace Go.Proofs.YtpcdcmoapenbdaaDoor.T
open Go.ChangeShapes Go.WideShapes Go.ChangeAt Go.RowKit
open Go.Proofs.YtpcdcmoapenbdaaDoor.N (bs bs_data bs_size bs_inj bs_of Glob)
open Go.Proofs.YtpcdcmoapenbdaaDoor.A (Tm TRow)

section
variable {w : World} {b : Nat} {F : Nat → Prop} {m : Ms}

theorem madd_no (h : MAt w b F m) {d : Int} {s : Txt} (hs : s.length ≤ maxLen) {br : Br} {a : Option Addr} {cc : Nat} (hr : TRow w a cc br.acl) (htx : ∀ t ∈ br.acl, t.1.length ≤ maxLen) (hl : br.link.length ≤ maxLen) {r : Int} (hR : canE m d s br = r) (h0 : ¬ r = 0) :
    Calls Tryd.prog 20 #[TP b, .int .i64 d, .string (bs s), BrV br (.slice a br.acl.length cc)] w fun e w' => e = .returned (.tuple #[.int .i64 0, .int .i64 r]) ∧ Below w.heap.size w w' := by
  have hc := can_any (h.alloc (BmO br (.slice a br.acl.length cc))) (d := d) hs (hr.alloc _) htx hl hR
  have e1 : (r == 0) = false := by simpa using h0
  have e1' : (r != 0) = true := by simpa using h0
  clear h hr htx hR h0
  go_enter Tryd.func20, Tryd.ntmps20
  go_wp2_with (go_at_call 43; ((refine hc.mono ?_); rintro e w1 ⟨rfl, b1⟩))
  exact bodyPost_ret (v := .tuple #[.int .i64 0, .int .i64 r]) (by simp [results, Tryd.results20, go_sem]) rfl ⟨rfl, bel2 (one_new _ _) b1⟩

/-- where a name may be given -/
def nameE (m : Ms) (d : Int) (s more : Txt) : Int :=
  if (at? m.E d s).isSome = false then 4 else if N.may 32 more = false then 3 else if (at? m.E d more).isSome = true then 5 else 0
def nameM (m : Ms) (k : Nat) (d : Int) (more : Txt) : Ms := ⟨m.B, m.E ++ [(d, ((m.E[k]?).map (·.2.1)).getD 0, more)], m.D⟩

theorem mname_no (h : MAt w b F m) {d : Int} {s more : Txt} (hm : more.length ≤ maxLen) {r : Int} (hR : nameE m d s more = r) (h0 : ¬ r = 0) :
    Calls Tryd.prog 22 #[TP b, .int .i64 d, .string (bs s), .string (bs more)] w fun e w' => e = .returned (.int .i64 r) ∧ w = w' := by
  cases h1 : at? m.E d s with
  | none =>
    have a1 := mat_is h (d := d) (s := s) (r := -1) (by rw [h1]; rfl)
    obtain rfl : r = 4 := by rw [← hR]; simp [nameE, h1]
    clear h hR h0 h1
    go_enter Tryd.func22, Tryd.ntmps22
    go_wp2_with (go_at_call 45; ((with_reducible refine a1.mono ?_); rintro e w1 ⟨rfl, rfl⟩))
    go_ret
    exact ⟨rfl, rfl⟩
  | some k =>
    have a1 := mat_is h (d := d) (s := s) (r := (k : Int)) (by rw [h1]; rfl)
    cases h2 : N.may 32 more with
    | false =>
      have n1 := nameMay_is hm h2 w
      obtain rfl : r = 3 := by rw [← hR]; simp [nameE, h1, h2]
      clear h hR h0 h1 h2
      go_enter Tryd.func22, Tryd.ntmps22
      go_wp2_with (first
        | (go_at_call 45; ((with_reducible refine a1.mono ?_); rintro e w1 ⟨rfl, rfl⟩))
        | (go_at_call 36; ((with_reducible refine n1.mono ?_); rintro e w1 ⟨rfl, rfl⟩)))
      go_ret
      exact ⟨rfl, rfl⟩
    | true =>
      have n1 := nameMay_is hm h2 w
      cases h3 : at? m.E d more with
      | none => exact absurd (by rw [← hR]; simp [nameE, h1, h2, h3]) h0
      | some k2 =>
        have a2 := mat_is h (d := d) (s := more) (r := (k2 : Int)) (by rw [h3]; rfl)
        obtain rfl : r = 5 := by rw [← hR]; simp [nameE, h1, h2, h3]
        by_cases hsm : s = more
        · subst hsm
          clear h hR h0 h1 h2 h3 a1
          have ek : (k2 : Int) = (k2 : Int) := rfl
          go_enter Tryd.func22, Tryd.ntmps22
          go_wp2_with (first
            | (go_at_call 45; ((with_reducible refine a2.mono ?_); rintro e w1 ⟨rfl, rfl⟩))
            | (go_at_call 36; ((with_reducible refine n1.mono ?_); rintro e w1 ⟨rfl, rfl⟩)))
          go_ret
          exact ⟨rfl, rfl⟩
        · clear h hR h0 h1 h2 h3 hsm
          go_enter Tryd.func22, Tryd.ntmps22
          go_wp2_with (first
            | (go_at_call 45; ((with_reducible refine a1.mono ?_); rintro e w1 ⟨rfl, rfl⟩))
            | (go_at_call 45; ((with_reducible refine a2.mono ?_); rintro e w1 ⟨rfl, rfl⟩))
            | (go_at_call 36; ((with_reducible refine n1.mono ?_); rintro e w1 ⟨rfl, rfl⟩)))
          go_ret
          exact ⟨rfl, rfl⟩

set_option maxHeartbeats 8000000 in
set_option maxRecDepth 8000 in
theorem mname_at (h : MAt w b F m) {d : Int} {s more : Txt} (hm : more.length ≤ maxLen) {k : Nat} (h1 : at? m.E d s = some k) (h2 : N.may 32 more = true) (h3 : at? m.E d more = none) (hlE : m.E.length < 1000) :
    Calls Tryd.prog 22 #[TP b, .int .i64 d, .string (bs s), .string (bs more)] w fun e w' => e = .returned (.int .i64 0) ∧ Now F w b (nameM m k d more) w' := by
  have a1 := mat_is h (d := d) (s := s) (r := (k : Int)) (by rw [h1]; rfl)
  have a2 := mat_is h (d := d) (s := more) (r := -1) (by rw [h3]; rfl)
  have n1 := nameMay_is hm h2 w
  have hk : k < m.E.length := (List.findIdx?_eq_some_iff_getElem.1 h1).1
  have hsm : s ≠ more := by rintro rfl; rw [h1] at h3; cases h3
  obtain ⟨bl, vB, vL, vD, h5, hB⟩ := h
  have HM := Lib.hid (h5.below (Below.refl _ _).drew)
  have HB := Lib.hid hB
  obtain ⟨aL, cap, rfl, hc, hn, hg⟩ := h5.eForm
  obtain ⟨g, rfl, hgl, q0, q1, q2⟩ := h5.eAt hk
  have hid : m.E[k].2.1 < bl.length := h5.ids _ (List.getElem_mem hk)
  have HE : Hid (nameM m k d more = ⟨m.B, m.E ++ [(d, m.E[k].2.1, more)], m.D⟩) := Lib.hid (by simp [nameM, hk])
  generalize hii : m.E[k].2.1 = ii at q1 HE hid
  have c1 := h5.c1
  have f5 := h5.fz
  have bl5 := h5.lt
  obtain ⟨i1, hj, hy0, hy1, hy2⟩ := info_parts info_en
  clear h5 hB h1 h2 h3 hii hsm q0 q2
  go_enter Tryd.func22, Tryd.ntmps22
  go_wp2_with (first
    | (go_at_call 45; ((with_reducible refine a1.mono ?_); rintro e w1 ⟨rfl, rfl⟩))
    | (go_at_call 45; ((with_reducible refine a2.mono ?_); rintro e w1 ⟨rfl, rfl⟩))
    | (go_at_call 36; ((with_reducible refine n1.mono ?_); rintro e w1 ⟨rfl, rfl⟩)))
  clear a1 a2 n1
  go_region_law (refine step_append_lies _ rfl (.tmp 31) (.tmp 43) 65 rfl 0 99 i1 _ 3 32 Tryd.underlying65 hj hy0 hy1 hy2 rfl (by decide) (.slice (some ⟨g, 0, none⟩) m.E.length cap) m.E.length (m.E.flatMap enC) (by simp [Act.eval]) (World.ownsRow.alloc HM.out.rL _) ⟨w.heap.size, 0, none⟩ 1 1 (enC (d, ii, more)) (by simp [Act.eval]) rfl (World.news_of_block (heap_alloc_new _ _)) (by simp [enC, Value.oneCell']) (by omega) (by unfold maxLen; omega) (by omega) (Nat.zero_le _) (w.heap.size + 1) (by simp) ?_; intro g1 cap1 w6 o6 g6 a6 l6; have AP : Apd w.drew w6 (.slice (some ⟨g, 0, none⟩) m.E.length cap) (.slice (some ⟨g1, 0, none⟩) (m.E.length + 1) cap1) := apd_of g6 a6 l6; obtain ⟨k0, k1, k2, kf, kl⟩ := mto_cells (HM.out.headL AP))
  all_goals go_wp2
  all_goals go_ret
  all_goals exact ⟨rfl, by rw [HE.out]; exact now_L (Went.refl F w) HM.out HB.out AP (by rw [List.length_append, List.flatMap_append]; simpa using o6) (by simp; omega) (fun e he => by
    rcases List.mem_append.1 he with he | he
    · exact HM.out.ids e he
    · rw [List.mem_singleton.1 he]; exact hid)⟩

end

end Go.Proofs.YtpcdcmoapenbdaaDoor.T
