/-
  The objects of which so many words, definitions and links are made by hand: they may be just up to the limits. No program is named here.
-/
import Derived.Test.YtnlohmkgkihldaaOLax
namespace Go.Proofs.Ytnlohmkgkihldaa.W
open Go.Proofs.Ytnlohmkgkihldaa.N (may may_pos okSign)

/-- no name twice, in the library's words -/
theorem apart_iff (ds : List (Txt × Int)) : apart ds = true ↔ (ds.map Prod.fst).Nodup := by
  induction ds with
  | nil => simp [apart]
  | cons d r ih =>
    simp only [apart, Bool.and_eq_true, Bool.not_eq_true', List.any_eq_false, List.map_cons, List.nodup_cons, ih]
    constructor
    · rintro ⟨h1, h2⟩
      refine ⟨fun hm => ?_, h2⟩
      obtain ⟨e, he, h⟩ := List.mem_map.1 hm
      exact h1 e he (by simp [h])
    · rintro ⟨h1, h2⟩
      refine ⟨fun e he h => h1 (List.mem_map.2 ⟨e, he, by simpa using h⟩), h2⟩

/-- name i of the definitions -/
def dN (i : Nat) : Txt := [101, UInt8.ofNat (48 + i / 10), UInt8.ofNat (48 + i % 10)]
def limOb (a b d l : Nat) : Ob := ⟨List.replicate a 0, List.replicate b 0, (List.range d).map fun i => (dN i, 0), List.replicate l ([], [120], 0)⟩
theorem dN_inj {i j : Nat} (hi : i < 100) (hj : j < 100) (h : dN i = dN j) : i = j := by
  simp only [dN, List.cons.injEq, and_true, true_and] at h
  have h1 := congrArg UInt8.toNat h.1
  have h2 := congrArg UInt8.toNat h.2
  simp at h1 h2
  omega
theorem dN_may {i : Nat} (hi : i < 100) : may 32 (dN i) = true := by
  have h1 : (UInt8.ofNat (48 + i / 10)).toNat = 48 + i / 10 := by simp; omega
  have h2 : (UInt8.ofNat (48 + i % 10)).toNat = 48 + i % 10 := by simp; omega
  have e1 : ¬ UInt8.ofNat (48 + i / 10) = 62 := fun e => by rw [e] at h1; simp at h1; omega
  have e2 : ¬ UInt8.ofNat (48 + i % 10) = 62 := fun e => by rw [e] at h2; simp at h2; omega
  simp only [may, dN, List.length_cons, List.length_nil, List.all_cons, List.all_nil, okSign, h1, h2, Bool.and_eq_true, decide_eq_true_eq, Bool.not_eq_true', beq_eq_false_iff_ne, ne_eq]
  refine ⟨⟨by simp, by simp⟩, ⟨⟨by decide, by decide⟩, by decide⟩, ⟨⟨by omega, by omega⟩, e1⟩, ⟨⟨by omega, by omega⟩, e2⟩, trivial⟩
theorem lim_apart {d : Nat} (hd : d ≤ 100) : apart ((List.range d).map fun i => (dN i, (0 : Int))) = true := by
  rw [apart_iff, List.map_map]
  refine List.pairwise_map.2 ((List.nodup_range (n := d)).imp_of_mem ?_)
  intro i j hi hj hne h
  exact hne (dN_inj (by have := List.mem_range.1 hi; omega) (by have := List.mem_range.1 hj; omega) h)
theorem lim_defs (d : Nat) : (wDefs ((List.range d).map fun i => (dN i, (0 : Int)))).length = 3 * d := by
  induction d with
  | zero => simp [wDefs]
  | succ d ih =>
    rw [List.range_succ, List.map_append, wDefs_app, List.length_append, ih]
    simp only [List.map_cons, List.map_nil, wDefs, List.append_nil, wDef_len]
    simp [dN, nw]
    omega
theorem lim_links (l : Nat) : (wLinks (List.replicate l ([], [120], (0 : Int)))).length = 4 * l := by
  induction l with
  | zero => simp [wLinks]
  | succ l ih =>
    rw [List.replicate_succ, wLinks, List.length_append, ih, wLink_len]
    simp [nw]
    omega
theorem lim_len (a b d l : Nat) : (wOb (limOb a b d l)).length = a + b + 3 * d + 4 * l + 5 := by
  rw [wOb_len]
  simp only [limOb, List.length_replicate, lim_defs, lim_links]
theorem lim_may (a b d l : Nat) (hd : d ≤ 100) :
    mayOb (limOb a b d l) = (decide (a ≤ 512) && decide (b ≤ 64) && decide (d ≤ 32) && decide (l ≤ 32) && decide (a + b + 3 * d + 4 * l + 5 ≤ 1024) && (decide (d = 0) || decide (0 < a))) := by
  apply Bool.eq_iff_iff.2
  rw [may_iff]
  simp only [Bool.and_eq_true, Bool.or_eq_true, decide_eq_true_eq]
  constructor
  · intro h
    have h1 := h.nt; have h2 := h.ns; have h3 := h.nd; have h4 := h.nl; have h5 := h.sz
    rw [lim_len] at h5
    simp only [limOb, List.length_replicate, List.length_map, List.length_range] at h1 h2 h3 h4
    refine ⟨⟨⟨⟨⟨h1, h2⟩, h3⟩, h4⟩, h5⟩, ?_⟩
    by_cases h0 : d = 0
    · exact Or.inl h0
    · right
      have := (h.ds (dN 0, 0) (by simp [limOb]; exact ⟨0, by omega, rfl⟩)).2.2
      simpa [limOb] using this
  · rintro ⟨⟨⟨⟨⟨h1, h2⟩, h3⟩, h4⟩, h5⟩, h6⟩
    exact {
      nt := by simpa [limOb] using h1
      ns := by simpa [limOb] using h2
      nd := by simpa [limOb] using h3
      nl := by simpa [limOb] using h4
      wt := fun z hz => by rw [List.eq_of_mem_replicate hz]; omega
      ws := fun z hz => by rw [List.eq_of_mem_replicate hz]; omega
      ds := fun e he => by
        obtain ⟨i, hi, rfl⟩ := List.mem_map.1 he
        have := List.mem_range.1 hi
        refine ⟨dN_may (by omega), by simp, ?_⟩
        simp only [limOb, List.length_replicate]
        omega
      ap := lim_apart hd
      ls := fun e he => by
        rw [List.eq_of_mem_replicate he]
        exact ⟨Or.inl rfl, by decide, by simp, by simp⟩
      sz := by rw [lim_len]; exact h5 }

end Go.Proofs.Ytnlohmkgkihldaa.W
