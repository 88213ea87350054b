/-
  Texts as words, as plain numbers: four bytes a word, nine bits a byte; what words read as a text; that reading gives the text back. No program is named here.
-/
import Derived.Test.YtnlohmkgkihldaaMath
import Derived.Test.YtnlohmkgkihldaaNMath
namespace Go.Proofs.Ytnlohmkgkihldaa.W

/-- byte k of a text, 0 behind it -/
def bt (l : List UInt8) (k : Nat) : Nat := (l.getD k 0).toNat
/-- word number j of its bytes -/
def quad (l : List UInt8) (j : Nat) : Nat := ((bt l (4 * j) * 512 + bt l (4 * j + 1)) * 512 + bt l (4 * j + 2)) * 512 + bt l (4 * j + 3)
/-- how many words a text of n bytes has -/
def nw (n : Nat) : Nat := 1 + (n + 3) / 4
def wdN (l : List UInt8) (i : Nat) : Nat := if i = 0 then l.length else quad l (i - 1)
/-- the words of a text -/
def wds (l : List UInt8) : List Int := (List.range (nw l.length)).map fun i => ((wdN l i : Nat) : Int)
/-- .. with its first k bytes put in -/
def prt (l : List UInt8) (k : Nat) : List Int := (List.range (nw l.length)).map fun i => ((if i = 0 then l.length else quad (l.take k) (i - 1) : Nat) : Int)
/-- the bits below byte k of its word -/
def bel (k : Nat) : Nat := 27 - 9 * (k % 4)

theorem bt_lt (l : List UInt8) (k : Nat) : bt l k < 256 := (l.getD k 0).toNat_lt
theorem bt_out {l : List UInt8} {k : Nat} (h : l.length ≤ k) : bt l k = 0 := by simp [bt, List.getD, List.getElem?_eq_none h]
theorem bt_in {l : List UInt8} {k : Nat} (h : k < l.length) : bt l k = l[k].toNat := by simp [bt, List.getD, List.getElem?_eq_getElem h]
theorem bt_take (l : List UInt8) (k i : Nat) : bt (l.take k) i = if i < k then bt l i else 0 := by
  unfold bt
  split
  · rename_i h; simp [List.getD, List.getElem?_take_of_lt h]
  · rename_i h; simp [List.getD, List.getElem?_take, h]
theorem quad_lt (l : List UInt8) (j : Nat) : quad l j < 68719476736 := by
  have := bt_lt l (4 * j); have := bt_lt l (4 * j + 1); have := bt_lt l (4 * j + 2); have := bt_lt l (4 * j + 3)
  unfold quad; omega
theorem nw_pos (n : Nat) : 0 < nw n := by unfold nw; omega
theorem nw_le {n : Nat} (h : n ≤ 255) : nw n ≤ 65 := by unfold nw; omega
theorem wds_len (l : List UInt8) : (wds l).length = nw l.length := by simp [wds]
theorem prt_len (l : List UInt8) (k : Nat) : (prt l k).length = nw l.length := by simp [prt]
theorem wds_at {l : List UInt8} {i : Nat} (h : i < nw l.length) : (wds l).getD i 0 = ((wdN l i : Nat) : Int) := by simp [wds, List.getD, h]
theorem prt_at {l : List UInt8} {k i : Nat} (h : i < nw l.length) : (prt l k).getD i 0 = ((if i = 0 then l.length else quad (l.take k) (i - 1) : Nat) : Int) := by simp [prt, List.getD, h]
theorem prt_all (l : List UInt8) : prt l l.length = wds l := by simp [prt, wds, wdN]
theorem wdN_lt {l : List UInt8} (h : l.length ≤ 255) (i : Nat) : wdN l i < 68719476736 := by
  unfold wdN
  split
  · omega
  · exact quad_lt _ _
theorem wds_bd {l : List UInt8} (h : l.length ≤ 255) : ∀ x ∈ wds l, 0 ≤ x ∧ x < 68719476736 := by
  intro x hx
  simp only [wds, List.mem_map, List.mem_range] at hx
  obtain ⟨i, _, rfl⟩ := hx
  have := wdN_lt h i
  omega
theorem prt_none (l : List UInt8) : prt l 0 = (List.replicate (nw l.length) 0).set 0 (l.length : Int) := by
  apply List.ext_getElem?
  intro i
  by_cases hi : i < nw l.length
  · by_cases h0 : i = 0
    · subst h0; simp [prt, hi]
    · have q0 : quad (l.take 0) (i - 1) = 0 := by simp [quad, bt]
      rw [List.getElem?_set_ne (Ne.symm h0)]
      simp only [prt, List.getElem?_map, List.getElem?_range hi, Option.map_some, if_neg h0, q0, List.getElem?_replicate, if_pos hi]
      rfl
  · simp [prt, hi]

theorem or_add (x b s : Nat) (hs : s ≤ 27) (hx : x < 68719476736) (hb : b < 512) (hd : x % 2 ^ (s + 9) = 0) : bits .or .u64 (x : Int) (IntKind.u64.wrap ((b : Int) * 2 ^ s)) = ((x + b * 2 ^ s : Nat) : Int) := by
  have h1 : b * 2 ^ s < 2 ^ (s + 9) := by
    rw [Nat.pow_add, Nat.mul_comm]
    exact Nat.mul_lt_mul_of_pos_left (by omega) (Nat.two_pow_pos s)
  have h2 : (2 : Nat) ^ (s + 9) ≤ 2 ^ 36 := Nat.pow_le_pow_right (by omega) (by omega)
  rw [shl_wrap, Nat.mod_eq_of_lt (by omega), bits_or_u64_nat _ _ (by omega) (by omega)]
  congr 1
  have e : x = 2 ^ (s + 9) * (x / 2 ^ (s + 9)) := by
    have := Nat.div_add_mod x (2 ^ (s + 9))
    omega
  rw [e, ← Nat.two_pow_add_eq_or_of_lt h1]

/-- a byte more in its word -/
theorem quad_step {l : List UInt8} {k : Nat} (hk : k < l.length) : quad (l.take (k + 1)) (k / 4) = quad (l.take k) (k / 4) + bt l k * 2 ^ bel k ∧ quad (l.take k) (k / 4) % 2 ^ (bel k + 9) = 0 := by
  have e := Nat.div_add_mod k 4
  have h4 := Nat.mod_lt k (show 4 > 0 by omega)
  generalize k / 4 = j at *
  generalize hr : k % 4 = r at *
  subst e
  unfold quad bel
  simp only [bt_take, hr]
  obtain rfl | rfl | rfl | rfl : r = 0 ∨ r = 1 ∨ r = 2 ∨ r = 3 := by omega
  all_goals
    simp (disch := omega) only [if_pos, if_neg]
    constructor
    · simp; try omega
    · simp; try omega
theorem quad_other {l : List UInt8} {k j : Nat} (hj : j ≠ k / 4) : quad (l.take (k + 1)) j = quad (l.take k) j := by
  have h : ∀ r, r < 4 → bt (l.take (k + 1)) (4 * j + r) = bt (l.take k) (4 * j + r) := by
    intro r hr
    rw [bt_take, bt_take]
    by_cases h1 : 4 * j + r < k
    · rw [if_pos h1, if_pos (by omega)]
    · rw [if_neg h1, if_neg (by omega)]
  have h0 : bt (l.take (k + 1)) (4 * j) = bt (l.take k) (4 * j) := h 0 (by omega)
  unfold quad
  rw [h0, h 1 (by omega), h 2 (by omega), h 3 (by omega)]
theorem prt_step {l : List UInt8} {k : Nat} (hk : k < l.length) :
    (prt l k).set (1 + k / 4) (bits .or .u64 ((prt l k).getD (1 + k / 4) 0) (IntKind.u64.wrap ((bt l k : Int) * 2 ^ bel k))) = prt l (k + 1) := by
  have hi : 1 + k / 4 < nw l.length := by unfold nw; omega
  obtain ⟨h1, h2⟩ := quad_step hk
  have hb := bt_lt l k
  rw [prt_at hi, if_neg (by omega), show 1 + k / 4 - 1 = k / 4 by omega, or_add _ _ _ (by unfold bel; omega) (quad_lt _ _) (by omega) h2, ← h1]
  apply List.ext_getElem?
  intro i
  by_cases hil : i < nw l.length
  · by_cases he : i = 1 + k / 4
    · subst he
      simp [prt, hil, show 1 + k / 4 - 1 = k / 4 by omega]
    · rw [List.getElem?_set_ne (Ne.symm he)]
      by_cases h0 : i = 0
      · subst h0; simp [prt, hil]
      · simp [prt, hil, h0, quad_other (show i - 1 ≠ k / 4 by omega)]
  · simp [prt, hil]

/-- the first k of four bytes, as the document puts them together -/
def hor (l : List UInt8) (i : Nat) : Nat → Nat
  | 0 => 0
  | k + 1 => hor l i k * 512 + bt l (i + k)
theorem hor_lt (l : List UInt8) (i : Nat) : ∀ k, k ≤ 4 → hor l i k < 68719476736 := by
  have h0 := bt_lt l (i + 0); have h1 := bt_lt l (i + 1); have h2 := bt_lt l (i + 2); have h3 := bt_lt l (i + 3)
  intro k hk
  obtain rfl | rfl | rfl | rfl | rfl : k = 0 ∨ k = 1 ∨ k = 2 ∨ k = 3 ∨ k = 4 := by omega
  all_goals simp only [hor]; omega
theorem hor_quad (l : List UInt8) (j : Nat) : hor l (4 * j) 4 = quad l j := by simp [hor, quad]
/-- the words of the first j fours -/
def fst (l : List UInt8) (j : Nat) : List Int := (l.length : Int) :: (List.range j).map fun i => ((quad l i : Nat) : Int)
theorem fst_step (l : List UInt8) (j : Nat) : fst l j ++ [((quad l j : Nat) : Int)] = fst l (j + 1) := by simp [fst, List.range_succ]
theorem fst_all (l : List UInt8) : fst l ((l.length + 3) / 4) = wds l := by
  have e : nw l.length = (l.length + 3) / 4 + 1 := by unfold nw; omega
  rw [wds, e, List.range_succ_eq_map]
  simp [fst, wdN, Function.comp_def]
theorem fst_len (l : List UInt8) (j : Nat) : (fst l j).length = j + 1 := by simp [fst]

/-- what stands at byte i's place -/
def vl (zs : List Int) (i : Nat) : Nat := (zs.getD (1 + i / 4) 0).toNat / 2 ^ bel i % 512
/-- the number of bytes that words say -/
def rl (zs : List Int) : Nat := (zs.getD 0 0).toNat % 68719476736
/-- noughts behind the last byte -/
def Clear (zs : List Int) (n : Nat) : Prop := ∀ i, n ≤ i → i < 4 * ((n + 3) / 4) → vl zs i = 0
/-- words that begin with a text -/
def Good (zs : List Int) : Prop := 0 < zs.length ∧ rl zs ≤ 255 ∧ nw (rl zs) ≤ zs.length ∧ Clear zs (rl zs) ∧ ∀ i, i < rl zs → vl zs i ≤ 255
/-- the text -/
def txt (zs : List Int) : List UInt8 := (List.range (rl zs)).map fun i => UInt8.ofNat (vl zs i)

theorem vl_lt (zs : List Int) (i : Nat) : vl zs i < 512 := Nat.mod_lt _ (by omega)
theorem txt_len (zs : List Int) : (txt zs).length = rl zs := by simp [txt]
theorem txt_bt {zs : List Int} (h : Good zs) {i : Nat} (hi : i < 4 * ((rl zs + 3) / 4)) : bt (txt zs) i = vl zs i := by
  by_cases hl : i < rl zs
  · rw [bt_in (by rw [txt_len]; exact hl)]
    have := h.2.2.2.2 i hl
    simp [txt]
    omega
  · rw [bt_out (by rw [txt_len]; omega), h.2.2.2.1 i (by omega) hi]

theorem vl_quad {zs : List Int} {l : List UInt8} {j : Nat} (h : ∀ r, r < 4 → bt l (4 * j + r) = vl zs (4 * j + r)) : quad l j = (zs.getD (1 + j) 0).toNat % 68719476736 := by
  have h0 := h 0 (by omega); have h1 := h 1 (by omega); have h2 := h 2 (by omega); have h3 := h 3 (by omega)
  rw [Nat.add_zero] at h0
  unfold vl bel at h0 h1 h2 h3
  rw [show 4 * j / 4 = j by omega, show 4 * j % 4 = 0 by omega] at h0
  rw [show (4 * j + 1) / 4 = j by omega, show (4 * j + 1) % 4 = 1 by omega] at h1
  rw [show (4 * j + 2) / 4 = j by omega, show (4 * j + 2) % 4 = 2 by omega] at h2
  rw [show (4 * j + 3) / 4 = j by omega, show (4 * j + 3) % 4 = 3 by omega] at h3
  generalize (zs.getD (1 + j) 0).toNat = x at *
  simp at h0 h1 h2 h3
  unfold quad
  omega

/-- what was read, put into words again, is what stands there, each word's lowest 36 bits -/
theorem read_words {zs : List Int} (h : Good zs) {i : Nat} (hi : i < nw (rl zs)) : wdN (txt zs) i = (zs.getD i 0).toNat % 68719476736 := by
  unfold wdN
  split
  · rename_i h0; subst h0; rw [txt_len]; rfl
  · rename_i h0
    rw [vl_quad (zs := zs) (j := i - 1) (fun r hr => txt_bt h (by unfold nw at hi; omega)), show 1 + (i - 1) = i by omega]

section
variable {l : List UInt8} {more : List Int}
theorem pre_at {i : Nat} (hi : i < nw l.length) : (wds l ++ more).getD i 0 = ((wdN l i : Nat) : Int) := by
  rw [← wds_at hi, List.getD, List.getD, List.getElem?_append_left (by rw [wds_len]; exact hi)]
theorem pre_rl (h : l.length ≤ 255) : rl (wds l ++ more) = l.length := by
  unfold rl
  rw [pre_at (nw_pos _)]
  simp [wdN]
  omega
theorem pre_vl {i : Nat} (hi : i < 4 * ((l.length + 3) / 4)) : vl (wds l ++ more) i = bt l i := by
  have hn : 1 + i / 4 < nw l.length := by unfold nw; omega
  unfold vl
  rw [pre_at hn]
  simp only [wdN, Int.toNat_natCast]
  rw [if_neg (by omega), show 1 + i / 4 - 1 = i / 4 by omega]
  have e := Nat.div_add_mod i 4
  have h4 := Nat.mod_lt i (show 4 > 0 by omega)
  unfold quad bel
  have b0 := bt_lt l (4 * (i / 4)); have b1 := bt_lt l (4 * (i / 4) + 1); have b2 := bt_lt l (4 * (i / 4) + 2); have b3 := bt_lt l (4 * (i / 4) + 3)
  obtain hr | hr | hr | hr : i % 4 = 0 ∨ i % 4 = 1 ∨ i % 4 = 2 ∨ i % 4 = 3 := by omega
  · rw [hr] at e ⊢
    rw [show bt l i = bt l (4 * (i / 4)) from congrArg _ (by omega)]
    simp; omega
  · rw [hr] at e ⊢
    rw [show bt l i = bt l (4 * (i / 4) + 1) from congrArg _ (by omega)]
    simp; omega
  · rw [hr] at e ⊢
    rw [show bt l i = bt l (4 * (i / 4) + 2) from congrArg _ (by omega)]
    simp; omega
  · rw [hr] at e ⊢
    rw [show bt l i = bt l (4 * (i / 4) + 3) from congrArg _ (by omega)]
    simp; omega
theorem pre_good (h : l.length ≤ 255) : Good (wds l ++ more) := by
  have hr := pre_rl (more := more) h
  have hl : nw l.length ≤ (wds l ++ more).length := by rw [List.length_append, wds_len]; omega
  refine ⟨Nat.lt_of_lt_of_le (nw_pos _) hl, by omega, by rw [hr]; exact hl, ?_, ?_⟩
  · rw [hr]
    intro i h1 h2
    rw [pre_vl h2, bt_out h1]
  · rw [hr]
    intro i hi
    rw [pre_vl (by omega)]
    have := bt_lt l i
    omega
theorem pre_txt (h : l.length ≤ 255) : txt (wds l ++ more) = l := by
  unfold txt
  rw [pre_rl h]
  apply List.ext_getElem?
  intro i
  by_cases hi : i < l.length
  · simp [hi]
    rw [pre_vl (by omega), bt_in hi]
    simp
  · simp [hi]
end
theorem wds_inj {a b : List UInt8} (ha : a.length ≤ 255) (hb : b.length ≤ 255) (h : wds a = wds b) : a = b := by
  have e1 := pre_txt (more := []) ha
  have e2 := pre_txt (more := []) hb
  rw [h] at e1
  exact e1.symm.trans e2

end Go.Proofs.Ytnlohmkgkihldaa.W
