/-
  Plain facts about rings and brackets: which brackets may be, who may do what, where a call comes to. No program is named here.
-/
import Derived.IntWalk
namespace Go.Proofs.YtpcdcmoapenbdaaDoor.W

/-- does a number lie between two? -/
def inr (n a b : Int) : Bool := decide (a ≤ n) && decide (n ≤ b)
theorem inr_yes {n a b : Int} (h : inr n a b = true) : a ≤ n ∧ n ≤ b := by
  unfold inr at h
  rw [Bool.and_eq_true, decide_eq_true_iff, decide_eq_true_iff] at h
  exact h
theorem inr_no {n a b : Int} (h : inr n a b = false) : n < a ∨ b < n := by
  unfold inr at h
  rw [Bool.and_eq_false_iff, decide_eq_false_iff_not, decide_eq_false_iff_not] at h
  omega
theorem inr_mk {n a b : Int} (h0 : a ≤ n) (h1 : n ≤ b) : inr n a b = true := by
  unfold inr
  rw [Bool.and_eq_true, decide_eq_true_iff, decide_eq_true_iff]
  exact ⟨h0, h1⟩
theorem inr_mkno {n a b : Int} (h : n < a ∨ b < n) : inr n a b = false := by
  cases c : inr n a b with
  | false => rfl
  | true => have := inr_yes c; omega

/-- may such brackets be? -/
def bmay (r1 r2 r3 g : Int) : Bool := decide (0 ≤ r1) && (decide (r1 ≤ r2) && (decide (r2 ≤ r3) && (decide (r3 ≤ 7) && inr g 0 1024)))
theorem bmay_yes {r1 r2 r3 g : Int} (h : bmay r1 r2 r3 g = true) : 0 ≤ r1 ∧ r1 ≤ r2 ∧ r2 ≤ r3 ∧ r3 ≤ 7 ∧ 0 ≤ g ∧ g ≤ 1024 := by
  unfold bmay at h
  rw [Bool.and_eq_true, Bool.and_eq_true, Bool.and_eq_true, Bool.and_eq_true, decide_eq_true_iff, decide_eq_true_iff, decide_eq_true_iff, decide_eq_true_iff] at h
  obtain ⟨h1, h2, h3, h4, h5⟩ := h
  exact ⟨h1, h2, h3, h4, inr_yes h5⟩
theorem bmay_mk {r1 r2 r3 g : Int} (h1 : 0 ≤ r1) (h2 : r1 ≤ r2) (h3 : r2 ≤ r3) (h4 : r3 ≤ 7) (h5 : 0 ≤ g) (h6 : g ≤ 1024) : bmay r1 r2 r3 g = true := by
  unfold bmay
  rw [decide_eq_true h1, decide_eq_true h2, decide_eq_true h3, decide_eq_true h4, inr_mk h5 h6]
  rfl
theorem bmay_no {r1 r2 r3 g : Int} (h : bmay r1 r2 r3 g = false) : r1 < 0 ∨ r2 < r1 ∨ r3 < r2 ∨ 7 < r3 ∨ g < 0 ∨ 1024 < g := by
  by_cases c : 0 ≤ r1 ∧ r1 ≤ r2 ∧ r2 ≤ r3 ∧ r3 ≤ 7 ∧ 0 ≤ g ∧ g ≤ 1024
  · obtain ⟨h1, h2, h3, h4, h5, h6⟩ := c
    rw [bmay_mk h1 h2 h3 h4 h5 h6] at h
    cases h
  · omega
theorem bmay_mkno {r1 r2 r3 g : Int} (h : r1 < 0 ∨ r2 < r1 ∨ r3 < r2 ∨ 7 < r3 ∨ g < 0 ∨ 1024 < g) : bmay r1 r2 r3 g = false := by
  cases c : bmay r1 r2 r3 g with
  | false => rfl
  | true => have := bmay_yes c; omega

/-- what an access answers: may the brackets be, the flag, the ring, the ends -/
def acc (m fl : Bool) (r a b : Int) : Int := if inr r 0 7 = false ∨ m = false then 1 else if fl = false then 9 else if inr r a b = false then 10 else 0
theorem acc_arg1 {m fl : Bool} {r a b : Int} (h : inr r 0 7 = false) : acc m fl r a b = 1 := by unfold acc; rw [if_pos (.inl h)]
theorem acc_arg2 {m fl : Bool} {r a b : Int} (h : m = false) : acc m fl r a b = 1 := by unfold acc; rw [if_pos (.inr h)]
theorem acc_mode {m fl : Bool} {r a b : Int} (h : inr r 0 7 = true) (hm : m = true) (hf : fl = false) : acc m fl r a b = 9 := by
  unfold acc; rw [if_neg (by simp [h, hm]), if_pos hf]
theorem acc_ring {m fl : Bool} {r a b : Int} (h : inr r 0 7 = true) (hm : m = true) (hf : fl = true) (hr : inr r a b = false) : acc m fl r a b = 10 := by
  unfold acc; rw [if_neg (by simp [h, hm]), if_neg (by simp [hf]), if_pos hr]
theorem acc_ok {m fl : Bool} {r a b : Int} (h : inr r 0 7 = true) (hm : m = true) (hf : fl = true) (hr : inr r a b = true) : acc m fl r a b = 0 := by
  unfold acc; rw [if_neg (by simp [h, hm]), if_neg (by simp [hf]), if_neg (by simp [hr])]
theorem acc_cases (m fl : Bool) (r a b : Int) :
    ((inr r 0 7 = false ∨ m = false) ∧ acc m fl r a b = 1) ∨ (inr r 0 7 = true ∧ m = true ∧ fl = false ∧ acc m fl r a b = 9) ∨
    (inr r 0 7 = true ∧ m = true ∧ fl = true ∧ inr r a b = false ∧ acc m fl r a b = 10) ∨ (inr r 0 7 = true ∧ m = true ∧ fl = true ∧ inr r a b = true ∧ acc m fl r a b = 0) := by
  cases h : inr r 0 7 with
  | false => exact .inl ⟨.inl rfl, acc_arg1 h⟩
  | true =>
    cases m with
    | false => exact .inl ⟨.inr rfl, acc_arg2 rfl⟩
    | true =>
      cases fl with
      | false => exact .inr (.inl ⟨rfl, rfl, rfl, acc_mode h rfl rfl⟩)
      | true =>
        cases hr : inr r a b with
        | false => exact .inr (.inr (.inl ⟨rfl, rfl, rfl, rfl, acc_ring h rfl rfl hr⟩))
        | true => exact .inr (.inr (.inr ⟨rfl, rfl, rfl, rfl, acc_ok h rfl rfl hr⟩))
/-- an access is permitted just if all holds -/
theorem acc_zero (m fl : Bool) (r a b : Int) : (acc m fl r a b == 0) = (inr r 0 7 && (m && (fl && inr r a b))) := by
  rcases acc_cases m fl r a b with ⟨h | h, e⟩ | ⟨h1, h2, h3, e⟩ | ⟨h1, h2, h3, h4, e⟩ | ⟨h1, h2, h3, h4, e⟩
  · rw [e, h]; rfl
  · rw [e, h]; cases inr r 0 7 <;> rfl
  · rw [e, h1, h2, h3]; rfl
  · rw [e, h1, h2, h3, h4]; rfl
  · rw [e, h1, h2, h3, h4]; rfl
theorem acc_nz (m fl : Bool) (r a b : Int) : (acc m fl r a b != 0) = !(inr r 0 7 && (m && (fl && inr r a b))) := by
  rw [bne, acc_zero]

/-- where a call comes to, and why not -/
def cto (m fl : Bool) (r r1 r2 r3 g off : Int) : Int := if (acc m fl r r1 r3 == 0) = false then 0 else if r ≤ r2 then r else if inr off 0 (g - 1) = true then r2 else 0
def cer (m fl : Bool) (r r1 r2 r3 g off : Int) : Int := if (acc m fl r r1 r3 == 0) = false then acc m fl r r1 r3 else if r ≤ r2 then 0 else if inr off 0 (g - 1) = true then 0 else 11

theorem call_no {m fl : Bool} {r r1 r2 r3 g off : Int} (h : (acc m fl r r1 r3 == 0) = false) : cto m fl r r1 r2 r3 g off = 0 ∧ cer m fl r r1 r2 r3 g off = acc m fl r r1 r3 := by
  unfold cto cer; rw [if_pos h, if_pos h]; exact ⟨rfl, rfl⟩
theorem call_in {m fl : Bool} {r r1 r2 r3 g off : Int} (h : (acc m fl r r1 r3 == 0) = true) (h2 : r ≤ r2) : cto m fl r r1 r2 r3 g off = r ∧ cer m fl r r1 r2 r3 g off = 0 := by
  unfold cto cer; rw [if_neg (by simp [h]), if_pos h2, if_neg (by simp [h]), if_pos h2]; exact ⟨rfl, rfl⟩
theorem call_gate {m fl : Bool} {r r1 r2 r3 g off : Int} (h : (acc m fl r r1 r3 == 0) = true) (h2 : ¬ r ≤ r2) (h3 : inr off 0 (g - 1) = true) : cto m fl r r1 r2 r3 g off = r2 ∧ cer m fl r r1 r2 r3 g off = 0 := by
  unfold cto cer; rw [if_neg (by simp [h]), if_neg h2, if_pos h3, if_neg (by simp [h]), if_neg h2, if_pos h3]; exact ⟨rfl, rfl⟩
theorem call_wall {m fl : Bool} {r r1 r2 r3 g off : Int} (h : (acc m fl r r1 r3 == 0) = true) (h2 : ¬ r ≤ r2) (h3 : inr off 0 (g - 1) = false) : cto m fl r r1 r2 r3 g off = 0 ∧ cer m fl r r1 r2 r3 g off = 11 := by
  unfold cto cer; rw [if_neg (by simp [h]), if_neg h2, if_neg (by simp [h3]), if_neg (by simp [h]), if_neg h2, if_neg (by simp [h3])]; exact ⟨rfl, rfl⟩

/-- where a return comes to -/
def rtv (now to : Int) : Int := max (min (max now 0) 7) (min (max to 0) 7)

end Go.Proofs.YtpcdcmoapenbdaaDoor.W
