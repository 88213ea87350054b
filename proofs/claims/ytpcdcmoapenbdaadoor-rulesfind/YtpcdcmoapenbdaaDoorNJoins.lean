/-
  The two Joins: the parts with a stroke ahead of each, or a stroke alone.
-/
import Derived.Test.YtpcdcmoapenbdaaDoorNRow
namespace Go.Proofs.YtpcdcmoapenbdaaDoor.N
open Go.ChangeShapes Go.WideShapes Go.ChangeAt Go.RowKit

theorem retS {x y : ByteArray} (h : x = y) : Ending.returned (.string x) = .returned (.string y) := by rw [h]
theorem bs_app (x y : List UInt8) : bs x ++ bs y = bs (x ++ y) := by
  apply bytes_inj
  rw [bs_data]
  simp [bs]
theorem bs_nil : (⟨#[]⟩ : ByteArray) = bs [] := rfl
theorem bs_stroke : (⟨#[62]⟩ : ByteArray) = bs [62] := rfl

/-- the first k parts, each behind its stroke -/
def flat (qs : List (List UInt8)) : List UInt8 := qs.flatMap (62 :: ·)
theorem flat_step {qs : List (List UInt8)} {k : Nat} (hk : k < qs.length) : flat (qs.take (k + 1)) = flat (qs.take k) ++ [62] ++ qs[k] := by
  rw [List.take_succ_eq_append_getElem hk, flat, flat, List.flatMap_append]
  simp
theorem flat_le (qs : List (List UInt8)) (k : Nat) : (flat (qs.take k)).length ≤ (flat qs).length := by
  have : flat qs = flat (qs.take k) ++ flat (qs.drop k) := by
    rw [flat, flat, flat, ← List.flatMap_append, List.take_append_drop]
  rw [this, List.length_append]
  omega

theorem flat_text {qs : List (List UInt8)} {k : Nat} (hk : k < qs.length) : bs (flat (qs.take k)) ++ ⟨#[62]⟩ ++ bs qs[k] = bs (flat (qs.take (k + 1))) := by
  rw [bs_stroke, bs_app, bs_app, flat_step hk]
theorem flat_room {qs : List (List UInt8)} {k : Nat} (hk : k < qs.length) (hl : (flat qs).length ≤ 1000000000) :
    (¬ 9223372036854775807 < (bs (flat (qs.take k))).size + 1) ∧ ¬ 9223372036854775807 < (bs (flat (qs.take k))).size + 1 + (bs qs[k]).size := by
  have h1 := flat_le qs (k + 1)
  rw [flat_step hk] at h1
  simp only [List.length_append, List.length_cons, List.length_nil] at h1
  rw [bs_size, bs_size]
  omega

theorem map_back (qs : List (List UInt8)) : (qs.map bs).map (·.data.toList) = qs := by
  rw [List.map_map]
  conv => rhs; rw [← List.map_id qs]
  exact List.map_congr_left fun x _ => bs_data x
theorem join_len_le (qs : List (List UInt8)) : (Lib.join qs [62]).length + 1 = (joinOf qs).length := by
  rw [← join_lib, List.length_cons]
theorem joinOf_flat_le (qs : List (List UInt8)) : (joinOf qs).length ≤ (flat qs).length + 1 := by
  unfold joinOf flat
  split
  · simp
  · omega

theorem join_text (qs : List (List UInt8)) : (⟨#[62]⟩ : ByteArray) ++ bs (Lib.join qs [62]) = bs (joinOf qs) := by
  rw [bs_stroke, bs_app, ← join_lib]; rfl

end Go.Proofs.YtpcdcmoapenbdaaDoor.N
