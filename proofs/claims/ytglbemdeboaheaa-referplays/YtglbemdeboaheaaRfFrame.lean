/-
  The frame of ReferPlays as a function of its slots; pieces of its code, taken out of the program by their place; a loop and a cut whose frames are told by a few slots alone.
-/
import Derived.Test.YtglbemdeboaheaaRfPlayMem
import Derived.Deep.Cut
namespace Go.Proofs.Ytglbemdeboaheaa.Rf
open Go.ChangeShapes Go.WideShapes Go.ChangeAt Go.RowKit

theorem frame_list (l : List Value) : l = (List.range l.length).map (fun i => l.getD i undef) := by
  apply List.ext_getElem
  · simp
  · intro i h1 h2
    simp [h1]
theorem frame_lit (g : Nat → Value) : (List.range 349).map g = [g 0, g 1, g 2, g 3, g 4, g 5, g 6, g 7, g 8, g 9, g 10, g 11, g 12, g 13, g 14, g 15, g 16, g 17, g 18, g 19, g 20, g 21, g 22, g 23, g 24, g 25, g 26, g 27, g 28, g 29, g 30, g 31, g 32, g 33, g 34, g 35, g 36, g 37, g 38, g 39, g 40, g 41, g 42, g 43, g 44, g 45, g 46, g 47, g 48, g 49, g 50, g 51, g 52, g 53, g 54, g 55, g 56, g 57, g 58, g 59, g 60, g 61, g 62, g 63, g 64, g 65, g 66, g 67, g 68, g 69, g 70, g 71, g 72, g 73, g 74, g 75, g 76, g 77, g 78, g 79, g 80, g 81, g 82, g 83, g 84, g 85, g 86, g 87, g 88, g 89, g 90, g 91, g 92, g 93, g 94, g 95, g 96, g 97, g 98, g 99, g 100, g 101, g 102, g 103, g 104, g 105, g 106, g 107, g 108, g 109, g 110, g 111, g 112, g 113, g 114, g 115, g 116, g 117, g 118, g 119, g 120, g 121, g 122, g 123, g 124, g 125, g 126, g 127, g 128, g 129, g 130, g 131, g 132, g 133, g 134, g 135, g 136, g 137, g 138, g 139, g 140, g 141, g 142, g 143, g 144, g 145, g 146, g 147, g 148, g 149, g 150, g 151, g 152, g 153, g 154, g 155, g 156, g 157, g 158, g 159, g 160, g 161, g 162, g 163, g 164, g 165, g 166, g 167, g 168, g 169, g 170, g 171, g 172, g 173, g 174, g 175, g 176, g 177, g 178, g 179, g 180, g 181, g 182, g 183, g 184, g 185, g 186, g 187, g 188, g 189, g 190, g 191, g 192, g 193, g 194, g 195, g 196, g 197, g 198, g 199, g 200, g 201, g 202, g 203, g 204, g 205, g 206, g 207, g 208, g 209, g 210, g 211, g 212, g 213, g 214, g 215, g 216, g 217, g 218, g 219, g 220, g 221, g 222, g 223, g 224, g 225, g 226, g 227, g 228, g 229, g 230, g 231, g 232, g 233, g 234, g 235, g 236, g 237, g 238, g 239, g 240, g 241, g 242, g 243, g 244, g 245, g 246, g 247, g 248, g 249, g 250, g 251, g 252, g 253, g 254, g 255, g 256, g 257, g 258, g 259, g 260, g 261, g 262, g 263, g 264, g 265, g 266, g 267, g 268, g 269, g 270, g 271, g 272, g 273, g 274, g 275, g 276, g 277, g 278, g 279, g 280, g 281, g 282, g 283, g 284, g 285, g 286, g 287, g 288, g 289, g 290, g 291, g 292, g 293, g 294, g 295, g 296, g 297, g 298, g 299, g 300, g 301, g 302, g 303, g 304, g 305, g 306, g 307, g 308, g 309, g 310, g 311, g 312, g 313, g 314, g 315, g 316, g 317, g 318, g 319, g 320, g 321, g 322, g 323, g 324, g 325, g 326, g 327, g 328, g 329, g 330, g 331, g 332, g 333, g 334, g 335, g 336, g 337, g 338, g 339, g 340, g 341, g 342, g 343, g 344, g 345, g 346, g 347, g 348] := by kernel_rfl

/-- a frame of so many slots, none to be done at the end -/
structure Fr (a : Act) : Prop where
  size : a.tmps.size = 349
  defers : a.defers = []
def slot (a : Act) (i : Nat) : Value := a.tmps.toList.getD i undef
set_option maxRecDepth 1000000 in
theorem Fr.open {a : Act} (h : Fr a) : a = ⟨#[slot a 0, slot a 1, slot a 2, slot a 3, slot a 4, slot a 5, slot a 6, slot a 7, slot a 8, slot a 9, slot a 10, slot a 11, slot a 12, slot a 13, slot a 14, slot a 15, slot a 16, slot a 17, slot a 18, slot a 19, slot a 20, slot a 21, slot a 22, slot a 23, slot a 24, slot a 25, slot a 26, slot a 27, slot a 28, slot a 29, slot a 30, slot a 31, slot a 32, slot a 33, slot a 34, slot a 35, slot a 36, slot a 37, slot a 38, slot a 39, slot a 40, slot a 41, slot a 42, slot a 43, slot a 44, slot a 45, slot a 46, slot a 47, slot a 48, slot a 49, slot a 50, slot a 51, slot a 52, slot a 53, slot a 54, slot a 55, slot a 56, slot a 57, slot a 58, slot a 59, slot a 60, slot a 61, slot a 62, slot a 63, slot a 64, slot a 65, slot a 66, slot a 67, slot a 68, slot a 69, slot a 70, slot a 71, slot a 72, slot a 73, slot a 74, slot a 75, slot a 76, slot a 77, slot a 78, slot a 79, slot a 80, slot a 81, slot a 82, slot a 83, slot a 84, slot a 85, slot a 86, slot a 87, slot a 88, slot a 89, slot a 90, slot a 91, slot a 92, slot a 93, slot a 94, slot a 95, slot a 96, slot a 97, slot a 98, slot a 99, slot a 100, slot a 101, slot a 102, slot a 103, slot a 104, slot a 105, slot a 106, slot a 107, slot a 108, slot a 109, slot a 110, slot a 111, slot a 112, slot a 113, slot a 114, slot a 115, slot a 116, slot a 117, slot a 118, slot a 119, slot a 120, slot a 121, slot a 122, slot a 123, slot a 124, slot a 125, slot a 126, slot a 127, slot a 128, slot a 129, slot a 130, slot a 131, slot a 132, slot a 133, slot a 134, slot a 135, slot a 136, slot a 137, slot a 138, slot a 139, slot a 140, slot a 141, slot a 142, slot a 143, slot a 144, slot a 145, slot a 146, slot a 147, slot a 148, slot a 149, slot a 150, slot a 151, slot a 152, slot a 153, slot a 154, slot a 155, slot a 156, slot a 157, slot a 158, slot a 159, slot a 160, slot a 161, slot a 162, slot a 163, slot a 164, slot a 165, slot a 166, slot a 167, slot a 168, slot a 169, slot a 170, slot a 171, slot a 172, slot a 173, slot a 174, slot a 175, slot a 176, slot a 177, slot a 178, slot a 179, slot a 180, slot a 181, slot a 182, slot a 183, slot a 184, slot a 185, slot a 186, slot a 187, slot a 188, slot a 189, slot a 190, slot a 191, slot a 192, slot a 193, slot a 194, slot a 195, slot a 196, slot a 197, slot a 198, slot a 199, slot a 200, slot a 201, slot a 202, slot a 203, slot a 204, slot a 205, slot a 206, slot a 207, slot a 208, slot a 209, slot a 210, slot a 211, slot a 212, slot a 213, slot a 214, slot a 215, slot a 216, slot a 217, slot a 218, slot a 219, slot a 220, slot a 221, slot a 222, slot a 223, slot a 224, slot a 225, slot a 226, slot a 227, slot a 228, slot a 229, slot a 230, slot a 231, slot a 232, slot a 233, slot a 234, slot a 235, slot a 236, slot a 237, slot a 238, slot a 239, slot a 240, slot a 241, slot a 242, slot a 243, slot a 244, slot a 245, slot a 246, slot a 247, slot a 248, slot a 249, slot a 250, slot a 251, slot a 252, slot a 253, slot a 254, slot a 255, slot a 256, slot a 257, slot a 258, slot a 259, slot a 260, slot a 261, slot a 262, slot a 263, slot a 264, slot a 265, slot a 266, slot a 267, slot a 268, slot a 269, slot a 270, slot a 271, slot a 272, slot a 273, slot a 274, slot a 275, slot a 276, slot a 277, slot a 278, slot a 279, slot a 280, slot a 281, slot a 282, slot a 283, slot a 284, slot a 285, slot a 286, slot a 287, slot a 288, slot a 289, slot a 290, slot a 291, slot a 292, slot a 293, slot a 294, slot a 295, slot a 296, slot a 297, slot a 298, slot a 299, slot a 300, slot a 301, slot a 302, slot a 303, slot a 304, slot a 305, slot a 306, slot a 307, slot a 308, slot a 309, slot a 310, slot a 311, slot a 312, slot a 313, slot a 314, slot a 315, slot a 316, slot a 317, slot a 318, slot a 319, slot a 320, slot a 321, slot a 322, slot a 323, slot a 324, slot a 325, slot a 326, slot a 327, slot a 328, slot a 329, slot a 330, slot a 331, slot a 332, slot a 333, slot a 334, slot a 335, slot a 336, slot a 337, slot a 338, slot a 339, slot a 340, slot a 341, slot a 342, slot a 343, slot a 344, slot a 345, slot a 346, slot a 347, slot a 348], []⟩ := by
  obtain ⟨⟨l⟩, d⟩ := a
  have h1 : l.length = 349 := h.size
  have h2 : d = [] := h.defers
  subst h2
  have := frame_list l
  rw [h1] at this
  have h3 := frame_lit (fun i => l.getD i undef)
  rw [← this] at h3
  rw [h3]
  rfl

theorem Fr.opens {a : Act} (h : Fr a) : ∃ g : Nat → Value, (∀ i, g i = slot a i) ∧ a = ⟨#[g 0, g 1, g 2, g 3, g 4, g 5, g 6, g 7, g 8, g 9, g 10, g 11, g 12, g 13, g 14, g 15, g 16, g 17, g 18, g 19, g 20, g 21, g 22, g 23, g 24, g 25, g 26, g 27, g 28, g 29, g 30, g 31, g 32, g 33, g 34, g 35, g 36, g 37, g 38, g 39, g 40, g 41, g 42, g 43, g 44, g 45, g 46, g 47, g 48, g 49, g 50, g 51, g 52, g 53, g 54, g 55, g 56, g 57, g 58, g 59, g 60, g 61, g 62, g 63, g 64, g 65, g 66, g 67, g 68, g 69, g 70, g 71, g 72, g 73, g 74, g 75, g 76, g 77, g 78, g 79, g 80, g 81, g 82, g 83, g 84, g 85, g 86, g 87, g 88, g 89, g 90, g 91, g 92, g 93, g 94, g 95, g 96, g 97, g 98, g 99, g 100, g 101, g 102, g 103, g 104, g 105, g 106, g 107, g 108, g 109, g 110, g 111, g 112, g 113, g 114, g 115, g 116, g 117, g 118, g 119, g 120, g 121, g 122, g 123, g 124, g 125, g 126, g 127, g 128, g 129, g 130, g 131, g 132, g 133, g 134, g 135, g 136, g 137, g 138, g 139, g 140, g 141, g 142, g 143, g 144, g 145, g 146, g 147, g 148, g 149, g 150, g 151, g 152, g 153, g 154, g 155, g 156, g 157, g 158, g 159, g 160, g 161, g 162, g 163, g 164, g 165, g 166, g 167, g 168, g 169, g 170, g 171, g 172, g 173, g 174, g 175, g 176, g 177, g 178, g 179, g 180, g 181, g 182, g 183, g 184, g 185, g 186, g 187, g 188, g 189, g 190, g 191, g 192, g 193, g 194, g 195, g 196, g 197, g 198, g 199, g 200, g 201, g 202, g 203, g 204, g 205, g 206, g 207, g 208, g 209, g 210, g 211, g 212, g 213, g 214, g 215, g 216, g 217, g 218, g 219, g 220, g 221, g 222, g 223, g 224, g 225, g 226, g 227, g 228, g 229, g 230, g 231, g 232, g 233, g 234, g 235, g 236, g 237, g 238, g 239, g 240, g 241, g 242, g 243, g 244, g 245, g 246, g 247, g 248, g 249, g 250, g 251, g 252, g 253, g 254, g 255, g 256, g 257, g 258, g 259, g 260, g 261, g 262, g 263, g 264, g 265, g 266, g 267, g 268, g 269, g 270, g 271, g 272, g 273, g 274, g 275, g 276, g 277, g 278, g 279, g 280, g 281, g 282, g 283, g 284, g 285, g 286, g 287, g 288, g 289, g 290, g 291, g 292, g 293, g 294, g 295, g 296, g 297, g 298, g 299, g 300, g 301, g 302, g 303, g 304, g 305, g 306, g 307, g 308, g 309, g 310, g 311, g 312, g 313, g 314, g 315, g 316, g 317, g 318, g 319, g 320, g 321, g 322, g 323, g 324, g 325, g 326, g 327, g 328, g 329, g 330, g 331, g 332, g 333, g 334, g 335, g 336, g 337, g 338, g 339, g 340, g 341, g 342, g 343, g 344, g 345, g 346, g 347, g 348], []⟩ := ⟨slot a, fun _ => rfl, h.open⟩

theorem loop_cut {P : Program} {c : Code} {Q : Exit → Act → World → Prop} {a : Act} {w : World} (I : Act → World → Prop) (μ : Act → World → Nat) (h0 : I a w)
    (round : ∀ a w, I a w → ∀ (J K' : Act → World → Prop), (∀ a' w', I a' w' → μ a' w' < μ a w → J a' w') → (∀ a' w', Met J a' w' → K' a' w') → c.wp P (Exit.then K' Q) a w) : (Code.loop c).wp P Q a w :=
  wp_loop I μ h0 (fun a w hI => round a w hI (fun a' w' => I a' w' ∧ μ a' w' < μ a w) _ (fun _ _ h1 h2 => ⟨h1, h2⟩) (fun _ _ h => h))

/-- the block of that number in a code; what follows it -/
def theBlock (n : Nat) : Code → Option Code
  | .block i c => if i = n then some (.block i c) else theBlock n c
  | .seq a b => match theBlock n a with
    | some c => some c
    | none => theBlock n b
  | .loop c => theBlock n c
  | .scope c => theBlock n c
  | .cond _ a b => match theBlock n a with
    | some c => some c
    | none => theBlock n b
  | _ => none
def isBlock (n : Nat) : Code → Bool
  | .block i _ => i == n
  | _ => false
def behind (n : Nat) : Code → Option Code
  | .block _ c => behind n c
  | .seq a b => if isBlock n a then some b else match behind n a with
    | some c => some c
    | none => behind n b
  | .loop c => behind n c
  | .scope c => behind n c
  | .cond _ a b => match behind n a with
    | some c => some c
    | none => behind n b
  | _ => none
noncomputable def swCode : Code := ((Try.f3.body.bind (theBlock 4)).getD .skip)
noncomputable def tailCode : Code := ((Try.f3.body.bind (behind 4)).getD .skip)

end Go.Proofs.Ytglbemdeboaheaa.Rf
