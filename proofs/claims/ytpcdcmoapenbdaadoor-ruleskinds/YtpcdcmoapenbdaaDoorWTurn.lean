/-
  What a walk is, as a plain function of what a tree answers (fol); the program's turn at a link.
-/
import Derived.Test.YtpcdcmoapenbdaaDoorWSplit
import Derived.Test.YtpcdcmoapenbdaaDoorTMore2
namespace Go.Proofs.YtpcdcmoapenbdaaDoor.T
open Go.ChangeShapes Go.WideShapes Go.ChangeAt Go.RowKit
open Go.Proofs.YtpcdcmoapenbdaaDoor.N (bs bs_data bs_size bs_inj Glob PRow Own)
open Go.Proofs.YtpcdcmoapenbdaaDoor.A (Tm TRow)

/-- what stands in a directory by a name -/
def lk (st : St) (d : Int) (s : Txt) : Option Br :=
  match st.P (d, s) with
  | none => none
  | some g => (st.N g).map (·.br)
/-- a directory with that number -/
def dirN (d : Int) : Br := ⟨2, 0, d, [], false, [], 0, 0, 0, 0⟩

/-- from one branch on, part by part; a link goes on as K says -/
def stp (L : Int → Txt → Option Br) (K : List Txt → Int × Br) : Br → List Txt → Int × Br
  | at_, [] => (0, at_)
  | at_, p :: ps =>
    if at_.kind = 2 then
      match L at_.dir p with
      | none => (4, noBr)
      | some b => if b.kind = 3 then K (N.ps b.link ++ ps) else stp L K b ps
    else (15, noBr)
/-- .. where n links more may be followed: the error and the branch -/
def fol (L : Int → Txt → Option Br) : Nat → Br → List Txt → Int × Br
  | 0 => stp L fun _ => (14, noBr)
  | n + 1 => stp L fun qs => fol L n (dirN 0) qs

theorem fol_nil (L : Int → Txt → Option Br) (n : Nat) (b : Br) : fol L n b [] = (0, b) := by cases n <;> rfl
theorem fol_kind (L : Int → Txt → Option Br) (n : Nat) {b : Br} (h : ¬ b.kind = 2) (p : Txt) (ps : List Txt) : fol L n b (p :: ps) = (15, noBr) := by cases n <;> simp [fol, stp, h]
theorem fol_none {L : Int → Txt → Option Br} (n : Nat) {b : Br} (h : b.kind = 2) {p : Txt} (hl : L b.dir p = none) (ps : List Txt) : fol L n b (p :: ps) = (4, noBr) := by cases n <;> simp [fol, stp, h, hl]
theorem fol_on {L : Int → Txt → Option Br} (n : Nat) {b x : Br} (h : b.kind = 2) {p : Txt} (hl : L b.dir p = some x) (hx : ¬ x.kind = 3) (ps : List Txt) : fol L n b (p :: ps) = fol L n x ps := by cases n <;> simp [fol, stp, h, hl, hx]
theorem fol_stop {L : Int → Txt → Option Br} {b x : Br} (h : b.kind = 2) {p : Txt} (hl : L b.dir p = some x) (hx : x.kind = 3) (ps : List Txt) : fol L 0 b (p :: ps) = (14, noBr) := by simp [fol, stp, h, hl, hx]
theorem fol_link {L : Int → Txt → Option Br} {n : Nat} {b x : Br} (h : b.kind = 2) {p : Txt} (hl : L b.dir p = some x) (hx : x.kind = 3) (ps : List Txt) : fol L (n + 1) b (p :: ps) = fol L n (dirN 0) (N.ps x.link ++ ps) := by simp [fol, stp, h, hl, hx]

/-- a tree's links are paths -/
def LinksOk (st : St) : Prop := ∀ g x, st.N g = some x → x.br.kind = 3 → x.br.link.length ≤ 168

theorem BrAt.keep {w w' : World} {B k : Nat} {b : Br} {av : Value} (h : BrAt w k b av) (hb : Below B w w') (hk : k < B) : BrAt w' k b av := (hb.block k hk).trans h

theorem own_txt_base {base base' : Nat} {w : World} {v : Value} {l : List Txt} (h : Own base w v l) (hb : base' ≤ base) : Own base' w v l := by
  refine ⟨h.1, ?_⟩
  rcases h.2 with h2 | ⟨g, cap, cur, e, h3, r⟩
  · exact Or.inl h2
  · exact Or.inr ⟨g, cap, cur, e, Nat.le_trans hb h3, r⟩
theorem own_txt_setBr {base : Nat} {w : World} {v : Value} {l : List Txt} (h : Own base w v l) {k : Nat} (hk : k < base) (b : Br) (av : Value) : Own base (setBr w k b av) v l :=
  ownsRow_setCell_below (ownsRow_setCell_below (ownsRow_setCell_below (ownsRow_setCell_below (ownsRow_setCell_below (ownsRow_setCell_below (ownsRow_setCell_below (ownsRow_setCell_below (ownsRow_setCell_below (ownsRow_setCell_below h hk _) hk _) hk _) hk _) hk _) hk _) hk _) hk _) hk _) hk _

set_option maxHeartbeats 1000000 in
theorem turn_any {w : World} (hg : Glob w) {l : Txt} (hl : l.length ≤ 168) {a : Option Addr} {c : Nat} {qs : List Txt} (hr : PRow w a c qs) (hq : qs.length ≤ 1000) :
    Calls Tryd.prog 78 #[.string (bs l), .slice a qs.length c] w fun e w' => ∃ a' c', e = .returned (.tuple #[BrV dirB (.slice none 0 0), .slice a' (N.ps l ++ qs).length c']) ∧ Own w.heap.size w' (.slice a' (N.ps l ++ qs).length c') (N.ps l ++ qs) ∧ Below w.heap.size w w' := by
  have HG := Lib.hid hg
  have HR := Lib.hid hr
  have hsz : (bs l).size ≤ maxLen := by rw [bs_size]; unfold maxLen; omega
  have hps := N.ps_len l
  have X0 := Lib.hid (BrAt.new w noBr (.slice none 0 0))
  clear hg hr
  go_enter Tryd.func78, Tryd.ntmps78
  go_wp2_with (first
    | (go_at_call 57; ((refine (N.split_own (bs l) _ hsz (HG.out.below (one_new _ _))).mono ?_); rw [bs_data]; rintro e w1 ⟨v1, rfl, o1, b1⟩; have O1 := Lib.hid o1; have B1 := Lib.hid b1; have X1 := Lib.hid (X0.out.below b1); clear o1 b1))
    | (at_builtin; refine N.wpList_texts (base := (w.alloc (BrO noBr (.slice none 0 0))).heap.size) rfl (.tmp 14) (.tmp 15) rfl rfl O1.out a c qs rfl (HR.out.below (bel2 (one_new _ _) B1.out)) (by omega) B1.out.size ?_; intro v2 w2 h1 h2; have B2 := (Below.refl (w.alloc (BrO noBr (.slice none 0 0))).heap.size w1).grown h2 B1.out.size (fun k e => (World.ownsRow.lt O1.out k e).1); have X2 := Lib.hid (X1.out.keep B2 (by simp)); obtain ⟨s0, s1, s2, s3, s4, s5, s6, s7, s8, s9⟩ := X2.out.cell; have f2 := X2.out.fz; have hlt := X2.out.lt; have O2 := Lib.hid h1; clear h1 h2))
  have X3 := X2.out.stored dirB (.slice none 0 0)
  have L3 := Below.setBr (bel2 (one_new w (BrO noBr (.slice none 0 0))) B1.out |>.trans (B2.mono (by simp))) (k := w.heap.size) (Nat.le_refl _) dirB (.slice none 0 0)
  have O3 : Own (w.heap.size + 1) (setBr w2 w.heap.size dirB (.slice none 0 0)) v2 (N.ps l ++ qs) := own_txt_setBr (by simpa using O2.out) (by omega) _ _
  obtain ⟨a', c', rfl, _⟩ := PRow.of O3
  have hp := own_txt_base (base' := w.heap.size) O3 (by omega)
  clear O3
  refine (show bodyPost _ _ _ _ _ (setBr w2 w.heap.size dirB (.slice none 0 0)) from ?_)
  generalize setBr w2 w.heap.size dirB (.slice none 0 0) = V at X3 L3 hp ⊢
  obtain ⟨g0, g1, g2, g3, g4, g5, g6, g7, g8, g9⟩ := X3.cell
  exact bodyPost_ret (v := .tuple #[BrV dirB (.slice none 0 0), .slice a' (N.ps l ++ qs).length c']) (by simp [results, Tryd.results78, go_sem, g0, g1, g2, g3, g4, g5, g6, g7, g8, g9]) rfl ⟨a', c', rfl, hp, L3⟩

end Go.Proofs.YtpcdcmoapenbdaaDoor.T
