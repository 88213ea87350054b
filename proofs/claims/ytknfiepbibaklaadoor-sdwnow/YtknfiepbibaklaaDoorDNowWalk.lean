/-
  The law SdwNow answers true: access and brackets that are changed, words that are cut, a segment that is gone: seen at the next use.
-/
import Derived.Test.YtknfiepbibaklaaDoorDDuo
import Derived.Test.YtknfiepbibaklaaDoorRHeld
namespace Go.Proofs.YtknfiepbibaklaaDoor.D
open Go.ChangeShapes Go.WideShapes Go.ChangeAt Go.RowKit
open Go.Proofs.YtknfiepbibaklaaDoor.N (bs bs_data bs_size bs_inj)
open Go.Proofs.YtknfiepbibaklaaDoor.A (Tm Fl TRow findR noFl)
open Go.Proofs.YtknfiepbibaklaaDoor.W (BV acc bmay cto cer inr one_new retI StoreAt SP)
open Go.Proofs.YtknfiepbibaklaaDoor.T (Br Nd St TreeAt TP BrV BrO BrAt noBr Txt rng segS segB nodeS aclX ringX noSt freeE)

def nBr : Br := ⟨1, 1, 0, [], false, [], 0, 0, 7, 0⟩
@[reducible] def nVX : Value := .agg #[.int .i64 1, .int .i64 9, .bool false, .bool false, .bool false, .int .i64 0, .int .i64 0, .int .i64 7, .int .i64 0]
@[reducible] def nOX : Obj := .cells #[.int .i64 1, .int .i64 9, .bool false, .bool false, .bool false, .int .i64 0, .int .i64 0, .int .i64 7, .int .i64 0] 41
@[reducible] def nVY (m : Int) (fr fw fe : Bool) (r1 r2 r3 g : Int) : Value := .agg #[.int .i64 1, .int .i64 m, .bool fr, .bool fw, .bool fe, .int .i64 r1, .int .i64 r2, .int .i64 r3, .int .i64 g]
@[reducible] def nOY (m : Int) (fr fw fe : Bool) (r1 r2 r3 g : Int) : Obj := .cells #[.int .i64 1, .int .i64 m, .bool fr, .bool fw, .bool fe, .int .i64 r1, .int .i64 r2, .int .i64 r3, .int .i64 g] 41
@[reducible] def nOZ : Obj := .cells #[.int .i64 0, .int .i64 0, .bool false, .bool false, .bool false, .int .i64 0, .int .i64 0, .int .i64 0, .int .i64 0] 41
theorem n_x : sdOf 1 (9 : Nat) (segB nBr) [117] = ⟨1, 9, false, false, false, 0, 0, 7, 0⟩ := by
  unfold sdOf flg
  rw [show (segB nBr).acl = [] from rfl, show findR [] [117] = noFl from by decide]
  rfl
/-- what the node is behind both changes -/
def nNd (f : Fl) (r1 r2 r3 g : Int) : Nd := ringX (aclX ⟨segB nBr, 0, [[97]]⟩ [([117], f)]) r1 r2 r3 g
def nSt (g0 : Nat) (f : Fl) (r1 r2 r3 g : Int) : St := nodeS (nodeS (segS noSt g0 nBr 0 [97]) g0 (aclX ⟨segB nBr, 0, [[97]]⟩ [([117], f)])) g0 (nNd f r1 r2 r3 g)
theorem n_y (m : Int) (f : Fl) (r1 r2 r3 g : Int) : sdOf 1 m (nNd f r1 r2 r3 g).br [117] = ⟨1, m, f.1, f.2.1, f.2.2, r1, r2, r3, g⟩ := by
  unfold sdOf flg
  rw [show (nNd f r1 r2 r3 g).br.acl = [([117], f)] from rfl, find_same (by decide), show (nNd f r1 r2 r3 g).br.obj = false from rfl]
  simp only [Bool.not_false, Bool.and_true]
  rfl
theorem n_st (g0 : Nat) (f : Fl) (r1 r2 r3 g : Int) : (nSt g0 f r1 r2 r3 g).G 1 = some g0 ∧ (nSt g0 f r1 r2 r3 g).N g0 = some (nNd f r1 r2 r3 g) :=
  ⟨(seg_st g0 nBr).2.2.1, T.upd_same _ _ _⟩
/-- the store behind the cut -/
def nS (m : Nat) : Int → Option (List Int) := W.upd (oneS 1 9) 1 (some (W.rez (wsN 9) m))
theorem n_len (m : Nat) : (W.rez (wsN 9) m).length = m := W.rez_len _ _

section
variable {w0 Y : World} {b s g0 : Nat} {l u q : Int} {k : Nat} {S : Int → Option (List Int)} {K : List (Nat × Obj)}

theorem n_add (h : Duo w0 Y b 0 noSt s q u l k S K) :
    Calls Tryd.prog 11 #[TP b, .int .i64 0, .string ⟨#[97]⟩, .agg #[.int .i64 1, .int .i64 1, .int .i64 0, .string ⟨#[]⟩, .bool false, .slice none 0 0, .int .i64 0, .int .i64 0, .int .i64 7, .int .i64 0]] Y fun e w' => e = .returned (.tuple #[.int .i64 0, .int .i64 0]) ∧ ∃ g, Duo w0 w' b 4 (segS noSt g nBr 0 [97]) s q u l k S K :=
  duo_add h (d := 0) (n := [97]) (br := nBr) T.rng0 (T.short_txt (by decide)) (T.free_ok (by decide) rfl) (A.TRow.nil Y) (by decide) rfl (by decide) (by decide) (by decide) (by decide) rfl (by omega)
theorem n_ofx (h : Duo w0 Y b 4 (segS noSt g0 nBr 0 [97]) s q u l k (oneS 1 9) K) :
    Calls Tryd.prog 12 #[TP b, SP s, .int .i64 1, .string ⟨#[117]⟩] Y fun e w' => e = .returned (.tuple #[nVX, .int .i64 0]) ∧ Below Y.heap.size Y w' :=
  duo_of h (uid := 1) (by unfold rng; omega) (seg_st g0 nBr).2.2.1 (seg_st g0 nBr).2.1 (by decide) (oneS_at 1 9) [117] n_x
theorem n_access {p : Nat} {fr fw fe : Bool} (h : Duo w0 Y b 4 (segS noSt g0 nBr 0 [97]) s q u l k S K) (hp : Y.heap.size = p) :
    Calls Tryd.prog 22 #[TP b, .int .i64 0, .string ⟨#[97]⟩, .slice (some ⟨p, 0, none⟩) 1 1] (Y.alloc (.cells #[.string ⟨#[117]⟩, .bool fr, .bool fw, .bool fe] 56)) fun e w' => e = .returned (.int .i64 0) ∧ Duo w0 w' b 4 (nodeS (segS noSt g0 nBr 0 [97]) g0 (aclX ⟨segB nBr, 0, [[97]]⟩ [([117], (fr, fw, fe))])) s q u l k S K := by
  subst hp
  exact duo_access (h.alloc _) (d := 0) (n := [97]) T.rng0 (T.short_txt (by decide)) (seg_st g0 nBr).1 (seg_st g0 nBr).2.1 rfl (row_one Y ([117], (fr, fw, fe))) (by simp [maxLen]) (may_one (t := ([117], (fr, fw, fe))) (show N.may 16 [117] = true by decide))
theorem n_ringed {f : Fl} {r1 r2 r3 g : Int} (hb : bmay r1 r2 r3 g = true) (h : Duo w0 Y b 4 (nodeS (segS noSt g0 nBr 0 [97]) g0 (aclX ⟨segB nBr, 0, [[97]]⟩ [([117], f)])) s q u l k S K) :
    Calls Tryd.prog 23 #[TP b, .int .i64 0, .string ⟨#[97]⟩, .agg #[.int .i64 r1, .int .i64 r2, .int .i64 r3, .int .i64 g]] Y fun e w' => e = .returned (.int .i64 0) ∧ Duo w0 w' b 4 (nSt g0 f r1 r2 r3 g) s q u l k S K :=
  duo_ringed h (d := 0) (n := [97]) T.rng0 (T.short_txt (by decide)) (seg_st g0 nBr).1 (T.upd_same _ _ _) rfl hb
theorem n_resize {st : St} {c : Nat} {m : Int} (h0 : 0 ≤ m) (hm : m < 30) (h : Duo w0 Y b c st s 2000 9 1 1 (oneS 1 9) K) :
    Calls Tryd.prog 24 #[SP s, .int .i64 1, .int .i64 m] Y fun e w' => e = .returned (.int .i64 0) ∧ Duo w0 w' b c st s 2000 m 1 2 (nS m.toNat) K :=
  duo_resize h (j := 1) (by unfold rng; omega) (oneS_at 1 9) (by omega) (by omega) (by rw [wsN_len]; omega) (by omega) (by omega) (by omega) (by omega) (by rw [wsN_len]; omega) rfl
theorem n_ofy {m : Int} (h0 : 0 ≤ m) {fr fw fe : Bool} {r1 r2 r3 g : Int} (h : Duo w0 Y b 4 (nSt g0 (fr, fw, fe) r1 r2 r3 g) s q u l k (nS m.toNat) K) :
    Calls Tryd.prog 12 #[TP b, SP s, .int .i64 1, .string ⟨#[117]⟩] Y fun e w' => e = .returned (.tuple #[nVY m fr fw fe r1 r2 r3 g, .int .i64 0]) ∧ Below Y.heap.size Y w' :=
  duo_of h (uid := 1) (by unfold rng; omega) (n_st g0 _ _ _ _ _).1 (n_st g0 _ _ _ _ _).2 (by show ∀ t ∈ [(([117] : List UInt8), ((fr, fw, fe) : Fl))], _; simp [maxLen]) (W.upd_same _ _ _) [117] (z := ⟨1, m, fr, fw, fe, r1, r2, r3, g⟩) (by rw [n_len, Int.toNat_of_nonneg h0]; exact n_y m (fr, fw, fe) r1 r2 r3 g)
theorem n_drop {st : St} {c : Nat} {m : Int} (h0 : 0 ≤ m) (hm : m < 30) (h : Duo w0 Y b c st s 2000 m 1 2 (nS m.toNat) K) :
    Calls Tryd.prog 25 #[SP s, .int .i64 1] Y fun e w' => e = .returned (.int .i64 0) ∧ ∃ S', S' 1 = none ∧ Duo w0 w' b c st s 2000 0 1 2 S' K :=
  duo_drop h (j := 1) (by unfold rng; omega) (W.upd_same _ _ _) h0 (by omega) (by rw [n_len, Int.toNat_of_nonneg h0]; omega)
theorem n_gone {f : Fl} {r1 r2 r3 g : Int} (h : Duo w0 Y b 4 (nSt g0 f r1 r2 r3 g) s q u l k S K) (hS : S 1 = none) :
    Calls Tryd.prog 12 #[TP b, SP s, .int .i64 1, .string ⟨#[117]⟩] Y fun e w' => e = .returned (.tuple #[.agg #[.int .i64 0, .int .i64 0, .bool false, .bool false, .bool false, .int .i64 0, .int .i64 0, .int .i64 0, .int .i64 0], .int .i64 4]) ∧ Below Y.heap.size Y w' :=
  duo_gone h (uid := 1) (by unfold rng; omega) (n_st g0 _ _ _ _ _).1 (n_st g0 _ _ _ _ _).2 hS [117]

end
theorem n_cells {Y : World} {p : Nat} {m : Int} {fr fw fe : Bool} {r1 r2 r3 g : Int} (h : Y.heap[p]? = some (nOY m fr fw fe r1 r2 r3 g)) :
    p < Y.heap.size ∧ Y.cell? ⟨p, 0, none⟩ = some (.int .i64 1) ∧ Y.cell? ⟨p, 1, none⟩ = some (.int .i64 m) ∧ Y.cell? ⟨p, 2, none⟩ = some (.bool fr) ∧ Y.cell? ⟨p, 3, none⟩ = some (.bool fw) ∧ Y.cell? ⟨p, 4, none⟩ = some (.bool fe) ∧ Y.cell? ⟨p, 5, none⟩ = some (.int .i64 r1) ∧ Y.cell? ⟨p, 6, none⟩ = some (.int .i64 r2) ∧ Y.cell? ⟨p, 7, none⟩ = some (.int .i64 r3) ∧ Y.cell? ⟨p, 8, none⟩ = some (.int .i64 g) := by
  refine ⟨lt_of_some h, ?_⟩
  simp [World.cell?, h]
theorem n_nil (s : Nat) (Y : World) :
    Calls Tryd.prog 12 #[.pointer none, SP s, .int .i64 1, .string ⟨#[117]⟩] Y fun e w' => e = .returned (.tuple #[.agg #[.int .i64 0, .int .i64 0, .bool false, .bool false, .bool false, .int .i64 0, .int .i64 0, .int .i64 0, .int .i64 0], .int .i64 1]) ∧ Below Y.heap.size Y w' :=
  of_nil (w := Y) (some ⟨s, 0, none⟩) 1 [117]


set_option maxRecDepth 20000 in
set_option maxHeartbeats 1000000 in
theorem now_walk (fr fw fe : Bool) (r1 r2 r3 g : Int) (n : Nat) (hn : n ≤ 255) (w : World) :
    Calls Tryd.prog 4 #[W.FV fr fw fe, BV r1 r2 r3 g, .int .u8 n] w fun e w' => e = .returned (.bool true) ∧ Below w.heap.size w w' := by
  have F0 := Lib.hid (W.fl_below (one_new _ (W.BO r1 r2 r3 g)) (W.fl_new w fr fw fe))
  have B0 : Hid (W.BrAt ((w.alloc (W.FO fr fw fe)).alloc (W.BO r1 r2 r3 g)) (w.heap.size + 1) r1 r2 r3 g) := Lib.hid (by simpa using W.br_new (w.alloc (W.FO fr fw fe)) r1 r2 r3 g)
  have L0 := Lib.hid (W.two_new w (W.FO fr fw fe) (W.BO r1 r2 r3 g))
  have m0 : 0 ≤ (n : Int) % 30 := by omega
  have m1 : (n : Int) % 30 < 30 := by omega
  have gf := A.guard_flags
  have gb := T.brk_guard
  have ez := A.eql_flags (false, false, false) (false, false, false)
  have ef := A.eql_flags (fr, fw, fe) (fr, fw, fe)
  have eb := T.brk_eql r1 r2 r3 g r1 r2 r3 g
  simp only [decide_true] at ez ef eb
  cases hb : bmay r1 r2 r3 g with
  | false =>
    go_enter Tryd.func4, Tryd.ntmps4
    go_wp2_with (first
      | (go_at_call 7; ((with_reducible refine (awake_any _).mono ?_); rintro e wA ⟨rfl, bA⟩))
      | (go_at_call 8; ((with_reducible refine (T.new_at wA).mono ?_); rintro e w1 ⟨rfl, h1, b1, s1⟩))
      | (go_at_call 9; ((with_reducible refine (W.new_at (q := 2000) (by omega) w1).mono ?_); rintro e w2 ⟨rfl, h2, b2, s2⟩; have D2 := Lib.hid (duo_new h1 (bel2 bA b1) (fun i hi => by have := bA.size; omega) (fun i hi => by omega) h2 b2); clear h1 b1 h2 b2 bA))
      | (go_at_call 10; ((with_reducible refine (duo_make D2.out (n := 9) (u' := 9) (l' := 1) (S' := oneS 1 9) (by omega) (by omega) (by omega) (by omega) (by omega) (by omega) (by omega) (by omega) (by omega) (by omega) (by omega) rfl).mono ?_); rintro e w3 ⟨rfl, h3⟩; have D3 := Lib.hid h3; clear h3))
      | (go_at_call 11; ((with_reducible refine (n_add D3.out).mono ?_); rintro e w4 ⟨rfl, g0, h4⟩; have D4 := Lib.hid h4; clear h4; obtain ⟨q0, q1, q2, q3, q4⟩ := W.br_below D4.out.bel B0.out))
      | (go_at_call 21; ((with_reducible refine (W.rmay_no r1 r2 r3 g _ hb).mono ?_); rintro e w5 ⟨rfl, rfl⟩)))
    go_ret
    exact ⟨rfl, bel2 (bel2 L0.out D4.out.bel) (one_new _ _)⟩
  | true =>
    go_enter Tryd.func4, Tryd.ntmps4
    go_wp2_with (first
      | (go_at_call 7; ((with_reducible refine (awake_any _).mono ?_); rintro e wA ⟨rfl, bA⟩))
      | (go_at_call 8; ((with_reducible refine (T.new_at wA).mono ?_); rintro e w1 ⟨rfl, h1, b1, s1⟩))
      | (go_at_call 9; ((with_reducible refine (W.new_at (q := 2000) (by omega) w1).mono ?_); rintro e w2 ⟨rfl, h2, b2, s2⟩; have D2 := Lib.hid (duo_new h1 (bel2 bA b1) (fun i hi => by have := bA.size; omega) (fun i hi => by omega) h2 b2); clear h1 b1 h2 b2 bA))
      | (go_at_call 10; ((with_reducible refine (duo_make D2.out (n := 9) (u' := 9) (l' := 1) (S' := oneS 1 9) (by omega) (by omega) (by omega) (by omega) (by omega) (by omega) (by omega) (by omega) (by omega) (by omega) (by omega) rfl).mono ?_); rintro e w3 ⟨rfl, h3⟩; have D3 := Lib.hid h3; clear h3))
      | (go_at_call 11; ((with_reducible refine (n_add D3.out).mono ?_); rintro e w4 ⟨rfl, g0, h4⟩; have D4 := Lib.hid h4; clear h4; obtain ⟨q0, q1, q2, q3, q4⟩ := W.br_below D4.out.bel B0.out))
      | (go_at_call 21; ((with_reducible refine (W.rmay_yes r1 r2 r3 g _ hb).mono ?_); rintro e w5 ⟨rfl, rfl⟩; clear q0 q1 q2 q3 q4; have D5 := Lib.hid (D4.out.alloc (W.BO r1 r2 r3 g))))
      | (go_at_call 12; ((with_reducible refine (n_ofx D5.out).mono ?_); rintro e w6 ⟨rfl, b6⟩; have D6 := Lib.hid ((D5.out.below b6).push nOX); clear b6; obtain ⟨q0, q1, q2, q3⟩ := W.fl_below D6.out.bel F0.out))
      | (go_at_call 22; ((with_reducible refine (n_access D6.out (p := w6.heap.size + 1) (by simp)).mono ?_); rintro e w7 ⟨rfl, h7⟩; clear q0 q1 q2 q3; have D7 := Lib.hid h7; clear h7; obtain ⟨q0, q1, q2, q3, q4⟩ := W.br_below D7.out.bel B0.out))
      | (go_at_call 23; ((with_reducible refine (n_ringed hb D7.out).mono ?_); rintro e w8 ⟨rfl, h8⟩; clear q0 q1 q2 q3 q4; have D8 := Lib.hid h8; clear h8))
      | (go_at_call 24; ((with_reducible refine (n_resize m0 m1 D8.out).mono ?_); rintro e w9 ⟨rfl, h9⟩; have D9 := Lib.hid h9; clear h9))
      | (go_at_call 12; ((with_reducible refine (n_ofy m0 D9.out).mono ?_); rintro e w10 ⟨rfl, b10⟩; have D10 := Lib.hid ((D9.out.below b10).push (nOY (n % 30) fr fw fe r1 r2 r3 g)); clear b10))
      | (go_at_call 25; ((with_reducible refine (n_drop m0 m1 D10.out).mono ?_); rintro e w11 ⟨rfl, S', hS', h11⟩; have D11 := Lib.hid h11; have HS := Lib.hid hS'; clear h11 hS'))
      | (go_at_call 12; ((with_reducible refine (n_gone D11.out HS.out).mono ?_); rintro e w12 ⟨rfl, b12⟩; have D12 := Lib.hid ((D11.out.below b12).alloc nOZ); clear b12))
      | (go_at_call 12; ((with_reducible refine (n_nil w1.heap.size _).mono ?_); rintro e w13 ⟨rfl, b13⟩; have D13 := Lib.hid (D12.out.below b13); clear b13; obtain ⟨p0, p1, p2, p3⟩ := W.fl_below D13.out.bel F0.out; obtain ⟨q0, q1, q2, q3, q4⟩ := W.br_below D13.out.bel B0.out; obtain ⟨x0, x1, x2, x3, x4, x5, x6, x7, x8, x9⟩ := n_cells (D13.out.at_ (p := (w6.heap.size, nOX)) (by simp)); obtain ⟨y0, y1, y2, y3, y4, y5, y6, y7, y8, y9⟩ := n_cells (D13.out.at_ (p := (w10.heap.size, nOY (n % 30) fr fw fe r1 r2 r3 g)) (by simp)))))
    go_ret
    exact ⟨rfl, (bel2 L0.out D13.out.bel).alloc (by have := L0.out.size; have := D13.out.bel.size; omega) _⟩

end Go.Proofs.YtknfiepbibaklaaDoor.D
