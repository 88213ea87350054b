/-
  What the law SdwOf does, step by step: its boxes, the segment that it adds or that is refused, its function that bounds an error.
-/
import Derived.Test.YtknfiepbibaklaaDoorDTaken
import Derived.Test.YtknfiepbibaklaaDoorRHeld
import Derived.Laws.BitsLemmas
namespace Go.Proofs.YtknfiepbibaklaaDoor.D
open Go.ChangeShapes Go.WideShapes Go.ChangeAt Go.RowKit
open Go.Proofs.YtknfiepbibaklaaDoor.N (bs bs_data bs_size bs_inj)
open Go.Proofs.YtknfiepbibaklaaDoor.A (Tm Fl TRow findR noFl)
open Go.Proofs.YtknfiepbibaklaaDoor.W (BV acc bmay cto cer inr one_new retI StoreAt SP)
open Go.Proofs.YtknfiepbibaklaaDoor.T (Br Nd St TreeAt TP BrV BrO BrAt noBr Txt rng segS segB nodeS aclX ringX noSt freeE)

theorem and3 (n : Int) : bits .and .i64 n 3 = n % 4 := by
  have h3 : (BitVec.ofInt 64 3).toNat = 2 ^ 2 - 1 := by decide
  have key : (BitVec.ofInt 64 n &&& BitVec.ofInt 64 3).toNat = (n % ((2 ^ 64 : Nat) : Int)).toNat % 2 ^ 2 := by
    rw [BitVec.toNat_and, BitVec.toNat_ofInt, h3, Nat.and_two_pow_sub_one_eq_mod]
  show IntKind.i64.wrap ((BitVec.ofInt 64 n &&& BitVec.ofInt 64 3).toNat : Nat) = n % 4
  rw [key, IntKind.wrap_i64]
  omega

/-- the boxes of the law -/
@[reducible] def oBr (kd ud dr : Int) (lk : Txt) (ob : Bool) (v : Value) (r1 r2 r3 gt : Int) : Obj := .cells #[.int .i64 kd, .int .i64 ud, .int .i64 dr, .string (bs lk), .bool ob, v, .int .i64 r1, .int .i64 r2, .int .i64 r3, .int .i64 gt] 26
@[reducible] def oSz (n : Nat) : Obj := .cells #[.int .u8 n] 5
@[reducible] def oAr (a b c : Int) : Obj := .cells #[.int .i64 a, .int .i64 b, .int .i64 c] 27
@[reducible] def oOf (f : Int) : Obj := .cells #[.int .i64 f] 3

theorem o_br {Y : World} {p : Nat} {kd ud dr : Int} {lk : Txt} {ob : Bool} {v : Value} {r1 r2 r3 gt : Int} (h : Y.heap[p]? = some (oBr kd ud dr lk ob v r1 r2 r3 gt)) :
    p < Y.heap.size ∧ Y.cell? ⟨p, 0, none⟩ = some (.int .i64 kd) ∧ Y.cell? ⟨p, 1, none⟩ = some (.int .i64 ud) ∧ Y.cell? ⟨p, 4, none⟩ = some (.bool ob) ∧ Y.cell? ⟨p, 5, none⟩ = some v ∧ Y.cell? ⟨p, 6, none⟩ = some (.int .i64 r1) ∧ Y.cell? ⟨p, 7, none⟩ = some (.int .i64 r2) ∧ Y.cell? ⟨p, 8, none⟩ = some (.int .i64 r3) ∧ Y.cell? ⟨p, 9, none⟩ = some (.int .i64 gt) ∧ Y.frozen? ⟨p, 0, none⟩ = false ∧ Y.frozen? ⟨p, 1, none⟩ = false := by
  refine ⟨lt_of_some h, ?_⟩
  simp [World.cell?, World.frozen?, h]
theorem o_sz {Y : World} {p n : Nat} (h : Y.heap[p]? = some (oSz n)) : p < Y.heap.size ∧ Y.cell? ⟨p, 0, none⟩ = some (.int .u8 n) := by
  refine ⟨lt_of_some h, ?_⟩
  simp [World.cell?, h]
theorem o_ar {Y : World} {p : Nat} {a b c : Int} (h : Y.heap[p]? = some (oAr a b c)) : p < Y.heap.size ∧ Y.cell? ⟨p, 0, none⟩ = some (.int .i64 a) ∧ Y.cell? ⟨p, 1, none⟩ = some (.int .i64 b) ∧ Y.cell? ⟨p, 2, none⟩ = some (.int .i64 c) := by
  refine ⟨lt_of_some h, ?_⟩
  simp [World.cell?, h]
theorem o_of {Y : World} {p : Nat} {a : Int} (h : Y.heap[p]? = some (oOf a)) : p < Y.heap.size ∧ Y.cell? ⟨p, 0, none⟩ = some (.int .i64 a) := by
  refine ⟨lt_of_some h, ?_⟩
  simp [World.cell?, h]
theorem o_fl {Y : World} {p : Nat} {x y z : Bool} (h : Y.heap[p]? = some (W.FO x y z)) : p < Y.heap.size ∧ Y.cell? ⟨p, 0, none⟩ = some (.bool x) ∧ Y.cell? ⟨p, 1, none⟩ = some (.bool y) ∧ Y.cell? ⟨p, 2, none⟩ = some (.bool z) ∧ Y.frozen? ⟨p, 1, none⟩ = false := by
  refine ⟨lt_of_some h, ?_⟩
  simp [World.cell?, World.frozen?, h]
@[reducible] def oSd (m : Int) (fr fw fe : Bool) (r1 r2 r3 g : Int) : Obj := .cells #[.int .i64 1, .int .i64 m, .bool fr, .bool fw, .bool fe, .int .i64 r1, .int .i64 r2, .int .i64 r3, .int .i64 g] 41
@[reducible] def oSv (m : Int) (fr fw fe : Bool) (r1 r2 r3 g : Int) : Value := .agg #[.int .i64 1, .int .i64 m, .bool fr, .bool fw, .bool fe, .int .i64 r1, .int .i64 r2, .int .i64 r3, .int .i64 g]
theorem o_sd {Y : World} {p : Nat} {m : Int} {fr fw fe : Bool} {r1 r2 r3 g : Int} (h : Y.heap[p]? = some (oSd m fr fw fe r1 r2 r3 g)) :
    p < Y.heap.size ∧ Y.cell? ⟨p, 0, none⟩ = some (.int .i64 1) ∧ Y.cell? ⟨p, 1, none⟩ = some (.int .i64 m) ∧ Y.cell? ⟨p, 2, none⟩ = some (.bool fr) ∧ Y.cell? ⟨p, 3, none⟩ = some (.bool fw) ∧ Y.cell? ⟨p, 4, none⟩ = some (.bool fe) ∧ Y.cell? ⟨p, 5, none⟩ = some (.int .i64 r1) ∧ Y.cell? ⟨p, 6, none⟩ = some (.int .i64 r2) ∧ Y.cell? ⟨p, 7, none⟩ = some (.int .i64 r3) ∧ Y.cell? ⟨p, 8, none⟩ = some (.int .i64 g) := by
  refine ⟨lt_of_some h, ?_⟩
  simp [World.cell?, h]

/-- the blocks of the beginning, behind calls that leave them -/
theorem o_start (w : World) (o1 o2 o3 : Obj) {wA w1 : World} (hA : Below (((w.alloc o1).alloc o2).alloc o3).heap.size (((w.alloc o1).alloc o2).alloc o3) wA) (h1 : Below wA.heap.size wA w1) :
    Below w.heap.size w w1 ∧ w.heap.size ≤ wA.heap.size ∧ ∀ p ∈ [(w.heap.size, o1), (w.heap.size + 1, o2), (w.heap.size + 1 + 1, o3)], w1.heap[p.1]? = some p.2 ∧ ¬ p.1 = wA.heap.size := by
  have hb := bel2 hA h1
  have hs := hA.size
  simp at hs
  refine ⟨bel2 (bel2 (bel2 (one_new _ _) (one_new _ _)) (one_new _ _)) hb, by omega, fun p hp => ?_⟩
  simp only [List.mem_cons, List.not_mem_nil, or_false] at hp
  rcases hp with rfl | rfl | rfl
  · exact ⟨(hb.block _ (by simp; omega)).trans ((heap_alloc_old _ _ (by simp; omega)).trans ((heap_alloc_old _ _ (by simp)).trans (heap_alloc_new w o1))), by simp; omega⟩
  · exact ⟨(hb.block _ (by simp)).trans ((heap_alloc_old _ _ (by simp)).trans (by simpa using heap_alloc_new (w.alloc o1) o2)), by simp; omega⟩
  · exact ⟨(hb.block _ (by simp)).trans (by simpa using heap_alloc_new ((w.alloc o1).alloc o2) o3), by simp; omega⟩

/-- what the law adds -/
def oB (y : Br) : Br := ⟨1, 1, 0, [], y.obj, y.acl, y.r1, y.r2, y.r3, y.gt⟩
@[reducible] def oBV (y : Br) (a : Option Addr) (c : Nat) : Value := .agg #[.int .i64 1, .int .i64 1, .int .i64 0, .string ⟨#[]⟩, .bool y.obj, .slice a y.acl.length c, .int .i64 y.r1, .int .i64 y.r2, .int .i64 y.r3, .int .i64 y.gt]
/-- the store behind Make -/
def oS (m : Int) : Int → Option (List Int) := W.upd (fun _ => none) 1 (some (List.replicate m.toNat 0))

section
variable {w0 Y : World} {b s g0 : Nat} {l u q : Int} {k : Nat} {S : Int → Option (List Int)} {K : List (Nat × Obj)} {y : Br} {a : Option Addr} {c : Nat}

theorem o_make {m : Int} (h0 : 0 ≤ m) (h1 : m < 20) (h : Duo w0 Y b 0 noSt s 2000 0 0 0 (fun _ => none) K) :
    Calls Tryd.prog 10 #[SP s, .int .i64 m] Y fun e w' => e = .returned (.tuple #[.int .i64 1, .int .i64 0]) ∧ Duo w0 w' b 0 noSt s 2000 m 1 1 (oS m) K :=
  duo_make h (l' := 1) h0 (by omega) (by omega) (by omega) (by omega) (by omega) (by omega) (by omega) (by omega) (by omega) (by omega) rfl
theorem o_add (hl : A.lmay y.acl = true) (hb : bmay y.r1 y.r2 y.r3 y.gt = true) (hr : TRow Y a c y.acl) (ht : ∀ t ∈ y.acl, t.1.length ≤ maxLen) (h : Duo w0 Y b 0 noSt s q u l k S K) :
    Calls Tryd.prog 11 #[TP b, .int .i64 0, .string ⟨#[97]⟩, oBV y a c] Y fun e w' => e = .returned (.tuple #[.int .i64 0, .int .i64 0]) ∧ ∃ g1, Duo w0 w' b 4 (segS noSt g1 (oB y) 0 [97]) s q u l k S K :=
  duo_add h (d := 0) (n := [97]) (br := oB y) T.rng0 (T.short_txt (by decide)) (T.free_ok (by decide) rfl) hr ht rfl (by simp [oB]) (by simp [oB]) hl hb rfl (by omega)
theorem o_badacl (hl : A.lmay y.acl = false) (hr : TRow Y a c y.acl) (ht : ∀ t ∈ y.acl, t.1.length ≤ maxLen) (h : Duo w0 Y b 0 noSt s q u l k S K) :
    Calls Tryd.prog 11 #[TP b, .int .i64 0, .string ⟨#[97]⟩, oBV y a c] Y fun e w' => e = .returned (.tuple #[.int .i64 0, .int .i64 1]) ∧ Below Y.heap.size Y w' :=
  duo_badacl h (d := 0) (n := [97]) (br := oB y) T.rng0 (T.short_txt (by decide)) (T.free_ok (by decide) rfl) hr ht rfl (by simp [oB]) hl
theorem o_badring (hl : A.lmay y.acl = true) (hb : bmay y.r1 y.r2 y.r3 y.gt = false) (hr : TRow Y a c y.acl) (ht : ∀ t ∈ y.acl, t.1.length ≤ maxLen) (h : Duo w0 Y b 0 noSt s q u l k S K) :
    Calls Tryd.prog 11 #[TP b, .int .i64 0, .string ⟨#[97]⟩, oBV y a c] Y fun e w' => e = .returned (.tuple #[.int .i64 0, .int .i64 1]) ∧ Below Y.heap.size Y w' :=
  duo_badring h (d := 0) (n := [97]) (br := oB y) T.rng0 (T.short_txt (by decide)) (T.free_ok (by decide) rfl) hr ht rfl (by simp [oB]) hl hb
theorem o_none (h : Duo w0 Y b 0 noSt s q u l k S K) :
    Calls Tryd.prog 12 #[TP b, SP s, .int .i64 1, .string ⟨#[117]⟩] Y fun e w' => e = .returned (.tuple #[.agg #[.int .i64 0, .int .i64 0, .bool false, .bool false, .bool false, .int .i64 0, .int .i64 0, .int .i64 0, .int .i64 0], .int .i64 4]) ∧ Below Y.heap.size Y w' :=
  duo_none h (uid := 1) (by unfold rng; omega) rfl [117]
theorem o_sdw {m : Int} (h0 : 0 ≤ m) (ht : ∀ t ∈ y.acl, t.1.length ≤ maxLen) (usr : Txt) (h : Duo w0 Y b 4 (segS noSt g0 (oB y) 0 [97]) s q u l k (oS m) K) {x1 x2 x3 : Bool} (hx : flg y.obj y.acl usr = (x1, x2, x3)) :
    Calls Tryd.prog 12 #[TP b, SP s, .int .i64 1, .string (bs usr)] Y fun e w' => e = .returned (.tuple #[oSv m x1 x2 x3 y.r1 y.r2 y.r3 y.gt, .int .i64 0]) ∧ Below Y.heap.size Y w' :=
  duo_of h (uid := 1) (by unfold rng; omega) (seg_st g0 (oB y)).2.2.1 (seg_st g0 (oB y)).2.1 ht (W.upd_same _ _ _) usr (z := ⟨1, m, x1, x2, x3, y.r1, y.r2, y.r3, y.gt⟩) (by
    rw [List.length_replicate, Int.toNat_of_nonneg h0]
    unfold sdOf
    rw [show (segB (oB y)).obj = y.obj from rfl, show (segB (oB y)).acl = y.acl from rfl, hx]
    rfl)
end

set_option maxHeartbeats 1000000 in
/-- the law's own function: an error, or out of bounds -/
theorem o_bound {Y : World} {pO pS n : Nat} {off : Int} (hO : Y.cell? ⟨pO, 0, none⟩ = some (.int .i64 off)) (hS : Y.cell? ⟨pS, 0, none⟩ = some (.int .u8 n)) (hn : n ≤ 255) (e : Int) :
    Calls Tryd.prog 14 #[.int .i64 e, .pointer (some ⟨pO, 0, none⟩), .pointer (some ⟨pS, 0, none⟩)] Y fun r w' => r = .returned (.int .i64 (bnd e off (n % 20 : Int))) ∧ Y = w' := by
  have m0 : 0 ≤ (n : Int) % 20 := by omega
  rcases bnd_ways e off (n % 20 : Int) with ⟨d1, h⟩ | ⟨d1, d2, h⟩ | ⟨d1, d2, d3, h⟩ | ⟨d1, d2, d3, h⟩
  all_goals
    rw [h]
    clear h
    go_enter Tryd.func14, Tryd.ntmps14
    go_wp2
    go_ret
    exact ⟨rfl, rfl⟩

end Go.Proofs.YtknfiepbibaklaaDoor.D
