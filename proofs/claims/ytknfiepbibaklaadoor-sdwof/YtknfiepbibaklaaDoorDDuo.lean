/-
  A tree and a store side by side in one world, both younger than a law's first world (Duo); what is done to either leaves the other as it was. The law's own example of the document (its function awake).
-/
import Derived.Test.YtknfiepbibaklaaDoorDCalls
import Derived.Test.YtknfiepbibaklaaDoorTAwake
namespace Go.Proofs.YtknfiepbibaklaaDoor.D
open Go.ChangeShapes Go.WideShapes Go.ChangeAt Go.RowKit
open Go.Proofs.YtknfiepbibaklaaDoor.N (bs bs_data bs_size bs_inj)
open Go.Proofs.YtknfiepbibaklaaDoor.A (Tm Fl TRow findR noFl)
open Go.Proofs.YtknfiepbibaklaaDoor.W (BV acc bmay cto cer inr one_new retI StoreAt SP)
open Go.Proofs.YtknfiepbibaklaaDoor.T (Br Nd St TreeAt TP BrV BrO BrAt noBr Txt rng segS segB nodeS aclX ringX noSt freeE)

/-- a tree and a store, with no block in common, both younger than w0; and the blocks K beside them -/
def Duo (w0 Y : World) (b c : Nat) (st : St) (s : Nat) (q u l : Int) (k : Nat) (S : Int → Option (List Int)) (K : List (Nat × Obj)) : Prop :=
  ∃ F G, TreeAt Y b F c st ∧ StoreAt Y s G q u l k S ∧ Below w0.heap.size w0 Y ∧ (∀ i, F i → w0.heap.size ≤ i) ∧ (∀ i, G i → w0.heap.size ≤ i) ∧ (∀ i, F i → ¬ G i) ∧ ∀ p ∈ K, Y.heap[p.1]? = some p.2 ∧ ¬ F p.1 ∧ ¬ G p.1

theorem lt_of_some {w : World} {i : Nat} {o : Obj} (h : w.heap[i]? = some o) : i < w.heap.size := (Array.getElem?_eq_some_iff.1 h).1

section
variable {w0 Y V : World} {b c : Nat} {st : St} {s : Nat} {q u l : Int} {k : Nat} {S : Int → Option (List Int)} {K : List (Nat × Obj)}

theorem Duo.bel (h : Duo w0 Y b c st s q u l k S K) : Below w0.heap.size w0 Y := by
  obtain ⟨_, _, _, _, h, _⟩ := h
  exact h
theorem Duo.below (h : Duo w0 Y b c st s q u l k S K) (hb : Below Y.heap.size Y V) : Duo w0 V b c st s q u l k S K := by
  obtain ⟨F, G, h1, h2, h3, h4, h5, h6, h7⟩ := h
  exact ⟨F, G, h1.below hb, h2.below hb, h3.trans (hb.mono h3.size), h4, h5, h6, fun p hp => ⟨(hb.block _ (lt_of_some (h7 p hp).1)).trans (h7 p hp).1, (h7 p hp).2⟩⟩
theorem Duo.alloc (h : Duo w0 Y b c st s q u l k S K) (o : Obj) : Duo w0 (Y.alloc o) b c st s q u l k S K := h.below (one_new _ _)
theorem Duo.drew (h : Duo w0 Y b c st s q u l k S K) : Duo w0 Y.drew b c st s q u l k S K := h.below (bel_drew _)
theorem Duo.at_ (h : Duo w0 Y b c st s q u l k S K) {p : Nat × Obj} (hp : p ∈ K) : Y.heap[p.1]? = some p.2 := by
  obtain ⟨F, G, h1, h2, h3, h4, h5, h6, h7⟩ := h
  exact (h7 p hp).1
/-- a new block beside both -/
theorem Duo.push (h : Duo w0 Y b c st s q u l k S K) (o : Obj) : Duo w0 (Y.alloc o) b c st s q u l k S ((Y.heap.size, o) :: K) := by
  obtain ⟨F, G, h1, h2, h3, h4, h5, h6, h7⟩ := h.alloc o
  obtain ⟨F', G', g1, g2, g3, g4, g5, g6, g7⟩ := h
  refine ⟨F', G', g1.below (one_new _ _), g2.below (one_new _ _), h3, g4, g5, g6, fun p hp => ?_⟩
  rcases List.mem_cons.1 hp with rfl | hp
  · exact ⟨heap_alloc_new Y o, fun hf => Nat.lt_irrefl _ (g1.ltF _ hf), fun hg => Nat.lt_irrefl _ (g2.ltF _ hg)⟩
  · exact ⟨((one_new Y o).block _ (lt_of_some (g7 p hp).1)).trans (g7 p hp).1, (g7 p hp).2⟩

theorem duo_tree {F F' G : Nat → Prop} {c' : Nat} {st' : St} (h1 : TreeAt V b F' c' st') (hw : T.Went F Y F' V) (h2 : StoreAt Y s G q u l k S) (h3 : Below w0.heap.size w0 Y) (h4 : ∀ i, F i → w0.heap.size ≤ i) (h5 : ∀ i, G i → w0.heap.size ≤ i) (h6 : ∀ i, F i → ¬ G i) (h7 : ∀ p ∈ K, Y.heap[p.1]? = some p.2 ∧ ¬ F p.1 ∧ ¬ G p.1) : Duo w0 V b c' st' s q u l k S K :=
  ⟨F', G, h1, h2.keep hw.size (fun i hi => hw.block i (h2.ltF i hi) (fun hf => h6 i hf hi)), h3.trans (hw.below h4 h3.size), hw.ge h4 h3.size, h5, fun i hi hg => hw.out (h2.ltF i hg) (fun hf => h6 i hf hg) hi,
    fun p hp => ⟨(hw.block _ (lt_of_some (h7 p hp).1) (h7 p hp).2.1).trans (h7 p hp).1, hw.out (lt_of_some (h7 p hp).1) (h7 p hp).2.1, (h7 p hp).2.2⟩⟩
theorem duo_store {F G G' : Nat → Prop} {q' u' l' : Int} {k' : Nat} {S' : Int → Option (List Int)} (h2 : StoreAt V s G' q' u' l' k' S') (hw : W.Went G Y G' V) (h1 : TreeAt Y b F c st) (h3 : Below w0.heap.size w0 Y) (h4 : ∀ i, F i → w0.heap.size ≤ i) (h5 : ∀ i, G i → w0.heap.size ≤ i) (h6 : ∀ i, F i → ¬ G i) (h7 : ∀ p ∈ K, Y.heap[p.1]? = some p.2 ∧ ¬ F p.1 ∧ ¬ G p.1) : Duo w0 V b c st s q' u' l' k' S' K :=
  ⟨F, G', h1.keep hw.size (fun i hi => hw.block i (h1.ltF i hi) (fun hg => h6 i hi hg)), h2, h3.trans (hw.below h5 h3.size), h4, hw.ge h5 h3.size, fun i hi hg => hw.out (h1.ltF i hi) (fun hg => h6 i hi hg) hg,
    fun p hp => ⟨(hw.block _ (lt_of_some (h7 p hp).1) (h7 p hp).2.2).trans (h7 p hp).1, (h7 p hp).2.1, hw.out (lt_of_some (h7 p hp).1) (h7 p hp).2.2⟩⟩

theorem duo_new {F : Nat → Prop} (h1 : TreeAt Y b F c st) (hb : Below w0.heap.size w0 Y) (hF : ∀ i, F i → w0.heap.size ≤ i) (hlt : ∀ i, F i → i < Y.heap.size) {q : Int} (h2 : StoreAt V Y.heap.size (fun i => i = Y.heap.size) q 0 0 0 (fun _ => none)) (hv : Below Y.heap.size Y V) : Duo w0 V b c st Y.heap.size q 0 0 0 (fun _ => none) [] :=
  ⟨F, _, h1.below hv, h2, hb.trans (hv.mono hb.size), hF, fun i hi => by have := hb.size; omega, fun i hi hg => by have := hlt i hi; omega, fun p hp => (by cases hp)⟩

theorem duo_add (h : Duo w0 Y b c st s q u l k S K) {d : Int} {n : Txt} (hd : rng d) (hs : n.length ≤ maxLen) (hf : freeE st d n = 0) {br : Br} {a : Option Addr} {cc : Nat} (hr : TRow Y a cc br.acl) (htx : ∀ t ∈ br.acl, t.1.length ≤ maxLen) (hk : br.kind = 1) (hu : 1 ≤ br.uid) (hu' : br.uid ≤ 9223372036854775807)
    (ha : A.lmay br.acl = true) (hb : bmay br.r1 br.r2 br.r3 br.gt = true) (hG : st.G br.uid = none) (hc : c < 10000) :
    Calls Tryd.prog 11 #[TP b, .int .i64 d, .string (bs n), BrV br (.slice a br.acl.length cc)] Y fun e w' => e = .returned (.tuple #[.int .i64 0, .int .i64 0]) ∧ ∃ g, Duo w0 w' b (c + 4) (segS st g br d n) s q u l k S K := by
  obtain ⟨F, G, h1, h2, h3, h4, h5, h6, h7⟩ := h
  refine (T.add_seg h1 hd hs hf hr htx hk hu hu' ha hb hG hc).mono fun e w' hp => ?_
  obtain ⟨e1, F', g, hg, h1', hw⟩ := hp
  exact ⟨e1, g, duo_tree h1' hw h2 h3 h4 h5 h6 h7⟩

theorem duo_access (h : Duo w0 Y b c st s q u l k S K) {d : Int} {n : Txt} (hd : rng d) (hs : n.length ≤ maxLen) {g : Nat} {x : Nd} (hP : st.P (d, n) = some g) (hN : st.N g = some x) (hk : x.br.kind = 1) {a : Option Addr} {cc : Nat} {m : List Tm} (hr : TRow Y a cc m) (htx : ∀ t ∈ m, t.1.length ≤ maxLen) (hl : A.lmay m = true) :
    Calls Tryd.prog 22 #[TP b, .int .i64 d, .string (bs n), .slice a m.length cc] Y fun e w' => e = .returned (.int .i64 0) ∧ Duo w0 w' b c (nodeS st g (aclX x m)) s q u l k S K := by
  obtain ⟨F, G, h1, h2, h3, h4, h5, h6, h7⟩ := h
  refine (T.access_at h1 hd hs hP hN hk hr htx hl).mono fun e w' hp => ?_
  obtain ⟨e1, F', h1', hw⟩ := hp
  exact ⟨e1, duo_tree h1' hw h2 h3 h4 h5 h6 h7⟩

theorem duo_ringed (h : Duo w0 Y b c st s q u l k S K) {d : Int} {n : Txt} (hd : rng d) (hs : n.length ≤ maxLen) {g : Nat} {x : Nd} (hP : st.P (d, n) = some g) (hN : st.N g = some x) (hk : x.br.kind = 1) {r1 r2 r3 gt : Int} (hb : bmay r1 r2 r3 gt = true) :
    Calls Tryd.prog 23 #[TP b, .int .i64 d, .string (bs n), .agg #[.int .i64 r1, .int .i64 r2, .int .i64 r3, .int .i64 gt]] Y fun e w' => e = .returned (.int .i64 0) ∧ Duo w0 w' b c (nodeS st g (ringX x r1 r2 r3 gt)) s q u l k S K := by
  obtain ⟨F, G, h1, h2, h3, h4, h5, h6, h7⟩ := h
  refine (T.ringed_at h1 hd hs hP hN hk hb).mono fun e w' hp => ?_
  obtain ⟨e1, h1', hw⟩ := hp
  exact ⟨e1, duo_tree h1' hw h2 h3 h4 h5 h6 h7⟩

theorem duo_make (h : Duo w0 Y b c st s q u l k S K) {n u' l' : Int} {S' : Int → Option (List Int)} (n0 : 0 ≤ n) (hn : n ≤ 1024) (hq : n ≤ q - u) (hc : k < 4611686018427387904) (l0 : 0 ≤ l) (l1 : l < 4611686018427387904) (u0 : 0 ≤ u) (uq : u ≤ q) (q1 : q ≤ 9223372036854774000) (eu : u + n = u') (el : l + 1 = l') (eS : W.upd S l' (some (List.replicate n.toNat 0)) = S') :
    Calls Tryd.prog 10 #[SP s, .int .i64 n] Y fun e w' => e = .returned (.tuple #[.int .i64 l', .int .i64 0]) ∧ Duo w0 w' b c st s q u' l' (k + 1) S' K := by
  subst eu el eS
  obtain ⟨F, G, h1, h2, h3, h4, h5, h6, h7⟩ := h
  refine (W.make_at h2 n0 hn hq hc l0 l1 u0 uq q1).mono fun e w' hp => ?_
  obtain ⟨e1, G', h2', hw⟩ := hp
  exact ⟨e1, duo_store h2' hw h1 h3 h4 h5 h6 h7⟩

theorem duo_resize (h : Duo w0 Y b c st s q u l k S K) {j : Int} (hj : rng j) {ws : List Int} (hS : S j = some ws) {n u' : Int} {S' : Int → Option (List Int)} (n0 : 0 ≤ n) (hn : n ≤ 1024) (hq : n - ws.length ≤ q - u) (hc : k < 4611686018427387904) (u0 : 0 ≤ u) (uq : u ≤ q) (q1 : q ≤ 9223372036854774000) (eu : u + (n - ws.length) = u') (eS : W.upd S j (some (W.rez ws n.toNat)) = S') :
    Calls Tryd.prog 24 #[SP s, .int .i64 j, .int .i64 n] Y fun e w' => e = .returned (.int .i64 0) ∧ Duo w0 w' b c st s q u' l (k + 1) S' K := by
  subst eu eS
  obtain ⟨F, G, h1, h2, h3, h4, h5, h6, h7⟩ := h
  refine (W.resize_at h2 hj.1 hj.2 hS n0 hn hq hc u0 uq q1).mono fun e w' hp => ?_
  obtain ⟨e1, G', h2', hw⟩ := hp
  exact ⟨e1, duo_store h2' hw h1 h3 h4 h5 h6 h7⟩

theorem duo_drop (h : Duo w0 Y b c st s q u l k S K) {j : Int} (hj : rng j) {ws : List Int} (hS : S j = some ws) {u' : Int} (u0 : 0 ≤ u) (u1 : u ≤ 9223372036854774000) (eu : u - ws.length = u') :
    Calls Tryd.prog 25 #[SP s, .int .i64 j] Y fun e w' => e = .returned (.int .i64 0) ∧ ∃ S', S' j = none ∧ Duo w0 w' b c st s q u' l k S' K := by
  obtain ⟨F, G, h1, h2, h3, h4, h5, h6, h7⟩ := h
  refine (W.drop_is h2 hj.1 hj.2 hS u0 u1 eu).mono fun e w' hp => ?_
  obtain ⟨e1, S', h2', hg, hw⟩ := hp
  exact ⟨e1, S', hg.at_, duo_store h2' hw h1 h3 h4 h5 h6 h7⟩

theorem duo_of (h : Duo w0 Y b c st s q u l k S K) {uid : Int} (hu : rng uid) {g : Nat} {x : Nd} (hG : st.G uid = some g) (hN : st.N g = some x) (hx : ∀ t ∈ x.br.acl, t.1.length ≤ maxLen) {ws : List Int} (hS : S uid = some ws) (usr : Txt) {z : Sd} (hz : sdOf uid ws.length x.br usr = z) :
    Calls Tryd.prog 12 #[TP b, SP s, .int .i64 uid, .string (bs usr)] Y fun e w' => e = .returned (.tuple #[SdV z, .int .i64 0]) ∧ Below Y.heap.size Y w' := by
  subst hz
  obtain ⟨F, G, h1, h2, h3, h4, h5, h6, h7⟩ := h
  exact of_yes h1 h2 hu hG hN hx hS usr
theorem duo_none (h : Duo w0 Y b c st s q u l k S K) {uid : Int} (hu : rng uid) (hG : st.G uid = none) (usr : Txt) :
    Calls Tryd.prog 12 #[TP b, SP s, .int .i64 uid, .string (bs usr)] Y fun e w' => e = .returned (.tuple #[.agg #[.int .i64 0, .int .i64 0, .bool false, .bool false, .bool false, .int .i64 0, .int .i64 0, .int .i64 0, .int .i64 0], .int .i64 4]) ∧ Below Y.heap.size Y w' := by
  obtain ⟨F, G, h1, h2, h3, h4, h5, h6, h7⟩ := h
  exact of_none h1 hu hG usr
theorem duo_gone (h : Duo w0 Y b c st s q u l k S K) {uid : Int} (hu : rng uid) {g : Nat} {x : Nd} (hG : st.G uid = some g) (hN : st.N g = some x) (hS : S uid = none) (usr : Txt) :
    Calls Tryd.prog 12 #[TP b, SP s, .int .i64 uid, .string (bs usr)] Y fun e w' => e = .returned (.tuple #[.agg #[.int .i64 0, .int .i64 0, .bool false, .bool false, .bool false, .int .i64 0, .int .i64 0, .int .i64 0, .int .i64 0], .int .i64 4]) ∧ Below Y.heap.size Y w' := by
  obtain ⟨F, G, h1, h2, h3, h4, h5, h6, h7⟩ := h
  exact of_gone h1 h2 hu hG hN hS usr

end

/-- a tree that has one segment, a, in its root -/
theorem seg_st (g : Nat) (br : Br) : (segS noSt g br 0 [97]).P (0, [97]) = some g ∧ (segS noSt g br 0 [97]).N g = some ⟨segB br, 0, [[97]]⟩ ∧ (segS noSt g br 0 [97]).G br.uid = some g ∧ ∀ j, j ≠ br.uid → (segS noSt g br 0 [97]).G j = none := by
  refine ⟨?_, ?_, ?_, fun j hj => ?_⟩ <;> simp [segS, T.bindS, nodeS, noSt, T.upd]
  exact hj

/-- a term alone -/
@[reducible] def TO (t : Tm) : Obj := .cells #[.string (bs t.1), .bool t.2.1, .bool t.2.2.1, .bool t.2.2.2] 56
theorem row_one (w : World) (t : Tm) : TRow (w.alloc (TO t)) (some ⟨w.heap.size, 0, none⟩) 1 [t] := A.TRow.lit w [t] 1 (by simp)
theorem may_one {t : Tm} (h : N.may 16 t.1 = true) : A.lmay [t] = true := A.lmay_of (by simp) (by simpa using h) (List.pairwise_singleton _ _)
theorem find_star {f : Fl} {v : Txt} (h : N.may 16 v = true) : findR [([42], f)] v = f := by
  unfold findR
  rw [may_one (t := ([42], f)) A.star_may]
  by_cases e : v = [42]
  · subst e
    simp [A.look]
  · simp [A.look, Ne.symm e]
theorem find_same {f : Fl} {v : Txt} (h : N.may 16 v = true) : findR [(v, f)] v = f := by
  unfold findR
  rw [may_one (t := (v, f)) h]
  simp [A.look]

def awBr : Br := ⟨1, 1, 0, [], false, [([42], (true, false, false))], 4, 4, 4, 0⟩
def awSd : Sd := ⟨1, 4, true, false, false, 4, 4, 4, 0⟩
theorem aw_sd : sdOf 1 (4 : Nat) (segB awBr) [117] = awSd := by
  unfold sdOf flg
  rw [show (segB awBr).acl = [([42], (true, false, false))] from rfl, find_star (by decide)]
  rfl
@[reducible] def AwV : Value := .agg #[.int .i64 1, .int .i64 4, .bool true, .bool false, .bool false, .int .i64 4, .int .i64 4, .int .i64 4, .int .i64 0]
theorem aw_read (r off : Int) (w : World) {z : Int} (hz : bnd (acc (bmay 4 4 4 0) true r 0 4) off 4 = z) : Calls Tryd.prog 17 #[AwV, .int .i64 r, .int .i64 off] w fun e w' => e = .returned (.int .i64 z) ∧ Below w.heap.size w w' := by
  subst hz
  exact read_any awSd r off w
theorem aw_add {w0 Y : World} {b s : Nat} {l u q : Int} {k : Nat} {S : Int → Option (List Int)} (h : Duo w0 Y b 0 noSt s q u l k S []) :
    Calls Tryd.prog 11 #[TP b, .int .i64 0, .string ⟨#[97]⟩, BrV awBr (.slice (some ⟨Y.heap.size, 0, none⟩) 1 1)] (Y.alloc (TO ([42], (true, false, false)))) fun e w' => e = .returned (.tuple #[.int .i64 0, .int .i64 0]) ∧ ∃ g, Duo w0 w' b 4 (segS noSt g awBr 0 [97]) s q u l k S [] :=
  duo_add (h.alloc _) (d := 0) (n := [97]) (br := awBr) T.rng0 (T.short_txt (by decide)) (T.free_ok (by decide) rfl) (row_one Y ([42], (true, false, false))) (by decide) rfl (by decide) (by decide) (may_one A.star_may) (by decide) rfl (by omega)
def wsN (n : Nat) : List Int := List.replicate n 0
theorem wsN_len (n : Nat) : (wsN n).length = n := List.length_replicate
/-- a store of one segment -/
def oneS (l : Int) (n : Nat) : Int → Option (List Int) := W.upd (fun _ => none) l (some (wsN n))
theorem oneS_at (l : Int) (n : Nat) : oneS l n l = some (wsN n) := W.upd_same _ _ _

theorem aw_of {w0 Y : World} {b s g : Nat} {l u q : Int} {k : Nat} (h : Duo w0 Y b 4 (segS noSt g awBr 0 [97]) s q u l k (oneS 1 4) []) :
    Calls Tryd.prog 12 #[TP b, SP s, .int .i64 1, .string ⟨#[117]⟩] Y fun e w' => e = .returned (.tuple #[AwV, .int .i64 0]) ∧ Below Y.heap.size Y w' :=
  duo_of h (uid := 1) (by unfold rng; omega) (seg_st g awBr).2.2.1 (seg_st g awBr).2.1 (by decide) (oneS_at 1 4) [117] aw_sd

set_option maxHeartbeats 4000000 in
theorem awake_any (w : World) : Calls Tryd.prog 7 #[] w fun e w' => e = .returned (.bool true) ∧ Below w.heap.size w w' := by
  go_enter Tryd.func7, Tryd.ntmps7
  go_wp2_with (first
    | (go_at_call 8; ((with_reducible refine (T.new_at w).mono ?_); rintro e w1 ⟨rfl, h1, b1, s1⟩))
    | (go_at_call 9; ((with_reducible refine (W.new_at (q := 10) (by omega) w1).mono ?_); rintro e w2 ⟨rfl, h2, b2, s2⟩; have D2 := Lib.hid (duo_new h1 b1 (fun i hi => by omega) (fun i hi => by omega) h2 b2); clear h1 b1 h2 b2))
    | (go_at_call 10; ((with_reducible refine (duo_make D2.out (n := 4) (u' := 4) (l' := 1) (S' := oneS 1 4) (by omega) (by omega) (by omega) (by omega) (by omega) (by omega) (by omega) (by omega) (by omega) (by omega) (by omega) rfl).mono ?_); rintro e w3 ⟨rfl, h3⟩; have D3 := Lib.hid h3; clear h3))
    | (go_at_call 11; ((refine (aw_add D3.out).mono ?_); rintro e w4 ⟨rfl, g, h4⟩; have D4 := Lib.hid h4; clear h4))
    | (go_at_call 12; ((refine (aw_of D4.out).mono ?_); rintro e w5 ⟨rfl, b5⟩; have L5 := Lib.hid (bel2 D4.out.bel b5); clear b5))
    | (go_at_call 17; ((with_reducible refine (aw_read 4 3 _ (z := 0) (by decide)).mono ?_); rintro e w6 ⟨rfl, b6⟩; have x6 : w5.heap.size < w6.heap.size := (by have := b6.size; simp at this; omega); have k6 := W.old_at b6))
    | (go_at_call 17; ((with_reducible refine (aw_read 4 4 _ (z := 8) (by decide)).mono ?_); rintro e w7 ⟨rfl, b7⟩; have x7 : w5.heap.size < w7.heap.size := (by have := b7.size; omega); have k7 := W.old_at b7))
    | (go_at_call 17; ((with_reducible refine (aw_read 5 0 _ (z := 10) (by decide)).mono ?_); rintro e w8 ⟨rfl, b8⟩)))
  go_ret
  exact ⟨rfl, bel2 (bel2 (bel2 (bel2 L5.out (one_new _ _)) b6) b7) b8⟩

end Go.Proofs.YtknfiepbibaklaaDoor.D
