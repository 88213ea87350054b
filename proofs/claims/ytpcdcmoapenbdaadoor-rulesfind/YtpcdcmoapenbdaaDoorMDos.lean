/-
  One deed, done on both trees: the answers are the same, and the trees still say the same.
  Delete, done on both trees.
-/
import Derived.Test.YtpcdcmoapenbdaaDoorMTwos
namespace Go.Proofs.YtpcdcmoapenbdaaDoor.T
open Go.ChangeShapes Go.WideShapes Go.ChangeAt Go.RowKit
open Go.Proofs.YtpcdcmoapenbdaaDoor.N (bs bs_data bs_size bs_inj bs_of Glob)
open Go.Proofs.YtpcdcmoapenbdaaDoor.A (Tm TRow)

/-- a deed -/
structure Dd where
  what : Int
  dir : Int
  name : Txt
  more : Txt
  br : Br
@[reducible] def ddC (q : Dd) (a : Option Addr) (cc : Nat) : Array Value := #[.int .i64 q.what, .int .i64 q.dir, .string (bs q.name), .string (bs q.more), .int .i64 q.br.kind, .int .i64 q.br.uid, .int .i64 q.br.dir, .string (bs q.br.link), .bool q.br.obj, .slice a q.br.acl.length cc, .int .i64 q.br.r1, .int .i64 q.br.r2, .int .i64 q.br.r3, .int .i64 q.br.gt]
@[reducible] def DdV (q : Dd) (a : Option Addr) (cc : Nat) : Value := .agg (ddC q a cc)
@[reducible] def DdO (q : Dd) (a : Option Addr) (cc : Nat) : Obj := .cells (ddC q a cc) 38 (0, 0)
structure DdOk (q : Dd) : Prop where
  dir : rng q.dir
  name : q.name.length ≤ 200
  more : q.more.length ≤ 200
  link : q.br.link.length ≤ 400
  acl : q.br.acl.length ≤ 40
  txt : ∀ t ∈ q.br.acl, t.1.length ≤ maxLen
  uid : q.br.uid ≤ 9223372036854775807

theorem dd_cells {W : World} {k : Nat} {q : Dd} {a : Option Addr} {cc : Nat} (h : W.heap[k]? = some (DdO q a cc)) :
    W.cell? ⟨k, 0, none⟩ = some (.int .i64 q.what) ∧ W.cell? ⟨k, 1, none⟩ = some (.int .i64 q.dir) ∧ W.cell? ⟨k, 2, none⟩ = some (.string (bs q.name)) ∧ W.cell? ⟨k, 3, none⟩ = some (.string (bs q.more)) ∧ W.cell? ⟨k, 4, none⟩ = some (.int .i64 q.br.kind) ∧ W.cell? ⟨k, 5, none⟩ = some (.int .i64 q.br.uid) ∧ W.cell? ⟨k, 6, none⟩ = some (.int .i64 q.br.dir) ∧ W.cell? ⟨k, 7, none⟩ = some (.string (bs q.br.link)) ∧ W.cell? ⟨k, 8, none⟩ = some (.bool q.br.obj) ∧ W.cell? ⟨k, 9, none⟩ = some (.slice a q.br.acl.length cc)
      ∧ W.cell? ⟨k, 10, none⟩ = some (.int .i64 q.br.r1) ∧ W.cell? ⟨k, 11, none⟩ = some (.int .i64 q.br.r2) ∧ W.cell? ⟨k, 12, none⟩ = some (.int .i64 q.br.r3) ∧ W.cell? ⟨k, 13, none⟩ = some (.int .i64 q.br.gt) := by
  refine ⟨?_, ?_, ?_, ?_, ?_, ?_, ?_, ?_, ?_, ?_, ?_, ?_, ?_, ?_⟩ <;> simp [World.cell?, h]

section
variable {w0 V W : World} {b bm : Nat} {K : List (Nat × Obj)} {i c k : Nat} {st : St} {m : Ms} {q : Dd} {a : Option Addr} {cc : Nat}

theorem dd3 (h : Two w0 W b bm ((k, DdO q a cc) :: K) c st m) : W.cell? ⟨k, 1, none⟩ = some (.int .i64 q.dir) ∧ W.cell? ⟨k, 2, none⟩ = some (.string (bs q.name)) ∧ W.cell? ⟨k, 3, none⟩ = some (.string (bs q.more)) := by
  obtain ⟨c0, c1, c2, c3, _⟩ := dd_cells (h.at_ (List.mem_cons_self))
  exact ⟨c1, c2, c3⟩
theorem dd2 (h : Two w0 W b bm ((k, DdO q a cc) :: K) c st m) : W.cell? ⟨k, 1, none⟩ = some (.int .i64 q.dir) ∧ W.cell? ⟨k, 2, none⟩ = some (.string (bs q.name)) := by
  obtain ⟨c0, c1, c2, c3, _⟩ := dd_cells (h.at_ (List.mem_cons_self))
  exact ⟨c1, c2⟩
theorem dd9 (h : Two w0 W b bm ((k, DdO q a cc) :: K) c st m) : W.cell? ⟨k, 1, none⟩ = some (.int .i64 q.dir) ∧ W.cell? ⟨k, 2, none⟩ = some (.string (bs q.name)) ∧ W.cell? ⟨k, 9, none⟩ = some (.slice a q.br.acl.length cc) := by
  obtain ⟨c0, c1, c2, c3, c4, c5, c6, c7, c8, c9, _⟩ := dd_cells (h.at_ (List.mem_cons_self))
  exact ⟨c1, c2, c9⟩
theorem dd10 (h : Two w0 W b bm ((k, DdO q a cc) :: K) c st m) : W.cell? ⟨k, 1, none⟩ = some (.int .i64 q.dir) ∧ W.cell? ⟨k, 2, none⟩ = some (.string (bs q.name)) ∧ W.cell? ⟨k, 10, none⟩ = some (.int .i64 q.br.r1) ∧ W.cell? ⟨k, 11, none⟩ = some (.int .i64 q.br.r2) ∧ W.cell? ⟨k, 12, none⟩ = some (.int .i64 q.br.r3) ∧ W.cell? ⟨k, 13, none⟩ = some (.int .i64 q.br.gt) := by
  obtain ⟨c0, c1, c2, c3, c4, c5, c6, c7, c8, c9, c10, c11, c12, c13⟩ := dd_cells (h.at_ (List.mem_cons_self))
  exact ⟨c1, c2, c10, c11, c12, c13⟩
theorem dd4 (h : Two w0 W b bm ((k, DdO q a cc) :: K) c st m) : W.cell? ⟨k, 1, none⟩ = some (.int .i64 q.dir) ∧ W.cell? ⟨k, 2, none⟩ = some (.string (bs q.name)) ∧ W.cell? ⟨k, 4, none⟩ = some (.int .i64 q.br.kind) ∧ W.cell? ⟨k, 5, none⟩ = some (.int .i64 q.br.uid) ∧ W.cell? ⟨k, 6, none⟩ = some (.int .i64 q.br.dir) ∧ W.cell? ⟨k, 7, none⟩ = some (.string (bs q.br.link)) ∧ W.cell? ⟨k, 8, none⟩ = some (.bool q.br.obj) ∧ W.cell? ⟨k, 9, none⟩ = some (.slice a q.br.acl.length cc)
      ∧ W.cell? ⟨k, 10, none⟩ = some (.int .i64 q.br.r1) ∧ W.cell? ⟨k, 11, none⟩ = some (.int .i64 q.br.r2) ∧ W.cell? ⟨k, 12, none⟩ = some (.int .i64 q.br.r3) ∧ W.cell? ⟨k, 13, none⟩ = some (.int .i64 q.br.gt) := by
  obtain ⟨c0, c1, c2, c3, c4, c5, c6, c7, c8, c9, c10, c11, c12, c13⟩ := dd_cells (h.at_ (List.mem_cons_self))
  exact ⟨c1, c2, c4, c5, c6, c7, c8, c9, c10, c11, c12, c13⟩

def Did (w0 : World) (b bm : Nat) (K : List (Nat × Obj)) (i : Nat) (e : Ending) (w' : World) : Prop := e = .returned (.bool true) ∧ ∃ c' st' m', Two w0 w' b bm K c' st' m' ∧ Inv (i + 1) c' st' m'
theorem did {k : Nat} {o : Obj} (h : Two w0 W b bm ((k, o) :: K) c st m) (I : Inv (i + 1) c st m) : Did w0 b bm K i (.returned (.bool true)) W := ⟨rfl, c, st, m, h.less (fun _ hp => List.mem_cons_of_mem _ hp), I⟩

set_option maxRecDepth 20000 in
set_option maxHeartbeats 4000000 in
theorem do_name (h : Two w0 V b bm K c st m) (I : Inv i c st m) (hi : i ≤ 121) (ok : DdOk q) (hq : q.what = 5) :
    Calls Tryd.prog 11 #[TP b, TP bm, DdV q a cc] V (Did w0 b bm K i) := by
  obtain ⟨r, st', m', oT, oM, I'⟩ := name_both I q.dir q.name q.more
  have hd := ok.dir
  have hs : q.name.length ≤ maxLen := by have := ok.name; unfold maxLen; omega
  have ht : q.more.length ≤ maxLen := by have := ok.more; unfold maxLen; omega
  have hc : c < 10000 := by have := I.pot; omega
  have hE : m.E.length < 1000 := by have := I.pot; omega
  have e1 : decide (q.what ≤ 4) = false := by simp; omega
  have e2 : (q.what == 5) = true := by simp [hq]
  have T0 := h.alloc (DdO q a cc)
  obtain ⟨c0, _⟩ := dd_cells (T0.at_ List.mem_cons_self)
  have T := Lib.hid T0.drew
  have OT := Lib.hid oT
  have OM := Lib.hid oM
  have HI := Lib.hid I'
  clear T0 oT oM I I' h ok hq
  go_enter Tryd.func11, Tryd.ntmps11
  go_wp2
  have er : (r == r) = true := beq_self_eq_true _
  go_region_held3 (fun W => W.cell? ⟨V.heap.size, 1, none⟩ = some (.int .i64 q.dir) ∧ W.cell? ⟨V.heap.size, 2, none⟩ = some (.string (bs q.name)) ∧ W.cell? ⟨V.heap.size, 3, none⟩ = some (.string (bs q.more)))
    (exact dd3 T.out)
    (first
      | (go_at_call 21; ((refine (tname_do T.out hd hs ht hc OT.out).mono ?_); rintro e w1 ⟨rfl, t1⟩; have T := Lib.hid t1; clear t1))
      | (go_at_call 22; ((refine (mname_do T.out ht hE OM.out).mono ?_); rintro e w1 ⟨rfl, t1⟩; have T := Lib.hid t1; clear t1)))
  all_goals
    go_wp2
    go_ret
    exact did T.out HI.out

set_option maxRecDepth 20000 in
set_option maxHeartbeats 4000000 in
theorem do_un (h : Two w0 V b bm K c st m) (I : Inv i c st m) (hi : i ≤ 121) (ok : DdOk q) (hq : q.what = 6) :
    Calls Tryd.prog 11 #[TP b, TP bm, DdV q a cc] V (Did w0 b bm K i) := by
  obtain ⟨r, st', m', oT, oM, I'⟩ := un_both I q.dir q.name
  have hd := ok.dir
  have hs : q.name.length ≤ maxLen := by have := ok.name; unfold maxLen; omega
  have hc : c < 10000 := by have := I.pot; omega
  have e1 : decide (q.what ≤ 4) = false := by simp; omega
  have e2 : (q.what == 5) = false := by simp [hq]
  have e3 : (q.what == 6) = true := by simp [hq]
  have T0 := h.alloc (DdO q a cc)
  obtain ⟨c0, _⟩ := dd_cells (T0.at_ List.mem_cons_self)
  have T := Lib.hid T0.drew
  have OT := Lib.hid oT
  have OM := Lib.hid oM
  have HI := Lib.hid I'
  clear T0 oT oM I I' h ok hq
  go_enter Tryd.func11, Tryd.ntmps11
  go_wp2
  have er : (r == r) = true := beq_self_eq_true _
  go_region_held3 (fun W => W.cell? ⟨V.heap.size, 1, none⟩ = some (.int .i64 q.dir) ∧ W.cell? ⟨V.heap.size, 2, none⟩ = some (.string (bs q.name)))
    (exact dd2 T.out)
    (first
      | (go_at_call 23; ((refine (tun_do T.out hd hs hc OT.out).mono ?_); rintro e w1 ⟨rfl, t1⟩; have T := Lib.hid t1; clear t1))
      | (go_at_call 24; ((refine (mun_do T.out OM.out).mono ?_); rintro e w1 ⟨rfl, t1⟩; have T := Lib.hid t1; clear t1)))
  all_goals
    go_wp2
    go_ret
    exact did T.out HI.out

set_option maxRecDepth 20000 in
set_option maxHeartbeats 4000000 in
theorem do_acc (h : Two w0 V b bm K c st m) (I : Inv i c st m) (ok : DdOk q) (hr : TRow w0 a cc q.br.acl) (hq : q.what = 8) :
    Calls Tryd.prog 11 #[TP b, TP bm, DdV q a cc] V (Did w0 b bm K i) := by
  obtain ⟨r, st', m', oT, oM, I'⟩ := set_both I q.dir q.name (A.lmay q.br.acl) (fun x => aclB x q.br.acl) (fun _ => rfl) (fun _ => rfl) (fun _ => rfl) (fun _ => rfl)
  have hd := ok.dir
  have hs : q.name.length ≤ maxLen := by have := ok.name; unfold maxLen; omega
  have htx := ok.txt
  have hll : q.br.acl.length ≤ 1000 := by have := ok.acl; omega
  have e1 : decide (q.what ≤ 4) = false := by simp; omega
  have e2 : (q.what == 5) = false := by simp [hq]
  have e3 : (q.what == 6) = false := by simp [hq]
  have e4 : (q.what == 7) = false := by simp [hq]
  have e5 : (q.what == 8) = true := by simp [hq]
  have T0 := h.alloc (DdO q a cc)
  obtain ⟨c0, _⟩ := dd_cells (T0.at_ List.mem_cons_self)
  have T := Lib.hid T0.drew
  have HR := Lib.hid hr
  have HT := Lib.hid htx
  have OT : Hid (SetT st q.dir q.name (A.lmay q.br.acl) (fun x => aclX x q.br.acl) r st') := Lib.hid oT
  have OM := Lib.hid oM
  have HI := Lib.hid I'
  clear T0 oT oM I I' h ok hq hr htx
  go_enter Tryd.func11, Tryd.ntmps11
  go_wp2
  have er : (r == r) = true := beq_self_eq_true _
  go_region_held3 (fun W => W.cell? ⟨V.heap.size, 1, none⟩ = some (.int .i64 q.dir) ∧ W.cell? ⟨V.heap.size, 2, none⟩ = some (.string (bs q.name)) ∧ W.cell? ⟨V.heap.size, 9, none⟩ = some (.slice a q.br.acl.length cc))
    (exact dd9 T.out)
    (first
      | (go_at_call 27; ((refine (tacc_do T.out hd hs (HR.out.below T.out.bel) HT.out OT.out).mono ?_); rintro e w1 ⟨rfl, t1⟩; have T := Lib.hid t1; clear t1))
      | (go_at_call 28; ((refine (macc_do T.out (HR.out.below T.out.bel) HT.out hll OM.out).mono ?_); rintro e w1 ⟨rfl, t1⟩; have T := Lib.hid t1; clear t1)))
  all_goals
    go_wp2
    go_ret
    exact did T.out HI.out

set_option maxRecDepth 20000 in
set_option maxHeartbeats 4000000 in
theorem do_ring (h : Two w0 V b bm K c st m) (I : Inv i c st m) (ok : DdOk q) (h4 : ¬ q.what ≤ 4) (h5 : ¬ q.what = 5) (h6 : ¬ q.what = 6) (h7 : ¬ q.what = 7) (h8 : ¬ q.what = 8) :
    Calls Tryd.prog 11 #[TP b, TP bm, DdV q a cc] V (Did w0 b bm K i) := by
  obtain ⟨r, st', m', oT, oM, I'⟩ := set_both I q.dir q.name (W.bmay q.br.r1 q.br.r2 q.br.r3 q.br.gt) (fun x => ringB x q.br.r1 q.br.r2 q.br.r3 q.br.gt) (fun _ => rfl) (fun _ => rfl) (fun _ => rfl) (fun _ => rfl)
  have hd := ok.dir
  have hs : q.name.length ≤ maxLen := by have := ok.name; unfold maxLen; omega
  have e1 : decide (q.what ≤ 4) = false := by simp; omega
  have e2 : (q.what == 5) = false := by simp [h5]
  have e3 : (q.what == 6) = false := by simp [h6]
  have e4 : (q.what == 7) = false := by simp [h7]
  have e5 : (q.what == 8) = false := by simp [h8]
  have T0 := h.alloc (DdO q a cc)
  obtain ⟨c0, _⟩ := dd_cells (T0.at_ List.mem_cons_self)
  have T := Lib.hid T0.drew
  have OT : Hid (SetT st q.dir q.name (W.bmay q.br.r1 q.br.r2 q.br.r3 q.br.gt) (fun x => ringX x q.br.r1 q.br.r2 q.br.r3 q.br.gt) r st') := Lib.hid oT
  have OM := Lib.hid oM
  have HI := Lib.hid I'
  clear T0 oT oM I I' h ok h4 h5 h6 h7 h8
  go_enter Tryd.func11, Tryd.ntmps11
  go_wp2
  have er : (r == r) = true := beq_self_eq_true _
  go_region_held3 (fun W => W.cell? ⟨V.heap.size, 1, none⟩ = some (.int .i64 q.dir) ∧ W.cell? ⟨V.heap.size, 2, none⟩ = some (.string (bs q.name)) ∧ W.cell? ⟨V.heap.size, 10, none⟩ = some (.int .i64 q.br.r1) ∧ W.cell? ⟨V.heap.size, 11, none⟩ = some (.int .i64 q.br.r2) ∧ W.cell? ⟨V.heap.size, 12, none⟩ = some (.int .i64 q.br.r3) ∧ W.cell? ⟨V.heap.size, 13, none⟩ = some (.int .i64 q.br.gt))
    (exact dd10 T.out)
    (first
      | (go_at_call 29; ((refine (tring_do T.out hd hs OT.out).mono ?_); rintro e w1 ⟨rfl, t1⟩; have T := Lib.hid t1; clear t1))
      | (go_at_call 30; ((refine (mring_do T.out OM.out).mono ?_); rintro e w1 ⟨rfl, t1⟩; have T := Lib.hid t1; clear t1)))
  all_goals
    go_wp2
    go_ret
    exact did T.out HI.out

set_option maxRecDepth 20000 in
set_option maxHeartbeats 4000000 in
theorem do_add (h : Two w0 V b bm K c st m) (I : Inv i c st m) (hi : i ≤ 121) (hg : Glob w0) (ok : DdOk q) (hr : TRow w0 a cc q.br.acl) (hq : q.what ≤ 4) :
    Calls Tryd.prog 11 #[TP b, TP bm, DdV q a cc] V (Did w0 b bm K i) := by
  obtain ⟨f, R⟩ := I.rel
  have hd := ok.dir
  have hs : q.name.length ≤ maxLen := by have := ok.name; unfold maxLen; omega
  have hl : q.br.link.length ≤ maxLen := by have := ok.link; unfold maxLen; omega
  have htx := ok.txt
  have hal : q.br.acl.length ≤ 1000 := by have := ok.acl; omega
  have hu := ok.uid
  have hc : c < 10000 := by have := I.pot; omega
  have hE : m.E.length < 1000 := by have := I.pot; omega
  have hB : m.B.length < 1000 := by have := I.nB; omega
  have hD : m.D.length < 1000 := by have := I.nD; omega
  have e1 : decide (q.what ≤ 4) = true := by simp; omega
  have T0 := h.alloc (DdO q a cc)
  obtain ⟨c0, _⟩ := dd_cells (T0.at_ List.mem_cons_self)
  have T := Lib.hid T0.drew
  have HR := Lib.hid hr
  have HT := Lib.hid htx
  have HG := Lib.hid hg
  have HI := Lib.hid I
  have RR := Lib.hid R
  clear T0 I h ok hq hr htx hg R
  go_enter Tryd.func11, Tryd.ntmps11
  go_wp2
  go_region_held3 (fun W => W.cell? ⟨V.heap.size, 1, none⟩ = some (.int .i64 q.dir) ∧ W.cell? ⟨V.heap.size, 2, none⟩ = some (.string (bs q.name)) ∧ W.cell? ⟨V.heap.size, 4, none⟩ = some (.int .i64 q.br.kind) ∧ W.cell? ⟨V.heap.size, 5, none⟩ = some (.int .i64 q.br.uid) ∧ W.cell? ⟨V.heap.size, 6, none⟩ = some (.int .i64 q.br.dir) ∧ W.cell? ⟨V.heap.size, 7, none⟩ = some (.string (bs q.br.link)) ∧ W.cell? ⟨V.heap.size, 8, none⟩ = some (.bool q.br.obj) ∧ W.cell? ⟨V.heap.size, 9, none⟩ = some (.slice a q.br.acl.length cc)
      ∧ W.cell? ⟨V.heap.size, 10, none⟩ = some (.int .i64 q.br.r1) ∧ W.cell? ⟨V.heap.size, 11, none⟩ = some (.int .i64 q.br.r2) ∧ W.cell? ⟨V.heap.size, 12, none⟩ = some (.int .i64 q.br.r3) ∧ W.cell? ⟨V.heap.size, 13, none⟩ = some (.int .i64 q.br.gt))
    (exact dd4 T.out)
    (first
      | (go_at_call 19; ((refine (made_any q.br a q.br.acl.length cc).mono ?_); rintro e w1 ⟨rfl, b1⟩; have T := Lib.hid (T.out.below b1); clear b1))
      | (go_at_call 18; ((refine (tadd_do T.out RR.out HG.out hd hs (HR.out.below T.out.bel) HT.out hl hu hc).mono ?_); rintro e w2 ⟨n, E, st', rfl, o2, t2⟩; have T := Lib.hid t2; have OT := Lib.hid o2; clear o2 t2)))
  obtain ⟨m', oM, I'⟩ := add_both HI.out OT.out
  obtain ⟨d0, d1, d2, d3, d4, d5, d6, d7, d8, d9, d10, d11, d12, d13⟩ := dd_cells (T.out.at_ List.mem_cons_self)
  have OM := Lib.hid oM
  have HI' := Lib.hid I'
  have en : (n == n) = true := beq_self_eq_true _
  have eE : (E == E) = true := beq_self_eq_true _
  clear oM I'
  go_wp2_with (go_at_call 20; ((refine (madd_do T.out hs (HR.out.below T.out.bel) HT.out hl hal hB hE hD OM.out).mono ?_); rintro e w3 ⟨rfl, t3⟩; have T := Lib.hid t3; clear t3))
  go_ret
  exact did T.out HI'.out

end

end Go.Proofs.YtpcdcmoapenbdaaDoor.T

namespace Go.Proofs.YtpcdcmoapenbdaaDoor.T
open Go.ChangeShapes Go.WideShapes Go.ChangeAt Go.RowKit
open Go.Proofs.YtpcdcmoapenbdaaDoor.N (bs bs_data bs_size bs_inj bs_of Glob)
open Go.Proofs.YtpcdcmoapenbdaaDoor.A (Tm TRow)

section
variable {w0 V W : World} {b bm : Nat} {K : List (Nat × Obj)} {i c k : Nat} {st : St} {m : Ms} {q : Dd} {a : Option Addr} {cc : Nat}

theorem row_over {w1 w2 : World} {K1 K2 : List (Nat × Obj)} {c1 c2 : Nat} {st1 st2 : St} {m1 m2 : Ms} (h1 : Two w0 w1 b bm K1 c1 st1 m1) (h2 : Two w0 w2 b bm K2 c2 st2 m2) (sub : ∀ p ∈ K1, p ∈ K2) (hs : w1.heap.size ≤ w2.heap.size) {l : List Tm} (hk : ∀ ad, a = some ad → ∃ o, (ad.block, o) ∈ K1) (r : TRow w1 a cc l) : TRow w2 a cc l :=
  trow_kept r hs (fun ad e => by
    obtain ⟨o, ho⟩ := hk ad e
    rw [h1.at_ ho, h2.at_ (sub _ ho)])

/-- what was handed out by both, boxed -/
structure DelS (W : World) (k1 k2 : Nat) (y : Br) (a1 a2 : Option Addr) (c1 c2 : Nat) : Prop where
  x1 : BrAt W k1 y (.slice a1 y.acl.length c1)
  x2 : BmAt W k2 y (.slice a2 y.acl.length c2)
  q1 : TRow W a1 c1 y.acl
  q2 : TRow W a2 c2 y.acl
theorem DelS.below {W' : World} {k1 k2 : Nat} {y : Br} {a1 a2 : Option Addr} {c1 c2 : Nat} (h : DelS W k1 k2 y a1 a2 c1 c2) (hb : Below W.heap.size W W') : DelS W' k1 k2 y a1 a2 c1 c2 := ⟨h.x1.below hb, h.x2.below hb, h.q1.below hb, h.q2.below hb⟩
theorem DelS.cells {k1 k2 : Nat} {y : Br} {a1 a2 : Option Addr} {c1 c2 : Nat} (h : DelS W k1 k2 y a1 a2 c1 c2) :
    (W.cell? ⟨k1, 0, none⟩ = some (.int .i64 y.kind) ∧ W.cell? ⟨k1, 1, none⟩ = some (.int .i64 y.uid) ∧ W.cell? ⟨k1, 2, none⟩ = some (.int .i64 y.dir) ∧ W.cell? ⟨k1, 3, none⟩ = some (.string (bs y.link)) ∧ W.cell? ⟨k1, 4, none⟩ = some (.bool y.obj) ∧ W.cell? ⟨k1, 5, none⟩ = some (.slice a1 y.acl.length c1) ∧ W.cell? ⟨k1, 6, none⟩ = some (.int .i64 y.r1) ∧ W.cell? ⟨k1, 7, none⟩ = some (.int .i64 y.r2) ∧ W.cell? ⟨k1, 8, none⟩ = some (.int .i64 y.r3) ∧ W.cell? ⟨k1, 9, none⟩ = some (.int .i64 y.gt))
    ∧ (W.cell? ⟨k2, 0, none⟩ = some (.int .i64 y.kind) ∧ W.cell? ⟨k2, 1, none⟩ = some (.int .i64 y.uid) ∧ W.cell? ⟨k2, 2, none⟩ = some (.int .i64 y.dir) ∧ W.cell? ⟨k2, 3, none⟩ = some (.string (bs y.link)) ∧ W.cell? ⟨k2, 4, none⟩ = some (.bool y.obj) ∧ W.cell? ⟨k2, 5, none⟩ = some (.slice a2 y.acl.length c2) ∧ W.cell? ⟨k2, 6, none⟩ = some (.int .i64 y.r1) ∧ W.cell? ⟨k2, 7, none⟩ = some (.int .i64 y.r2) ∧ W.cell? ⟨k2, 8, none⟩ = some (.int .i64 y.r3) ∧ W.cell? ⟨k2, 9, none⟩ = some (.int .i64 y.gt)) := ⟨h.x1.cell, h.x2.cell⟩

theorem del_boxed {w1 w2 : World} {K1 : List (Nat × Obj)} {c1 : Nat} {st1 : St} {m1 m2 : Ms} {y : Br} {a1 a2 : Option Addr} {c2 c3 : Nat} (h1 : Two w0 w1 b bm K1 c1 st1 m1) (hk : ∀ ad, a1 = some ad → ∃ o, (ad.block, o) ∈ K1) (r : TRow w1 a1 c2 y.acl) (h2 : Two w0 w2 b bm ((w1.heap.size, BrO y (.slice a1 y.acl.length c2)) :: K1) c1 st1 m2) (r2 : TRow w2 a2 c3 y.acl) :
    DelS (w2.alloc (BmO y (.slice a2 y.acl.length c3))) w1.heap.size w2.heap.size y a1 a2 c2 c3 where
  x1 := BrAt.below (h2.at_ List.mem_cons_self) (one_new _ _)
  x2 := heap_alloc_new _ _
  q1 := (row_over h1 h2 (fun _ hp => List.mem_cons_of_mem _ hp) (Nat.le_of_lt (heap_lt (h2.at_ List.mem_cons_self))) hk r).below (one_new _ _)
  q2 := r2.below (one_new _ _)

set_option maxRecDepth 20000 in
set_option maxHeartbeats 4000000 in
theorem do_del (h : Two w0 V b bm K c st m) (I : Inv i c st m) (hi : i ≤ 121) (ok : DdOk q) (hq : q.what = 7) :
    Calls Tryd.prog 11 #[TP b, TP bm, DdV q a cc] V (Did w0 b bm K i) := by
  obtain ⟨r, y, c', st', m', oT, oM, I'⟩ := del_both I q.dir q.name
  have hd := ok.dir
  have hs : q.name.length ≤ maxLen := by have := ok.name; unfold maxLen; omega
  have hc : c < 10000 := by have := I.pot; omega
  have e1 : decide (q.what ≤ 4) = false := by simp; omega
  have e2 : (q.what == 5) = false := by simp [hq]
  have e3 : (q.what == 6) = false := by simp [hq]
  have e4 : (q.what == 7) = true := by simp [hq]
  have T0 := h.alloc (DdO q a cc)
  obtain ⟨c0, c1, c2, _⟩ := dd_cells (T0.at_ List.mem_cons_self)
  have T := Lib.hid T0
  have OT := Lib.hid oT
  have OM := Lib.hid oM
  have HI := Lib.hid I'
  clear T0 oT oM I I' h ok hq
  go_enter Tryd.func11, Tryd.ntmps11
  have er : (r == r) = true := beq_self_eq_true _
  go_wp2_with (first
    | (go_at_call 25; ((refine (tdel_do T.out hd hs hc OT.out).mono ?_); rintro e w1 ⟨a1, c1', K1, rfl, r1, l1, s1, t1, k1⟩; obtain ⟨_, p1, p2, _⟩ := dd_cells (t1.at_ (s1 _ List.mem_cons_self)); have hlt := heap_lt (t1.at_ (s1 _ List.mem_cons_self)); have T1 := Lib.hid t1; have S1 := Lib.hid s1; have R1 := Lib.hid r1; have KK := Lib.hid k1; clear t1 s1 r1 k1))
    | (go_at_call 26; ((refine (mdel_do (T1.out.alloc (BrO y (.slice a1 y.acl.length c1'))) OM.out).mono ?_); rintro e w2 ⟨a2, c2', rfl, r2, t2⟩; have T2 := Lib.hid t2; have R2 := Lib.hid r2; clear t2 r2)))
  have TT := Lib.hid ((T2.out.less (K' := K) (fun p hp => List.mem_cons_of_mem _ (S1.out p (List.mem_cons_of_mem _ hp)))).below (one_new w2 (BmO y (.slice a2 y.acl.length c2')))).drew
  have DS := Lib.hid ((del_boxed T1.out KK.out R1.out T2.out R2.out).below (Below.refl _ _).drew)
  clear T1 T2 R1 R2 S1 KK T p1 p2 hlt c0 c1 c2
  go_region_held3 (fun W => (W.cell? ⟨w1.heap.size, 0, none⟩ = some (.int .i64 y.kind) ∧ W.cell? ⟨w1.heap.size, 1, none⟩ = some (.int .i64 y.uid) ∧ W.cell? ⟨w1.heap.size, 2, none⟩ = some (.int .i64 y.dir) ∧ W.cell? ⟨w1.heap.size, 3, none⟩ = some (.string (bs y.link)) ∧ W.cell? ⟨w1.heap.size, 4, none⟩ = some (.bool y.obj) ∧ W.cell? ⟨w1.heap.size, 5, none⟩ = some (.slice a1 y.acl.length c1') ∧ W.cell? ⟨w1.heap.size, 6, none⟩ = some (.int .i64 y.r1) ∧ W.cell? ⟨w1.heap.size, 7, none⟩ = some (.int .i64 y.r2) ∧ W.cell? ⟨w1.heap.size, 8, none⟩ = some (.int .i64 y.r3) ∧ W.cell? ⟨w1.heap.size, 9, none⟩ = some (.int .i64 y.gt))
    ∧ (W.cell? ⟨w2.heap.size, 0, none⟩ = some (.int .i64 y.kind) ∧ W.cell? ⟨w2.heap.size, 1, none⟩ = some (.int .i64 y.uid) ∧ W.cell? ⟨w2.heap.size, 2, none⟩ = some (.int .i64 y.dir) ∧ W.cell? ⟨w2.heap.size, 3, none⟩ = some (.string (bs y.link)) ∧ W.cell? ⟨w2.heap.size, 4, none⟩ = some (.bool y.obj) ∧ W.cell? ⟨w2.heap.size, 5, none⟩ = some (.slice a2 y.acl.length c2') ∧ W.cell? ⟨w2.heap.size, 6, none⟩ = some (.int .i64 y.r1) ∧ W.cell? ⟨w2.heap.size, 7, none⟩ = some (.int .i64 y.r2) ∧ W.cell? ⟨w2.heap.size, 8, none⟩ = some (.int .i64 y.r3) ∧ W.cell? ⟨w2.heap.size, 9, none⟩ = some (.int .i64 y.gt)))
    (exact DS.out.cells)
    (first
      | (go_at_call 17; ((refine (model_any y a1 y.acl.length c1').mono ?_); rintro e w3 ⟨rfl, b3⟩; have DS := Lib.hid (DS.out.below b3); have TT := Lib.hid (TT.out.below b3); clear b3))
      | (go_at_call 16; ((refine (sameBr_yes y DS.out.q1 DS.out.q2 l1).mono ?_); rintro e w4 ⟨rfl, b4⟩; have DS := Lib.hid (DS.out.below b4); have TT := Lib.hid (TT.out.below b4); clear b4)))
  go_wp2
  go_ret
  exact ⟨rfl, _, _, _, TT.out, HI.out⟩

/-- any deed -/
theorem do_any (h : Two w0 V b bm K c st m) (I : Inv i c st m) (hi : i ≤ 121) (hg : Glob w0) (ok : DdOk q) (hr : TRow w0 a cc q.br.acl) :
    Calls Tryd.prog 11 #[TP b, TP bm, DdV q a cc] V (Did w0 b bm K i) := by
  by_cases h4 : q.what ≤ 4
  · exact do_add h I hi hg ok hr h4
  by_cases h5 : q.what = 5
  · exact do_name h I hi ok h5
  by_cases h6 : q.what = 6
  · exact do_un h I hi ok h6
  by_cases h7 : q.what = 7
  · exact do_del h I hi ok h7
  by_cases h8 : q.what = 8
  · exact do_acc h I ok hr h8
  exact do_ring h I ok h4 h5 h6 h7 h8

end

end Go.Proofs.YtpcdcmoapenbdaaDoor.T
