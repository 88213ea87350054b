/-
  The document's own tree: what only reads: at, dir, names, uid, Look.
-/
import Derived.Test.YtdlgliajfmfngaaDoorMHeap
import Derived.IntWalk
namespace Go.Proofs.YtdlgliajfmfngaaDoor.T
open Go.ChangeShapes Go.WideShapes Go.ChangeAt Go.RowKit
open Go.Proofs.YtdlgliajfmfngaaDoor.N (bs bs_data bs_size bs_inj bs_of Glob txt_same txt_other)
open Go.Proofs.YtdlgliajfmfngaaDoor.A (Tm TRow)

def isAt (d : Int) (s : Txt) (e : En) : Bool := decide (e.1 = d) && decide (e.2.2 = s)
def at? (E : List En) (d : Int) (s : Txt) : Option Nat := E.findIdx? (isAt d s)
def atN : Option Nat → Int
  | none => -1
  | some k => k
theorem at_some {E : List En} {d : Int} {s : Txt} {k : Nat} (hk : k < E.length) (h : isAt d s E[k] = true) (hb : ∀ j (hj : j < k), isAt d s (E[j]'(by omega)) = false) : at? E d s = some k := by
  unfold at?
  rw [List.findIdx?_eq_some_iff_getElem]
  exact ⟨hk, h, fun j hj => by simp [hb j hj]⟩
theorem at_none {E : List En} {d : Int} {s : Txt} (h : ∀ j (hj : j < E.length), isAt d s E[j] = false) : at? E d s = none := by
  unfold at?
  rw [List.findIdx?_eq_none_iff]
  intro x hx
  obtain ⟨j, hj, rfl⟩ := List.mem_iff_getElem.1 hx
  exact h j hj

section
variable {w : World} {b : Nat} {F : Nat → Prop} {m : Ms}

set_option maxHeartbeats 1000000 in
theorem mat_any (h : MAt w b F m) (d : Int) (s : Txt) :
    Calls Tryd.prog 48 #[TP b, .int .i64 d, .string (bs s)] w fun e w' => e = .returned (.int .i64 (atN (at? m.E d s))) ∧ w = w' := by
  obtain ⟨bl, vB, vL, vD, h, _⟩ := h
  have H := Lib.hid h
  obtain ⟨a, cap, rfl, hc, hn, hg⟩ := h.eForm
  have c1 := h.c1
  have hlen := h.len.2.1
  have hlt := h.lt
  clear h
  go_enter Tryd.func48, Tryd.ntmps48
  go_wp2
  go_loop [7] (fun i => ∃ k : Nat, k ≤ m.E.length ∧ i = .int .i64 k ∧ Hid (∀ j (hj : j < m.E.length), j < k → isAt d s m.E[j] = false)) (fun i => m.E.length - (intOf i).toNat)
  case atStart => exact ⟨0, Nat.zero_le _, rfl, Lib.hid (fun j _ h => by omega)⟩
  case round =>
    obtain ⟨k, hk, rfl, HJ⟩ := hrel
    by_cases hkl : k < m.E.length
    · obtain ⟨g, rfl, hgl, e0, e1, e2⟩ := H.out.eAt hkl
      by_cases hd : m.E[k].1 = d
      · by_cases hs : m.E[k].2.2 = s
        · have t1 : (m.E[k].1 == d) = true := by simpa using hd
          have t2 := txt_same hs
          have HR : Hid (at? m.E d s = some k) := Lib.hid (at_some hkl (by simp [isAt, hd, hs]) (fun j hj => HJ.out j (by omega) hj))
          clear hd hs
          go_wp2
          go_ret
          exact ⟨by rw [HR.out]; rfl, rfl⟩
        · have t1 : (m.E[k].1 == d) = true := by simpa using hd
          have t2 := txt_other hs
          have HJ' : Hid (∀ j (hj : j < m.E.length), j < k + 1 → isAt d s m.E[j] = false) := Lib.hid (fun j hj hjk => by
            by_cases e : j = k
            · subst e; simp [isAt, hs]
            · exact HJ.out j hj (by omega))
          clear hd hs
          go_wp2
          go_round
          case rel => exact ⟨k + 1, by omega, by go_num, HJ'⟩
          case measure => simp [intOf]; omega
      · have t1 : (m.E[k].1 == d) = false := by simpa using hd
        have HJ' : Hid (∀ j (hj : j < m.E.length), j < k + 1 → isAt d s m.E[j] = false) := Lib.hid (fun j hj hjk => by
          by_cases e : j = k
          · subst e; simp [isAt, hd]
          · exact HJ.out j hj (by omega))
        clear hd
        go_wp2
        go_round
        case rel => exact ⟨k + 1, by omega, by go_num, HJ'⟩
        case measure => simp [intOf]; omega
    · obtain rfl : k = m.E.length := by omega
      have HR : Hid (at? m.E d s = none) := Lib.hid (at_none (fun j hj => HJ.out j hj hj))
      go_wp2
      go_ret
      exact ⟨by rw [HR.out]; rfl, rfl⟩

/-- is there such a directory? -/
def isMD (D : List Bool) (d : Int) : Bool := decide (0 ≤ d) && (D[d.toNat]?).getD false

theorem mdir_any (h : MAt w b F m) (d : Int) :
    Calls Tryd.prog 68 #[TP b, .int .i64 d] w fun e w' => e = .returned (.bool (isMD m.D d)) ∧ w = w' := by
  obtain ⟨bl, vB, vL, vD, h, _⟩ := h
  have H := Lib.hid h
  obtain ⟨a, cap, rfl, hc, hg, hn⟩ := row_form h.rD
  have c2 := h.c2
  have hlen := h.len.2.2
  have hlt := h.lt
  clear h
  by_cases h0 : 0 ≤ d
  · by_cases h1 : d < m.D.length
    · obtain ⟨k, rfl⟩ := Int.eq_ofNat_of_zero_le h0
      have hk : k < m.D.length := by omega
      obtain ⟨g, rfl, _, _, hgl, e0, _⟩ := H.out.dAt hk
      have HR : Hid (isMD m.D (k : Int) = m.D[k]) := Lib.hid (by simp [isMD, hk])
      clear h0 h1
      go_enter Tryd.func68, Tryd.ntmps68
      go_wp2
      go_ret
      exact ⟨by rw [HR.out]; rfl, rfl⟩
    · have HR : Hid (isMD m.D d = false) := Lib.hid (by
        have : m.D[d.toNat]? = none := List.getElem?_eq_none (by omega)
        simp [isMD, this])
      go_enter Tryd.func68, Tryd.ntmps68
      go_wp2
      go_ret
      exact ⟨by rw [HR.out]; rfl, rfl⟩
  · have HR : Hid (isMD m.D d = false) := Lib.hid (by simp [isMD, h0])
    go_enter Tryd.func68, Tryd.ntmps68
    go_wp2
    go_ret
    exact ⟨by rw [HR.out]; rfl, rfl⟩

/-- how many names a branch has -/
def cntI (E : List En) (id : Nat) : Nat := (E.filter fun e => decide (e.2.1 = id)).length
def cntD (E : List En) (d : Int) : Nat := (E.filter fun e => decide (e.1 = d)).length
theorem cnt_take {p : En → Bool} {E : List En} {k : Nat} (hk : k < E.length) : ((E.take (k + 1)).filter p).length = ((E.take k).filter p).length + (if p E[k] = true then 1 else 0) := by
  rw [List.take_succ_eq_append_getElem hk, List.filter_append, List.length_append]
  by_cases h : p E[k] = true <;> simp [h]
theorem cnt_le (p : En → Bool) (E : List En) (k : Nat) : ((E.take k).filter p).length ≤ k := by
  have h1 := List.length_filter_le p (E.take k)
  have h2 := List.length_take_le k E
  omega

set_option maxHeartbeats 1000000 in
theorem mnames_any (h : MAt w b F m) (id : Nat) :
    Calls Tryd.prog 53 #[TP b, .int .i64 (id : Int)] w fun e w' => e = .returned (.int .i64 (cntI m.E id)) ∧ w = w' := by
  obtain ⟨bl, vB, vL, vD, h, _⟩ := h
  have H := Lib.hid h
  obtain ⟨a, cap, rfl, hc, hn, hg⟩ := h.eForm
  have c1 := h.c1
  have hlen := h.len.2.1
  have hlt := h.lt
  clear h
  go_enter Tryd.func53, Tryd.ntmps53
  go_wp2
  go_loop [5, 6] (fun n i => ∃ k c : Nat, k ≤ m.E.length ∧ i = .int .i64 k ∧ n = .int .i64 c ∧ c ≤ k ∧ Hid (((m.E.take k).filter fun e => decide (e.2.1 = id)).length = c)) (fun _ i => m.E.length - (intOf i).toNat)
  case atStart => exact ⟨0, 0, Nat.zero_le _, rfl, rfl, Nat.le_refl _, Lib.hid rfl⟩
  case round =>
    obtain ⟨k, c, hk, rfl, rfl, hck, HC⟩ := hrel
    by_cases hkl : k < m.E.length
    · obtain ⟨g, rfl, hgl, e0, e1, e2⟩ := H.out.eAt hkl
      have HT := Lib.hid (cnt_take (p := fun e => decide (e.2.1 = id)) hkl)
      by_cases hd : m.E[k].2.1 = id
      · have t1 : ((m.E[k].2.1 : Int) == (id : Int)) = true := by rw [beq_iff_eq]; omega
        have HC' : Hid (((m.E.take (k + 1)).filter fun e => decide (e.2.1 = id)).length = c + 1) := Lib.hid (by rw [HT.out, HC.out]; simp [hd])
        clear hd
        go_wp2
        go_round
        case rel => exact ⟨k + 1, c + 1, by omega, by go_num, by go_num, by omega, HC'⟩
        case measure => simp [intOf]; omega
      · have t1 : ((m.E[k].2.1 : Int) == (id : Int)) = false := by rw [beq_eq_false_iff_ne]; omega
        have HC' : Hid (((m.E.take (k + 1)).filter fun e => decide (e.2.1 = id)).length = c) := Lib.hid (by rw [HT.out, HC.out]; simp [hd])
        clear hd
        go_wp2
        go_round
        case rel => exact ⟨k + 1, c, by omega, by go_num, rfl, by omega, HC'⟩
        case measure => simp [intOf]; omega
    · obtain rfl : k = m.E.length := by omega
      have HR : Hid (cntI m.E id = c) := Lib.hid (by have := HC.out; rw [List.take_length] at this; exact this)
      go_wp2
      go_ret
      exact ⟨by rw [HR.out]; rfl, rfl⟩

/-- is a segment with that number named? -/
def isU (B : List Br) (u : Int) (e : En) : Bool := match B[e.2.1]? with
  | some x => decide (x.kind = 1) && decide (x.uid = u)
  | none => false
def hasU (m : Ms) (u : Int) : Bool := m.E.any (isU m.B u)

theorem any_step {p : En → Bool} {E : List En} {k : Nat} (h : ∀ j (hj : j < E.length), j < k → p E[j] = false) (hk : k = E.length) : E.any p = false := by
  rw [List.any_eq_false]
  intro x hx
  obtain ⟨j, hj, rfl⟩ := List.mem_iff_getElem.1 hx
  simp [h j hj (by omega)]
theorem any_hit {p : En → Bool} {E : List En} {k : Nat} (hk : k < E.length) (h : p E[k] = true) : E.any p = true := List.any_eq_true.2 ⟨_, List.getElem_mem hk, h⟩

set_option maxHeartbeats 2000000 in
theorem muid_any (h : MAt w b F m) (u : Int) :
    Calls Tryd.prog 71 #[TP b, .int .i64 u] w fun e w' => ∃ r : Int, e = .returned (.int .i64 r) ∧ decide (0 ≤ r) = hasU m u ∧ ∃ n, w' = w.drewN n := by
  obtain ⟨bl, vB, vL, vD, h, hB⟩ := h
  have H := Lib.hid h
  obtain ⟨a, cap, rfl, hc, hn, hg⟩ := h.eForm
  obtain ⟨a2, cap2, rfl, hc2, hg2, hn2⟩ := row_form h.rB
  have c0 := h.c0
  have c1 := h.c1
  have hlen := h.len.2.1
  have hlenB := h.len.1
  have hlt := h.lt
  have HI := Lib.hid h.ids
  have HB := Lib.hid hB
  clear h hB
  go_enter Tryd.func71, Tryd.ntmps71
  go_wp2
  go_loopw [5] (fun i W => ∃ k n : Nat, k ≤ m.E.length ∧ i = .int .i64 k ∧ W = w.drewN n ∧ Hid (∀ j (hj : j < m.E.length), j < k → isU m.B u m.E[j] = false)) (fun i _ => m.E.length - (intOf i).toNat)
  case atStart => exact ⟨0, 0, Nat.zero_le _, rfl, rfl, Lib.hid (fun j _ h => by omega)⟩
  case round =>
    obtain ⟨k, n, hk, rfl, rfl, HJ⟩ := hrel
    by_cases hkl : k < m.E.length
    · obtain ⟨g, rfl, hgl, e0, e1, e2⟩ := H.out.eAt hkl
      have hid := HI.out m.E[k] (List.getElem_mem hkl)
      obtain ⟨g2, rfl, _, _, hgl2, hcb, _⟩ := H.out.bAt hid
      have b0 : w.cell? ⟨g2, m.E[k].2.1 * 10, none⟩ = some (.int .i64 (bl[m.E[k].2.1]).1.kind) := hcb 0 (by omega)
      have b1 : w.cell? ⟨g2, m.E[k].2.1 * 10 + 1, none⟩ = some (.int .i64 (bl[m.E[k].2.1]).1.uid) := hcb 1 (by omega)
      have HX : Hid (m.B[m.E[k].2.1]? = some (bl[m.E[k].2.1]).1) := Lib.hid (by rw [← HB.out, List.getElem?_map, List.getElem?_eq_getElem hid]; rfl)
      generalize (bl[m.E[k].2.1]).1 = x at b0 b1 HX
      generalize hii : m.E[k].2.1 = ii at e1 b0 b1 hid
      have HII := Lib.hid hii
      clear hcb hii
      by_cases h1 : x.kind = 1
      · by_cases h2 : x.uid = u
        · have t1 : (x.kind == 1) = true := by simpa using h1
          have t2 : (x.uid == u) = true := by simpa using h2
          have HR : Hid (hasU m u = true) := Lib.hid (any_hit hkl (by simp [isU, HX.out, h1, h2]))
          clear h1 h2
          go_wp2
          go_quiet (fail)
          go_wp2
          go_ret
          exact ⟨ii, rfl, by rw [HR.out]; simp, n + nq, by first | rfl | rw [World.drewN_drewN]⟩
        · have t1 : (x.kind == 1) = true := by simpa using h1
          have t2 : (x.uid == u) = false := by simpa using h2
          have HJ' : Hid (∀ j (hj : j < m.E.length), j < k + 1 → isU m.B u m.E[j] = false) := Lib.hid (fun j hj hjk => by
            by_cases e : j = k
            · subst e; simp [isU, HX.out, h1, h2]
            · exact HJ.out j hj (by omega))
          clear h1 h2
          go_wp2
          go_quiet (fail)
          go_wp2
          go_roundw
          case rel => exact ⟨k + 1, n + nq, by omega, by go_num, by first | rfl | rw [World.drewN_drewN], HJ'⟩
          case measure => simp [intOf]; omega
      · have t1 : (x.kind == 1) = false := by simpa using h1
        have HJ' : Hid (∀ j (hj : j < m.E.length), j < k + 1 → isU m.B u m.E[j] = false) := Lib.hid (fun j hj hjk => by
          by_cases e : j = k
          · subst e; simp [isU, HX.out, h1]
          · exact HJ.out j hj (by omega))
        clear h1
        go_wp2
        go_quiet (fail)
        go_wp2
        go_roundw
        case rel => exact ⟨k + 1, n + nq, by omega, by go_num, by first | rfl | rw [World.drewN_drewN], HJ'⟩
        case measure => simp [intOf]; omega
    · obtain rfl : k = m.E.length := by omega
      have HR : Hid (hasU m u = false) := Lib.hid (any_step HJ.out rfl)
      go_wp2
      go_ret
      exact ⟨-1, rfl, by rw [HR.out]; rfl, n, rfl⟩

/-- what the document's Look finds -/
def lkM (m : Ms) (d : Int) (s : Txt) : Option Br := match at? m.E d s with
  | none => none
  | some k => (m.E[k]?).bind fun e => m.B[e.2.1]?

/-- a branch in a block of its own, as the document has it -/
@[reducible] def BmO (b : Br) (av : Value) : Obj := .cells #[.int .i64 b.kind, .int .i64 b.uid, .int .i64 b.dir, .string (bs b.link), .bool b.obj, av, .int .i64 b.r1, .int .i64 b.r2, .int .i64 b.r3, .int .i64 b.gt] 35 (0, 0)
def BmAt (w : World) (k : Nat) (b : Br) (av : Value) : Prop := w.heap[k]? = some (BmO b av)
theorem BmAt.cell {w : World} {k : Nat} {b : Br} {av : Value} (h : BmAt w k b av) :
    w.cell? ⟨k, 0, none⟩ = some (.int .i64 b.kind) ∧ w.cell? ⟨k, 1, none⟩ = some (.int .i64 b.uid) ∧ w.cell? ⟨k, 2, none⟩ = some (.int .i64 b.dir) ∧ w.cell? ⟨k, 3, none⟩ = some (.string (bs b.link)) ∧ w.cell? ⟨k, 4, none⟩ = some (.bool b.obj) ∧ w.cell? ⟨k, 5, none⟩ = some av
      ∧ w.cell? ⟨k, 6, none⟩ = some (.int .i64 b.r1) ∧ w.cell? ⟨k, 7, none⟩ = some (.int .i64 b.r2) ∧ w.cell? ⟨k, 8, none⟩ = some (.int .i64 b.r3) ∧ w.cell? ⟨k, 9, none⟩ = some (.int .i64 b.gt) := by
  unfold BmAt at h
  simp [World.cell?, h]
theorem BmAt.fz {w : World} {k : Nat} {b : Br} {av : Value} (h : BmAt w k b av) (i : Nat) : w.frozen? ⟨k, i, none⟩ = false := by
  unfold BmAt at h
  simp [World.frozen?, h]
theorem BmAt.lt {w : World} {k : Nat} {b : Br} {av : Value} (h : BmAt w k b av) : k < w.heap.size := (Array.getElem?_eq_some_iff.1 h).1
theorem BmAt.below {w w' : World} {k : Nat} {b : Br} {av : Value} (h : BmAt w k b av) (hb : Below w.heap.size w w') : BmAt w' k b av := (hb.block k h.lt).trans h
theorem BmAt.new (w : World) (b : Br) (av : Value) : BmAt (w.alloc (BmO b av)) w.heap.size b av := heap_alloc_new w _
theorem BmAt.stored {w : World} {k : Nat} {b0 : Br} {v0 : Value} (h : BmAt w k b0 v0) (b : Br) (av : Value) : BmAt (setBr w k b av) k b av := by
  unfold BmAt at h ⊢
  have h1 := head_set h 0 (.int .i64 b.kind)
  have h2 := head_set h1 1 (.int .i64 b.uid)
  have h3 := head_set h2 2 (.int .i64 b.dir)
  have h4 := head_set h3 3 (.string (bs b.link))
  have h5 := head_set h4 4 (.bool b.obj)
  have h6 := head_set h5 5 av
  have h7 := head_set h6 6 (.int .i64 b.r1)
  have h8 := head_set h7 7 (.int .i64 b.r2)
  have h9 := head_set h8 8 (.int .i64 b.r3)
  have h10 := head_set h9 9 (.int .i64 b.gt)
  exact h10.trans (by simp)

/-- the branch of an entry: where it lies -/
theorem ML.brAt {bl : List (Br × Value)} {E : List En} {D : List Bool} {vL vD : Value} {a : Option Addr} {n cap : Nat} (h : ML w b F bl E D (.slice a n cap) vL vD) {i : Nat} (hi : i < bl.length) :
    ∃ g, a = some ⟨g, 0, none⟩ ∧ n = bl.length ∧ n ≤ cap ∧ g < w.heap.size ∧ w.cell? ⟨g, i * 10, none⟩ = some (.int .i64 bl[i].1.kind) ∧ w.cell? ⟨g, i * 10 + 1, none⟩ = some (.int .i64 bl[i].1.uid) ∧ w.cell? ⟨g, i * 10 + 2, none⟩ = some (.int .i64 bl[i].1.dir) ∧ w.cell? ⟨g, i * 10 + 3, none⟩ = some (.string (bs bl[i].1.link)) ∧ w.cell? ⟨g, i * 10 + 4, none⟩ = some (.bool bl[i].1.obj) ∧ w.cell? ⟨g, i * 10 + 5, none⟩ = some bl[i].2
      ∧ w.cell? ⟨g, i * 10 + 6, none⟩ = some (.int .i64 bl[i].1.r1) ∧ w.cell? ⟨g, i * 10 + 7, none⟩ = some (.int .i64 bl[i].1.r2) ∧ w.cell? ⟨g, i * 10 + 8, none⟩ = some (.int .i64 bl[i].1.r3) ∧ w.cell? ⟨g, i * 10 + 9, none⟩ = some (.int .i64 bl[i].1.gt) ∧ (∀ j, w.frozen? ⟨g, j, none⟩ = false) := by
  obtain ⟨g, e, e2, hc2, hl, hc, hf⟩ := h.bAt hi
  exact ⟨g, e, e2, hc2, hl, hc 0 (by omega), hc 1 (by omega), hc 2 (by omega), hc 3 (by omega), hc 4 (by omega), hc 5 (by omega), hc 6 (by omega), hc 7 (by omega), hc 8 (by omega), hc 9 (by omega), hf⟩

/-- what the document's walks answer: a branch whose list lies somewhere -/
def Lies (w : World) (b : Br) (k : Value → Value) (e : Ending) (w' : World) : Prop :=
  ∃ a' c', e = .returned (k (BrV b (.slice a' b.acl.length c'))) ∧ TRow w' a' c' b.acl ∧ Below w.heap.size w w'

end

end Go.Proofs.YtdlgliajfmfngaaDoor.T
