/-
  A tree under a law's hands, and an array that the law has beside it, in a block of its own.
-/
import Derived.Test.YtpcdcmoapenbdaaDoorWSees
namespace Go.Proofs.YtpcdcmoapenbdaaDoor.T
open Go.ChangeShapes Go.WideShapes Go.ChangeAt Go.RowKit
open Go.Proofs.YtpcdcmoapenbdaaDoor.N (bs bs_data bs_size bs_inj bs_of Glob)
open Go.Proofs.YtpcdcmoapenbdaaDoor.A (Tm TRow)

theorem cells_set {w : World} {b : Nat} {cs : Array Value} {t : TypeId} {fr : Nat × Nat} (h : w.heap[b]? = some (.cells cs t fr)) (i : Nat) (v : Value) : (w.setCell ⟨b, i, none⟩ v).heap[b]? = some (.cells (cs.setIfInBounds i v) t fr) := by
  rw [setCell_eq_setRow w b i cs t fr v h]
  exact setRow_heap _ _ _ _ _ _ h

def upA {α : Type} (M : Nat → α) (k : Nat) (v : α) : Nat → α := fun j => if j = k then v else M j
theorem upA_same {α : Type} (M : Nat → α) (k : Nat) (v : α) : upA M k v k = v := by simp [upA]
theorem upA_other {α : Type} (M : Nat → α) {k j : Nat} (v : α) (h : j ≠ k) : upA M k v j = M j := by simp [upA, h]

/-- the block c holds n elements M -/
def ArrN {α : Type} (mk : α → Value) (w : World) (c : Nat) (t : TypeId) (n : Nat) (M : Nat → α) : Prop :=
  ∃ cs, w.heap[c]? = some (.cells cs t (0, 0)) ∧ cs.size = n ∧ ∀ i : Nat, i < n → cs[i]? = some (mk (M i))

section
variable {α : Type} {mk : α → Value} {w : World} {c : Nat} {t : TypeId} {n : Nat} {M : Nat → α}
theorem ArrN.lt (h : ArrN mk w c t n M) : c < w.heap.size := by
  obtain ⟨cs, h, _⟩ := h
  exact (Array.getElem?_eq_some_iff.1 h).1
theorem ArrN.keep (h : ArrN mk w c t n M) {w' : World} (hk : w'.heap[c]? = w.heap[c]?) : ArrN mk w' c t n M := by
  obtain ⟨cs, h, r⟩ := h
  exact ⟨cs, hk.trans h, r⟩
theorem ArrN.below (h : ArrN mk w c t n M) {w' : World} (hb : Below w.heap.size w w') : ArrN mk w' c t n M := h.keep (hb.block c h.lt)
theorem ArrN.fz (h : ArrN mk w c t n M) (i : Nat) : w.frozen? ⟨c, i, none⟩ = false := by
  obtain ⟨cs, h, _⟩ := h
  simp [World.frozen?, h]
theorem ArrN.cell (h : ArrN mk w c t n M) {k : Nat} (k1 : k < n) : w.cell? ⟨c, k, none⟩ = some (mk (M k)) := by
  obtain ⟨cs, h, _, hc⟩ := h
  rw [cell_of_row w c _ cs _ _ h]
  exact hc k k1
theorem ArrN.set (h : ArrN mk w c t n M) (k : Nat) (v : α) : ArrN mk (w.setCell ⟨c, k, none⟩ (mk v)) c t n (upA M k v) := by
  obtain ⟨cs, h, hs, hc⟩ := h
  refine ⟨_, cells_set h _ _, by simpa using hs, fun i hi => ?_⟩
  by_cases e : i = k
  · subst e
    rw [upA_same]
    simp [show i < cs.size by omega]
  · rw [Array.getElem?_setIfInBounds_ne (by omega), upA_other _ _ e]
    exact hc i hi
theorem arrN_new (mk : α → Value) (w : World) (t : TypeId) (n : Nat) (x : α) (cs : Array Value) (hs : cs = Array.replicate n (mk x)) : ArrN mk (w.alloc (.cells cs t)) w.heap.size t n (fun _ => x) :=
  ⟨cs, heap_alloc_new w _, by simp [hs], fun i hi => by rw [hs, Array.getElem?_replicate, if_pos hi]⟩
end

/-- a tree younger than w0, and an array in the block bd -/
def HasA {α : Type} (mk : α → Value) (t : TypeId) (n : Nat) (w0 V : World) (b bd : Nat) (M : Nat → α) (c : Nat) (Φ : St → Prop) : Prop :=
  ∃ F st, TreeAt V b F c st ∧ Φ st ∧ Below w0.heap.size w0 V ∧ (∀ i, F i → w0.heap.size ≤ i) ∧ ¬ F bd ∧ w0.heap.size ≤ bd ∧ ArrN mk V bd t n M

section
variable {α : Type} {mk : α → Value} {t : TypeId} {n : Nat} {w0 V V' : World} {b bd c c' : Nat} {M : Nat → α} {Φ Ψ : St → Prop}
theorem HasA.has (h : HasA mk t n w0 V b bd M c Φ) : Has w0 V b c Φ := by
  obtain ⟨F, st, h1, h2, h3, h4, _⟩ := h
  exact ⟨F, st, h1, h2, h3, h4⟩
theorem HasA.arr (h : HasA mk t n w0 V b bd M c Φ) : ArrN mk V bd t n M := by
  obtain ⟨F, st, h1, h2, h3, h4, h5, h6, h7⟩ := h
  exact h7
theorem HasA.bel (h : HasA mk t n w0 V b bd M c Φ) : Below w0.heap.size w0 V := h.has.bel
theorem HasA.below (h : HasA mk t n w0 V b bd M c Φ) (hb : Below V.heap.size V V') : HasA mk t n w0 V' b bd M c Φ := by
  obtain ⟨F, st, h1, h2, h3, h4, h5, h6, h7⟩ := h
  exact ⟨F, st, h1.below hb, h2, h3.trans (hb.mono h3.size), h4, h5, h6, h7.below hb⟩
theorem HasA.mono (h : HasA mk t n w0 V b bd M c Φ) (hc : c ≤ c') : HasA mk t n w0 V b bd M c' Φ := by
  obtain ⟨F, st, h1, h2⟩ := h
  exact ⟨F, st, h1.mono hc, h2⟩
theorem HasA.imp (h : HasA mk t n w0 V b bd M c Φ) (hi : ∀ st, Φ st → Ψ st) : HasA mk t n w0 V b bd M c Ψ := by
  obtain ⟨F, st, h1, h2, h3⟩ := h
  exact ⟨F, st, h1, hi st h2, h3⟩
theorem HasA.new (h : Has w0 V b c Φ) (mk : α → Value) (t : TypeId) (n : Nat) (x : α) (cs : Array Value) (hs : cs = Array.replicate n (mk x)) : HasA mk t n w0 (V.alloc (.cells cs t)) b V.heap.size (fun _ => x) c Φ := by
  obtain ⟨F, st, h1, h2, h3, h4⟩ := h
  exact ⟨F, st, h1.alloc _, h2, bel2 h3 (one_new _ _), h4, fun hf => by have := h1.ltF _ hf; omega, h3.size, arrN_new mk V t n x cs hs⟩
theorem HasA.put (h : HasA mk t n w0 V b bd M c Φ) (k : Nat) (v : α) : HasA mk t n w0 (V.setCell ⟨bd, k, none⟩ (mk v)) b bd (upA M k v) c Φ := by
  obtain ⟨F, st, h1, h2, h3, h4, h5, h6, h7⟩ := h
  exact ⟨F, st, h1.set h5, h2, h3.setCell h6 _, h4, h5, h6, h7.set k v⟩
theorem hasA_went {F F' : Nat → Prop} {st : St} (h3 : Below w0.heap.size w0 V) (h4 : ∀ i, F i → w0.heap.size ≤ i) (h5 : ¬ F bd) (h6 : w0.heap.size ≤ bd) (h7 : ArrN mk V bd t n M) (h : TreeAt V' b F' c st) (hp : Ψ st) (hw : Went F V F' V') : HasA mk t n w0 V' b bd M c Ψ :=
  ⟨F', st, h, hp, h3.trans (hw.below h4 h3.size), hw.ge h4 h3.size, hw.out h7.lt h5, h6, h7.keep (hw.block bd h7.lt h5)⟩

variable {L : Int → Txt → Option Br} {D : Int → Bool} {la : Int} {U : Int → Bool}
theorem hasA_dir (h : HasA mk t n w0 V b bd M c (Sees L D la U)) (d : Int) (s : Txt) (hd : rng d) (hD : D d = true) (hm : N.may 32 s = true) (hn : L d s = none) {lb : Int} (hb : la + 1 = lb) (hc : c < 10000) :
    Calls Tryd.prog 18 #[TP b, .int .i64 d, .string (bs s), LitV 2 0 ⟨#[]⟩] V fun e w' => e = .returned (.tuple #[.int .i64 lb, .int .i64 0]) ∧ HasA mk t n w0 w' b bd M (c + 5) (Sees (updL L d s (dirN lb)) (fun d' => decide (d' = lb) || D d') lb U) := by
  subst hb
  obtain ⟨F, st, h1, h2, h3, h4, h5, h6, h7⟩ := h
  have hsl := (N.may_pos hm).2.1
  have := add_dir h1 (d := d) (s := s) hd (by unfold maxLen; omega) (h2.free h1.wf hD hm hn) (br := litB 2 0 ⟨#[]⟩) (a := none) (n := 0) (cc := 0) rfl hc
  rw [← lit_brv, h2.last] at this
  exact this.mono fun e w' ⟨e1, F', g, hgg, h8, h9⟩ => ⟨e1, hasA_went h3 h4 h5 h6 h7 h8 (h2.dirs h1.wf (h1.fresh hgg) hD) h9⟩
theorem hasA_seg (h : HasA mk t n w0 V b bd M c (Sees L D la U)) (d : Int) (s : Txt) (u : Int) (hd : rng d) (hD : D d = true) (hm : N.may 32 s = true) (hn : L d s = none) (hu : 1 ≤ u) (hu' : u ≤ 9223372036854775807) (hU : U u = false) (hc : c < 10000) :
    Calls Tryd.prog 18 #[TP b, .int .i64 d, .string (bs s), LitV 1 u ⟨#[]⟩] V fun e w' => e = .returned (.tuple #[.int .i64 0, .int .i64 0]) ∧ HasA mk t n w0 w' b bd M (c + 4) (Sees (updL L d s (litB 1 u ⟨#[]⟩)) D la (fun u' => decide (u' = u) || U u')) := by
  obtain ⟨F, st, h1, h2, h3, h4, h5, h6, h7⟩ := h
  have hsl := (N.may_pos hm).2.1
  have hG : st.G u = none := by
    have := congrFun h2.uid u
    rw [hU] at this
    simpa using this
  have := add_seg h1 (d := d) (s := s) hd (by unfold maxLen; omega) (h2.free h1.wf hD hm hn) (br := litB 1 u ⟨#[]⟩) (a := none) (cc := 0) (A.TRow.nil V) (fun t ht => by cases ht) rfl hu hu' rfl rfl hG hc
  rw [lit_brv]
  exact this.mono fun e w' ⟨e1, F', g, hgg, h8, h9⟩ => ⟨e1, hasA_went h3 h4 h5 h6 h7 h8 (h2.seg (g := g) (s := s) (br := litB 1 u ⟨#[]⟩) h1.wf (h1.fresh hgg) hD) h9⟩
end

end Go.Proofs.YtpcdcmoapenbdaaDoor.T
