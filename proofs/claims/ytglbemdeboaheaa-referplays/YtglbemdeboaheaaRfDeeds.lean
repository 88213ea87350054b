/-
  Deeds on names: in rows of four cells; those that came in; the table that a list of deeds makes.
-/
import Derived.Test.YtglbemdeboaheaaRfOwn
import Derived.Test.YtglbemdeboaheaaGIn
import Derived.Lib.SmallJoins
namespace Go.Proofs.Ytglbemdeboaheaa.Rf
open Go.ChangeShapes Go.WideShapes Go.ChangeAt Go.RowKit
open Go.Proofs.Ytglbemdeboaheaa.N (bs bs_data bs_size bs_inj bs_of may retB)
open Go.Proofs.Ytglbemdeboaheaa.G (El Row flat kT goodT)

structure Dd where
  op : Int
  ring : Int
  seg : Int
  name : Txt
@[reducible] def DdV (d : Dd) : Value := .agg #[.int .i64 d.op, .int .i64 d.ring, .int .i64 d.seg, .string (bs d.name)]
@[reducible] def DdO (d : Dd) : Obj := .cells #[.int .i64 d.op, .int .i64 d.ring, .int .i64 d.seg, .string (bs d.name)] 27 (0, 0)

def kD : El Dd where
  t := 27
  st := 22
  sz := 4
  bytes := 40
  z := .agg #[.int .i64 0, .int .i64 0, .int .i64 0, .string ByteArray.empty]
  cells := fun d => [.int .i64 d.op, .int .i64 d.ring, .int .i64 d.seg, .string (bs d.name)]
theorem goodD : kD.Good Try.prog where
  under := Try.underlying22
  info := by kernel_rfl
  zc := rfl
  pos := by decide
  len := fun _ => rfl
  one := fun x u hu => by
    simp only [kD, List.mem_cons, List.not_mem_nil, or_false] at hu
    rcases hu with rfl | rfl | rfl | rfl <;> rfl
  small := by decide
theorem cells_deed : Try.prog.cellsOf 27 = 4 := by kernel_rfl

/-- numbers and texts such as the program's are -/
def Dd.Ok (d : Dd) : Prop := rng d.op ∧ rng d.ring ∧ rng d.seg ∧ d.name.length ≤ maxLen

section
variable {H : Type} {enc : TypeId × Value → H} {w : World} {base : Nat} {spare : Nat → Bool} {held : Bool}
theorem int_cell {fuel : Nat} {cs : List Value} {x : DataW H × List MemPlace} (h : DataW.trod enc Try.prog w base spare held fuel 3 cs = some x) : ∃ n : Int, cs = [.int .i64 n] ∧ rng n := by
  obtain ⟨n, hn, _, hw⟩ := DataW.trod_int Try.underlying3 h
  exact ⟨n, hn, rng_of hw⟩
theorem deed_cells (fuel : Nat) (cs : List Value) (x : DataW H × List MemPlace) (h : DataW.trod enc Try.prog w base spare held fuel 27 cs = some x) : ∃ d : Dd, cs = kD.cells d ∧ d.Ok := by
  obtain ⟨xs, n, _, _, hl, hlen, hf⟩ := DataW.trod_struct Try.underlying27 h
  rw [cells_deed] at hl
  match xs, hlen with
  | [y0, y1, y2, y3], _ =>
    have h0 := hf 0 _ rfl
    have h1 := hf 1 _ rfl
    have h2 := hf 2 _ rfl
    have h3 := hf 3 _ rfl
    simp only [List.getElem_toArray, List.getElem_cons_zero, List.getElem_cons_succ, List.getElem?_cons_zero, List.getElem?_cons_succ, cellsInt, cellsString] at h0 h1 h2 h3
    obtain ⟨r0, e0, b0⟩ := int_cell h0
    obtain ⟨r1, e1, b1⟩ := int_cell h1
    obtain ⟨r2, e2, b2⟩ := int_cell h2
    obtain ⟨s, e3, _, hm⟩ := DataW.trod_string Try.underlying9 h3
    clear hf h h0 h1 h2 h3
    match cs, hl with
    | [p0, p1, p2, p3], _ =>
      simp at e0 e1 e2 e3
      refine ⟨⟨r0, r1, r2, s.data.toList⟩, ?_, b0, b1, b2, by rw [size_len]; exact hm⟩
      rw [e0, e1, e2, e3]
      simp [kD, bs_of]
theorem open_deeds {r : Reach} {b0 : Nat} {v : Value} {d : DataW H} {p : List MemPlace} (hv : Value.okWide Try.prog w r b0 22 v) (h : DataW.Trod enc Try.prog w base spare held 22 v d p) :
    ∃ a c l, v = .slice a (List.length l) c ∧ Row kD w a c l ∧ l.length ≤ maxLen ∧ ∀ t ∈ l, t.Ok :=
  G.open_rows (s := kD) goodD cells_deed deed_cells hv h
end

/-- a deed lies there -/
structure DdAt (w : World) (b o : Nat) (d : Dd) : Prop where
  op : w.cell? ⟨b, o, none⟩ = some (.int .i64 d.op)
  ring : w.cell? ⟨b, o + 1, none⟩ = some (.int .i64 d.ring)
  seg : w.cell? ⟨b, o + 2, none⟩ = some (.int .i64 d.seg)
  name : w.cell? ⟨b, o + 3, none⟩ = some (.string (bs d.name))
theorem DdAt.of {w : World} {b o : Nat} {d : Dd} (h : ∀ r u, (kD.cells d)[r]? = some u → w.cell? ⟨b, o + r, none⟩ = some u) : DdAt w b o d :=
  ⟨h 0 _ rfl, h 1 _ rfl, h 2 _ rfl, h 3 _ rfl⟩
theorem DdAt.below {w w' : World} {b o : Nat} {d : Dd} (h : DdAt w b o d) (hl : b < w.heap.size) (hb : Below w.heap.size w w') : DdAt w' b o d :=
  ⟨(hb.cell (p := ⟨b, o, none⟩) hl).trans h.op, (hb.cell (p := ⟨b, o + 1, none⟩) hl).trans h.ring, (hb.cell (p := ⟨b, o + 2, none⟩) hl).trans h.seg, (hb.cell (p := ⟨b, o + 3, none⟩) hl).trans h.name⟩
theorem row_deed {w : World} {a : Option Addr} {c : Nat} {l : List Dd} (h : Row kD w a c l) {k : Nat} (hk : k < l.length) : ∃ bk o, a = some ⟨bk, o, none⟩ ∧ bk < w.heap.size ∧ DdAt w bk (o + k * 4) l[k] := by
  obtain ⟨bk, o, e, hl, hc⟩ := h.at_ hk
  exact ⟨bk, o, e, hl, DdAt.of hc⟩

theorem row_deed0 {w : World} {bk c : Nat} {l : List Dd} (h : Row kD w (some ⟨bk, 0, none⟩) c l) {k : Nat} (hk : k < l.length) : bk < w.heap.size ∧ DdAt w bk (k * 4) l[k] := by
  obtain ⟨bk', o, e, hl, hc⟩ := row_deed h hk
  cases e
  rw [Nat.zero_add] at hc
  exact ⟨hl, hc⟩
theorem one_deed (w : World) (d : Dd) : Row kD (w.alloc (DdO d)) (some ⟨w.heap.size, 0, none⟩) 1 [d] := by
  refine ⟨Nat.le_refl _, fun e => (by cases e), fun _ => ⟨w.heap.size, 0, rfl, by simp, fun j hj r u hu => ?_⟩⟩
  have e : j = 0 := by simp at hj; omega
  subst e
  have : (w.alloc (DdO d)).heap[w.heap.size]? = some (DdO d) := heap_alloc_new w _
  rw [Nat.zero_mul, Nat.zero_add]
  simp only [World.cell?, this]
  simpa [kD] using hu

/-! ### the table that deeds make -/

def toE (d : Dd) : E := ⟨d.ring, d.name, d.seg⟩
def Lm (m : List Dd) : List E := m.map toE
theorem Lm_len (m : List Dd) : (Lm m).length = m.length := by simp [Lm]
theorem Lm_app (m m' : List Dd) : Lm (m ++ m') = Lm m ++ Lm m' := by simp [Lm]

/-- the same name in the same ring -/
def same (r : Int) (n : Txt) (x : Dd) : Prop := x.ring = r ∧ x.name = n
theorem Lm_get {m : List Dd} (h : Good (Lm m)) {j : Nat} (hj : j < m.length) {r : Int} {n : Txt} (hs : same r n m[j]) : get (Lm m) r n = some m[j].seg := by
  have := get_mem h (x := toE m[j]) (List.mem_map.2 ⟨_, List.getElem_mem hj, rfl⟩)
  simp only [toE] at this
  rw [hs.1, hs.2] at this
  exact this
theorem Lm_none {m : List Dd} {r : Int} {n : Txt} (h : ∀ j (hj : j < m.length), ¬ same r n m[j]) : get (Lm m) r n = none := get_none.2 (fun x hx e => by
  obtain ⟨d, hd, rfl⟩ := List.mem_map.1 hx
  obtain ⟨j, hj, rfl⟩ := List.getElem_of_mem hd
  exact h j hj e)
theorem Lm_forget (m : List Dd) (s : Int) : forget (Lm m) s = Lm (m.filter (fun x => !decide (x.seg = s))) := by
  unfold forget Lm
  rw [List.filter_map]
  rfl
theorem Lm_del {m : List Dd} (h : Good (Lm m)) {j : Nat} (hj : j < m.length) {r : Int} {n : Txt} (hs : same r n m[j]) : del (Lm m) r n = Lm (m.take j ++ m.drop (j + 1)) := by
  have e : m = m.take j ++ m[j] :: m.drop (j + 1) := by
    rw [← List.drop_eq_getElem_cons hj, List.take_append_drop]
  have hone := h.one
  unfold del Lm at *
  rw [List.pairwise_map] at hone
  rw [List.filter_map]
  congr 1
  have hno : ∀ x, (x ∈ m.take j ∨ x ∈ m.drop (j + 1)) → ((fun y => !isK r n y) ∘ toE) x = true := by
    intro x hx
    rw [e, List.pairwise_append] at hone
    obtain ⟨_, h2, h3⟩ := hone
    rw [List.pairwise_cons] at h2
    have hne : ¬ (x.ring = m[j].ring ∧ x.name = m[j].name) := by
      rcases hx with hx | hx
      · exact h3 x hx m[j] List.mem_cons_self
      · exact fun e' => h2.1 x hx ⟨e'.1.symm, e'.2.symm⟩
    rw [hs.1, hs.2] at hne
    cases hk : isK r n (toE x) with
    | false => simp [hk]
    | true => exact absurd (isK_iff.1 hk) hne
  have hyes : ((fun y => !isK r n y) ∘ toE) m[j] = false := by
    have : isK r n (toE m[j]) = true := isK_iff.2 hs
    simp [this]
  conv =>
    lhs
    rw [e]
  rw [List.filter_append, List.filter_cons, hyes, List.filter_eq_self.2 (fun x hx => hno x (Or.inl hx)), List.filter_eq_self.2 (fun x hx => hno x (Or.inr hx))]
  simp

end Go.Proofs.Ytglbemdeboaheaa.Rf
