/-
  Objects and their words, as plain lists: which objects may be, what their words are, that words say which object they are of; a strict reader (whose answer is the object whose words they are) and the document's own reader, which asks less ahead and writes what it read again. No program is named here.
-/
import Derived.Test.YtnlohmkgkihldaaLMath
namespace Go.Proofs.Ytnlohmkgkihldaa.W
open Go.Proofs.Ytnlohmkgkihldaa.N (may may_pos)

abbrev Txt := List UInt8
/-- an object: text, static section, definitions, links -/
structure Ob where
  text : List Int
  stat : List Int
  defs : List (Txt × Int)
  links : List (Txt × Txt × Int)

def wDef (d : Txt × Int) : List Int := wds d.1 ++ [d.2]
def wLink (l : Txt × Txt × Int) : List Int := wds l.1 ++ (wds l.2.1 ++ [l.2.2])
def wDefs : List (Txt × Int) → List Int
  | [] => []
  | d :: r => wDef d ++ wDefs r
def wLinks : List (Txt × Txt × Int) → List Int
  | [] => []
  | l :: r => wLink l ++ wLinks r
/-- the map at the end -/
def wMap (a b c d : Nat) : List Int := [(a : Int), (b : Int), (c : Int), (d : Int), 45812815077]
def wOb (o : Ob) : List Int := o.text ++ (o.stat ++ (wDefs o.defs ++ (wLinks o.links ++ wMap o.text.length o.stat.length o.defs.length o.links.length)))

/-- a word of at most 36 bits -/
def okW (z : Int) : Bool := decide (0 ≤ z) && decide (z ≤ 68719476735)
def okDef (n : Nat) (d : Txt × Int) : Bool := may 32 d.1 && (decide (0 ≤ d.2) && decide (d.2 < (n : Int)))
def okLink (l : Txt × Txt × Int) : Bool := (l.1.isEmpty || may 32 l.1) && (may 32 l.2.1 && (decide (0 ≤ l.2.2) && decide (l.2.2 ≤ 262143)))
/-- no name twice -/
def apart : List (Txt × Int) → Bool
  | [] => true
  | d :: r => !(r.any fun e => e.1 == d.1) && apart r
def mayOb (o : Ob) : Bool :=
  decide (o.text.length ≤ 512) && decide (o.stat.length ≤ 64) && decide (o.defs.length ≤ 32) && decide (o.links.length ≤ 32) &&
  o.text.all okW && o.stat.all okW && o.defs.all (okDef o.text.length) && apart o.defs && o.links.all okLink && decide ((wOb o).length ≤ 1024)

structure May (o : Ob) : Prop where
  nt : o.text.length ≤ 512
  ns : o.stat.length ≤ 64
  nd : o.defs.length ≤ 32
  nl : o.links.length ≤ 32
  wt : ∀ z ∈ o.text, 0 ≤ z ∧ z ≤ 68719476735
  ws : ∀ z ∈ o.stat, 0 ≤ z ∧ z ≤ 68719476735
  ds : ∀ d ∈ o.defs, may 32 d.1 = true ∧ 0 ≤ d.2 ∧ d.2 < (o.text.length : Int)
  ap : apart o.defs = true
  ls : ∀ l ∈ o.links, (l.1 = [] ∨ may 32 l.1 = true) ∧ may 32 l.2.1 = true ∧ 0 ≤ l.2.2 ∧ l.2.2 ≤ 262143
  sz : (wOb o).length ≤ 1024
theorem may_iff (o : Ob) : mayOb o = true ↔ May o := by
  unfold mayOb
  simp only [Bool.and_eq_true, decide_eq_true_eq, List.all_eq_true, okW, okDef, okLink, Bool.or_eq_true, List.isEmpty_iff]
  constructor
  · rintro ⟨⟨⟨⟨⟨⟨⟨⟨⟨a, b⟩, c⟩, d⟩, e⟩, f⟩, g⟩, h⟩, i⟩, j⟩
    exact ⟨a, b, c, d, e, f, g, h, i, j⟩
  · intro h
    exact ⟨⟨⟨⟨⟨⟨⟨⟨⟨h.nt, h.ns⟩, h.nd⟩, h.nl⟩, h.wt⟩, h.ws⟩, h.ds⟩, h.ap⟩, h.ls⟩, h.sz⟩

theorem may_len {t : Txt} (h : may 32 t = true) : t.length ≤ 255 := by have := (may_pos h).2.1; omega
theorem May.dlen {o : Ob} (h : May o) : ∀ d ∈ o.defs, d.1.length ≤ 255 := fun d hd => may_len (h.ds d hd).1
theorem May.llen {o : Ob} (h : May o) : ∀ l ∈ o.links, l.1.length ≤ 255 ∧ l.2.1.length ≤ 255 := fun l hl => by
  obtain ⟨h1, h2, _⟩ := h.ls l hl
  exact ⟨h1.elim (fun e => by rw [e]; simp) may_len, may_len h2⟩

/-- each word has 36 bits -/
theorem wDefs_bd {ds : List (Txt × Int)} (h : ∀ d ∈ ds, d.1.length ≤ 255 ∧ 0 ≤ d.2 ∧ d.2 ≤ 68719476735) : ∀ z ∈ wDefs ds, 0 ≤ z ∧ z ≤ 68719476735 := by
  induction ds with
  | nil => simp [wDefs]
  | cons d r ih =>
    intro z hz
    obtain ⟨h1, h2, h3⟩ := h d (by simp)
    simp only [wDefs, wDef, List.mem_append, List.mem_singleton] at hz
    rcases hz with (hz | rfl) | hz
    · have := wds_bd h1 z hz; omega
    · exact ⟨h2, h3⟩
    · exact ih (fun e he => h e (by simp [he])) z hz
theorem wLinks_bd {ls : List (Txt × Txt × Int)} (h : ∀ l ∈ ls, l.1.length ≤ 255 ∧ l.2.1.length ≤ 255 ∧ 0 ≤ l.2.2 ∧ l.2.2 ≤ 68719476735) : ∀ z ∈ wLinks ls, 0 ≤ z ∧ z ≤ 68719476735 := by
  induction ls with
  | nil => simp [wLinks]
  | cons d r ih =>
    intro z hz
    obtain ⟨h1, h2, h3, h4⟩ := h d (by simp)
    simp only [wLinks, wLink, List.mem_append, List.mem_singleton] at hz
    rcases hz with (hz | hz | rfl) | hz
    · have := wds_bd h1 z hz; omega
    · have := wds_bd h2 z hz; omega
    · exact ⟨h3, h4⟩
    · exact ih (fun e he => h e (by simp [he])) z hz
theorem wOb_bd {o : Ob} (h : May o) : ∀ z ∈ wOb o, 0 ≤ z ∧ z ≤ 68719476735 := by
  intro z hz
  have a := h.nt; have b := h.ns; have c := h.nd; have d := h.nl
  simp only [wOb, wMap, List.mem_append, List.mem_cons, List.not_mem_nil, or_false] at hz
  rcases hz with hz | hz | hz | hz | rfl | rfl | rfl | rfl | rfl
  · exact h.wt z hz
  · exact h.ws z hz
  · exact wDefs_bd (fun d hd => ⟨h.dlen d hd, (h.ds d hd).2.1, by have := (h.ds d hd).2.2; omega⟩) z hz
  · exact wLinks_bd (fun l hl => ⟨(h.llen l hl).1, (h.llen l hl).2, (h.ls l hl).2.2.1, by have := (h.ls l hl).2.2.2; omega⟩) z hz
  all_goals omega

/-- a text's words at the head say which text it is -/
theorem wds_head {a b : Txt} {x y : List Int} (ha : a.length ≤ 255) (hb : b.length ≤ 255) (h : wds a ++ x = wds b ++ y) : a = b ∧ x = y := by
  have e : a = b := by rw [← pre_txt (more := x) ha, h, pre_txt hb]
  subst e
  exact ⟨rfl, List.append_cancel_left h⟩
theorem wDefs_head {a b : List (Txt × Int)} {x y : List Int} (ha : ∀ d ∈ a, d.1.length ≤ 255) (hb : ∀ d ∈ b, d.1.length ≤ 255) (hl : a.length = b.length) (h : wDefs a ++ x = wDefs b ++ y) : a = b ∧ x = y := by
  induction a generalizing b with
  | nil =>
    cases b with
    | nil => exact ⟨rfl, h⟩
    | cons => simp at hl
  | cons d r ih =>
    cases b with
    | nil => simp at hl
    | cons e s =>
      simp only [wDefs, wDef, List.append_assoc] at h
      obtain ⟨h1, h2⟩ := wds_head (ha d (by simp)) (hb e (by simp)) h
      simp only [List.singleton_append, List.cons.injEq] at h2
      obtain ⟨h3, h4⟩ := ih (fun u hu => ha u (by simp [hu])) (fun u hu => hb u (by simp [hu])) (by simpa using hl) h2.2
      exact ⟨by rw [h3, Prod.ext h1 h2.1], h4⟩
theorem wLinks_head {a b : List (Txt × Txt × Int)} {x y : List Int} (ha : ∀ d ∈ a, d.1.length ≤ 255 ∧ d.2.1.length ≤ 255) (hb : ∀ d ∈ b, d.1.length ≤ 255 ∧ d.2.1.length ≤ 255) (hl : a.length = b.length) (h : wLinks a ++ x = wLinks b ++ y) : a = b ∧ x = y := by
  induction a generalizing b with
  | nil =>
    cases b with
    | nil => exact ⟨rfl, h⟩
    | cons => simp at hl
  | cons d r ih =>
    cases b with
    | nil => simp at hl
    | cons e s =>
      simp only [wLinks, wLink, List.append_assoc] at h
      obtain ⟨h1, h2⟩ := wds_head (ha d (by simp)).1 (hb e (by simp)).1 h
      obtain ⟨h5, h6⟩ := wds_head (ha d (by simp)).2 (hb e (by simp)).2 h2
      simp only [List.singleton_append, List.cons.injEq] at h6
      obtain ⟨h3, h4⟩ := ih (fun u hu => ha u (by simp [hu])) (fun u hu => hb u (by simp [hu])) (by simpa using hl) h6.2
      exact ⟨by rw [h3, Prod.ext h1 (Prod.ext h5 h6.1)], h4⟩

/-- the map is what the last five words say -/
theorem wOb_map {o p : Ob} (h : wOb o = wOb p) : o.text.length = p.text.length ∧ o.stat.length = p.stat.length ∧ o.defs.length = p.defs.length ∧ o.links.length = p.links.length := by
  have e : ∀ q : Ob, (wOb q).reverse = (wMap q.text.length q.stat.length q.defs.length q.links.length).reverse ++ (q.text ++ (q.stat ++ (wDefs q.defs ++ wLinks q.links))).reverse := fun q => by
    rw [← List.reverse_append]
    simp [wOb]
  have h2 := congrArg List.reverse h
  rw [e, e] at h2
  simp only [wMap, List.reverse_cons, List.reverse_nil, List.nil_append, List.cons_append, List.cons.injEq] at h2
  omega
theorem wOb_inj {o p : Ob} (ho : May o) (hp : May p) (h : wOb o = wOb p) : o = p := by
  obtain ⟨a, b, c, d⟩ := wOb_map h
  unfold wOb at h
  obtain ⟨h1, h2⟩ := List.append_inj h a
  obtain ⟨h3, h4⟩ := List.append_inj h2 b
  obtain ⟨h5, h6⟩ := wDefs_head ho.dlen hp.dlen c h4
  obtain ⟨h7, _⟩ := wLinks_head ho.llen hp.llen d h6
  cases o
  cases p
  simp_all

theorem wDef_len (d : Txt × Int) : (wDef d).length = nw d.1.length + 1 := by simp [wDef, wds_len]
theorem wLink_len (l : Txt × Txt × Int) : (wLink l).length = nw l.1.length + nw l.2.1.length + 1 := by simp [wLink, wds_len]; omega
theorem wDefs_app (a b : List (Txt × Int)) : wDefs (a ++ b) = wDefs a ++ wDefs b := by
  induction a with
  | nil => rfl
  | cons x r ih => simp [wDefs, ih]
theorem wLinks_app (a b : List (Txt × Txt × Int)) : wLinks (a ++ b) = wLinks a ++ wLinks b := by
  induction a with
  | nil => rfl
  | cons x r ih => simp [wLinks, ih]
theorem wOb_len (o : Ob) : (wOb o).length = o.text.length + o.stat.length + (wDefs o.defs).length + (wLinks o.links).length + 5 := by simp [wOb, wMap]; omega

end Go.Proofs.Ytnlohmkgkihldaa.W
