/-
  Walks as plain functions: a walk goes on from where its first parts led; where more links may be followed it answers the same, but for 'too many'; a link to the root ahead of a path.
  Both trees anew; deeds played on them; two branches boxed.
-/
import Derived.Test.YtpcdcmoapenbdaaDoorMOpens
namespace Go.Proofs.YtpcdcmoapenbdaaDoor.T

section
variable {L : Int → Txt → Option Br}

theorem leads_some : ∀ (n : Nat) (ps : List Txt) (x : Br), ∃ E y n', Leads L n x ps E y n' := by
  intro n
  induction n with
  | zero =>
    intro ps
    induction ps with
    | nil => exact fun x => ⟨0, x, 0, Or.inl ⟨rfl, Nat.le_refl _, fun rest => rfl⟩⟩
    | cons p ps ih =>
      intro x
      by_cases hk : x.kind = 2
      · cases hl : L x.dir p with
        | none => exact ⟨4, noBr, 0, Or.inr ⟨by decide, rfl, fun rest => fol_none 0 hk hl _⟩⟩
        | some y =>
          by_cases h3 : y.kind = 3
          · exact ⟨14, noBr, 0, Or.inr ⟨by decide, rfl, fun rest => fol_stop hk hl h3 _⟩⟩
          · obtain ⟨E, z, n', h⟩ := ih y
            refine ⟨E, z, n', ?_⟩
            rcases h with ⟨h1, h2, h4⟩ | ⟨h1, h2, h4⟩
            · exact Or.inl ⟨h1, h2, fun rest => (fol_on 0 hk hl h3 _).trans (h4 rest)⟩
            · exact Or.inr ⟨h1, h2, fun rest => (fol_on 0 hk hl h3 _).trans (h4 rest)⟩
      · exact ⟨15, noBr, 0, Or.inr ⟨by decide, rfl, fun rest => fol_kind L 0 hk _ _⟩⟩
  | succ n ihn =>
    intro ps
    induction ps with
    | nil => exact fun x => ⟨0, x, n + 1, Or.inl ⟨rfl, Nat.le_refl _, fun rest => rfl⟩⟩
    | cons p ps ih =>
      intro x
      by_cases hk : x.kind = 2
      · cases hl : L x.dir p with
        | none => exact ⟨4, noBr, 0, Or.inr ⟨by decide, rfl, fun rest => fol_none (n + 1) hk hl _⟩⟩
        | some y =>
          by_cases h3 : y.kind = 3
          · obtain ⟨E, z, n', h⟩ := ihn (N.ps y.link ++ ps) (dirN 0)
            have hstep : ∀ rest, fol L (n + 1) x (p :: ps ++ rest) = fol L n (dirN 0) (N.ps y.link ++ ps ++ rest) := fun rest => by
              rw [List.append_assoc]
              exact fol_link hk hl h3 _
            refine ⟨E, z, n', ?_⟩
            rcases h with ⟨h1, h2, h4⟩ | ⟨h1, h2, h4⟩
            · exact Or.inl ⟨h1, by omega, fun rest => (hstep rest).trans (h4 rest)⟩
            · exact Or.inr ⟨h1, h2, fun rest => (hstep rest).trans (h4 rest)⟩
          · obtain ⟨E, z, n', h⟩ := ih y
            refine ⟨E, z, n', ?_⟩
            rcases h with ⟨h1, h2, h4⟩ | ⟨h1, h2, h4⟩
            · exact Or.inl ⟨h1, h2, fun rest => (fol_on (n + 1) hk hl h3 _).trans (h4 rest)⟩
            · exact Or.inr ⟨h1, h2, fun rest => (fol_on (n + 1) hk hl h3 _).trans (h4 rest)⟩
      · exact ⟨15, noBr, 0, Or.inr ⟨by decide, rfl, fun rest => fol_kind L (n + 1) hk _ _⟩⟩

theorem fol_more : ∀ (n m : Nat), n ≤ m → ∀ (ps : List Txt) (x : Br), (fol L n x ps).1 = 14 ∨ fol L m x ps = fol L n x ps := by
  intro n
  induction n with
  | zero =>
    intro m hm ps
    induction ps with
    | nil => exact fun x => Or.inr (by rw [fol_nil, fol_nil])
    | cons p ps ih =>
      intro x
      by_cases hk : x.kind = 2
      · cases hl : L x.dir p with
        | none => exact Or.inr (by rw [fol_none m hk hl, fol_none 0 hk hl])
        | some y =>
          by_cases h3 : y.kind = 3
          · exact Or.inl (by rw [fol_stop hk hl h3])
          · rw [fol_on m hk hl h3, fol_on 0 hk hl h3]
            exact ih y
      · exact Or.inr (by rw [fol_kind L m hk, fol_kind L 0 hk])
  | succ n ihn =>
    intro m hm ps
    obtain ⟨k, rfl⟩ : ∃ k, m = k + 1 := ⟨m - 1, by omega⟩
    induction ps with
    | nil => exact fun x => Or.inr (by rw [fol_nil, fol_nil])
    | cons p ps ih =>
      intro x
      by_cases hk : x.kind = 2
      · cases hl : L x.dir p with
        | none => exact Or.inr (by rw [fol_none (k + 1) hk hl, fol_none (n + 1) hk hl])
        | some y =>
          by_cases h3 : y.kind = 3
          · rw [fol_link hk hl h3, fol_link hk hl h3]
            exact ihn k (by omega) _ _
          · rw [fol_on (k + 1) hk hl h3, fol_on (n + 1) hk hl h3]
            exact ih y
      · exact Or.inr (by rw [fol_kind L (k + 1) hk, fol_kind L (n + 1) hk])

/-- part by part -/
theorem steps_math {l : Txt} {D : Int} {z : Txt} (h : wTo L l = (D, z, 0)) : (wFind L l).1 = 14 ∨ wFind L l = wIn L D z := by
  unfold wTo at h
  by_cases he : N.er l = 0
  · rw [if_pos he] at h
    by_cases hp : N.ps l = []
    · rw [if_pos hp] at h
      cases h
    · rw [if_neg hp] at h
      unfold wFind wIn
      rw [if_pos he]
      obtain ⟨E, y, n', hL⟩ := leads_some (L := L) 8 (N.ps l).dropLast (dirN 0)
      have hfol := leads_is hL
      rw [hfol] at h
      have hz : (N.ps l).getLastD [] = (N.ps l).getLast hp := by
        rw [List.getLastD_eq_getLast?, List.getLast?_eq_some_getLast hp]
        rfl
      have hsplit : N.ps l = (N.ps l).dropLast ++ [(N.ps l).getLast hp] := (List.dropLast_concat_getLast hp).symm
      unfold toR dirR at h
      by_cases hE : E = 0
      · subst hE
        simp only [if_true] at h
        by_cases hk : y.kind = 2
        · rw [if_pos hk] at h
          simp only [if_true, Prod.mk.injEq, and_true] at h
          obtain ⟨rfl, h2⟩ := h
          rcases hL with ⟨_, hn, hr⟩ | ⟨h0, _⟩
          · rw [hsplit, hr, ← hz, h2, ← fol_dir L 8 hk]
            rcases fol_more (L := L) n' 8 hn [z] y with h3 | h3
            · exact Or.inl h3
            · exact Or.inr h3.symm
          · exact absurd rfl h0
        · rw [if_neg hk] at h
          simp at h
      · simp only [hE, if_false] at h
        simp [hE] at h
  · rw [if_neg he] at h
    cases h

theorem up_ps {l : Txt} (h1 : N.er l = 0) (h2 : N.er ([62, 126, 117, 112] ++ l) = 0) : N.ps ([62, 126, 117, 112] ++ l) = [126, 117, 112] :: N.ps l := by
  unfold N.er at h1 h2
  unfold N.ps
  cases hp : N.partsOf l with
  | none => rw [hp] at h1; simp at h1
  | some qs =>
    obtain ⟨hj, hm, h16, h168⟩ := N.partsOf_some hp
    by_cases h0 : qs = []
    · subst h0
      have : l = [62] := hj
      subst this
      exact absurd h2 (by decide)
    · have hbig : [62, 126, 117, 112] ++ l = N.joinOf ([126, 117, 112] :: qs) := by
        rw [hj]
        unfold N.joinOf
        rw [if_neg h0, if_neg (by simp)]
        simp
      have hmay : ∀ p ∈ ([126, 117, 112] : Txt) :: qs, N.may 32 p = true := fun p hp => by
        rcases List.mem_cons.1 hp with rfl | hp
        · decide
        · exact hm p hp
      rw [hbig] at h2 ⊢
      by_cases hlong : 16 < (([126, 117, 112] : Txt) :: qs).length ∨ 168 < (N.joinOf (([126, 117, 112] : Txt) :: qs)).length
      · rw [N.partsOf_long hmay hlong] at h2
        simp at h2
      · rw [N.partsOf_join hmay (by omega) (by omega)]
        rfl

/-- a link to the root ahead of a path -/
theorem root_math {l : Txt} (hL : L 0 [126, 117, 112] = some (linkB [62])) (h3 : ¬ (wFind L l).1 = 3) (h3' : ¬ (wFind L ([62, 126, 117, 112] ++ l)).1 = 3) (h14 : ¬ (wFind L ([62, 126, 117, 112] ++ l)).1 = 14) : wFind L l = wFind L ([62, 126, 117, 112] ++ l) := by
  unfold wFind at *
  by_cases he : N.er l = 0
  · by_cases he' : N.er ([62, 126, 117, 112] ++ l) = 0
    · rw [if_pos he] at h3 ⊢
      rw [if_pos he'] at h3' h14 ⊢
      rw [up_ps he he'] at h3' h14 ⊢
      have hlk : fol L 8 (dirN 0) ([126, 117, 112] :: N.ps l) = fol L 7 (dirN 0) (N.ps l) := fol_link (n := 7) (b := dirN 0) rfl hL rfl _
      rw [hlk] at h3' h14 ⊢
      rcases fol_more (L := L) 7 8 (by omega) (N.ps l) (dirN 0) with h | h
      · exact absurd h h14
      · exact h
    · rw [if_neg he'] at h3'
      exact absurd rfl h3'
  · rw [if_neg he] at h3
    exact absurd rfl h3

end

end Go.Proofs.YtpcdcmoapenbdaaDoor.T

namespace Go.Proofs.YtpcdcmoapenbdaaDoor.T
open Go.ChangeShapes Go.WideShapes Go.ChangeAt Go.RowKit
open Go.Proofs.YtpcdcmoapenbdaaDoor.N (bs bs_data bs_size bs_inj bs_of Glob)
open Go.Proofs.YtpcdcmoapenbdaaDoor.A (Tm TRow)

def Played (w1 : World) (b bm k : Nat) (V : World) : Prop := ∃ c st m, Two w1 V b bm [] c st m ∧ Inv k c st m

theorem two_new {w1 w2 w3 : World} {bm : Nat} {Fm : Nat → Prop} (h1 : TreeAt w2 w1.heap.size (fun i => i = w1.heap.size) 0 noSt) (b1 : Below w1.heap.size w1 w2) (l1 : w1.heap.size < w2.heap.size) (h2 : MAt w3 bm Fm noMs) (b2 : Below w2.heap.size w2 w3) (hF : ∀ i, Fm i → w2.heap.size ≤ i) : Played w1 w1.heap.size bm 0 w3 :=
  ⟨0, noSt, noMs, ⟨fun i => i = w1.heap.size, Fm, {
    t := h1.below b2
    r := h2
    dis := fun i e hf => by have := hF i hf; omega
    gt := fun i e => by omega
    gr := fun i hf => by have := hF i hf; omega
    kept := fun p hp => by cases hp
    bel := bel2 b1 b2 }⟩, inv_new⟩

theorem Played.do_ {w1 V : World} {b bm k : Nat} {a : Option Addr} {cc : Nat} {q : Dd} (h : Played w1 b bm k V) (hk : k ≤ 121) (hg : Glob w1) (ok : DdOk q) (hr : TRow w1 a cc q.br.acl) :
    Calls Tryd.prog 11 #[TP b, TP bm, DdV q a cc] V fun e w' => e = .returned (.bool true) ∧ Played w1 b bm (k + 1) w' := by
  obtain ⟨c, st, m, T, I⟩ := h
  exact (do_any T I hk hg ok hr).mono fun e w' hh => hh
theorem Played.bel {w1 V : World} {b bm k : Nat} (h : Played w1 b bm k V) : Below w1.heap.size w1 V := by
  obtain ⟨c, st, m, T, I⟩ := h
  exact T.bel

/-- two boxes with the same branch in them -/
structure BrS (W : World) (k1 k2 : Nat) (y : Br) (a1 a2 : Option Addr) (c1 c2 : Nat) : Prop where
  x1 : BrAt W k1 y (.slice a1 y.acl.length c1)
  x2 : BrAt W k2 y (.slice a2 y.acl.length c2)
  q1 : TRow W a1 c1 y.acl
  q2 : TRow W a2 c2 y.acl
theorem BrS.below {W W' : World} {k1 k2 : Nat} {y : Br} {a1 a2 : Option Addr} {c1 c2 : Nat} (h : BrS W k1 k2 y a1 a2 c1 c2) (hb : Below W.heap.size W W') : BrS W' k1 k2 y a1 a2 c1 c2 := ⟨h.x1.below hb, h.x2.below hb, h.q1.below hb, h.q2.below hb⟩
theorem BrS.cells {W : World} {k1 k2 : Nat} {y : Br} {a1 a2 : Option Addr} {c1 c2 : Nat} (h : BrS W k1 k2 y a1 a2 c1 c2) :
    (W.cell? ⟨k1, 0, none⟩ = some (.int .i64 y.kind) ∧ W.cell? ⟨k1, 1, none⟩ = some (.int .i64 y.uid) ∧ W.cell? ⟨k1, 2, none⟩ = some (.int .i64 y.dir) ∧ W.cell? ⟨k1, 3, none⟩ = some (.string (bs y.link)) ∧ W.cell? ⟨k1, 4, none⟩ = some (.bool y.obj) ∧ W.cell? ⟨k1, 5, none⟩ = some (.slice a1 y.acl.length c1) ∧ W.cell? ⟨k1, 6, none⟩ = some (.int .i64 y.r1) ∧ W.cell? ⟨k1, 7, none⟩ = some (.int .i64 y.r2) ∧ W.cell? ⟨k1, 8, none⟩ = some (.int .i64 y.r3) ∧ W.cell? ⟨k1, 9, none⟩ = some (.int .i64 y.gt))
    ∧ (W.cell? ⟨k2, 0, none⟩ = some (.int .i64 y.kind) ∧ W.cell? ⟨k2, 1, none⟩ = some (.int .i64 y.uid) ∧ W.cell? ⟨k2, 2, none⟩ = some (.int .i64 y.dir) ∧ W.cell? ⟨k2, 3, none⟩ = some (.string (bs y.link)) ∧ W.cell? ⟨k2, 4, none⟩ = some (.bool y.obj) ∧ W.cell? ⟨k2, 5, none⟩ = some (.slice a2 y.acl.length c2) ∧ W.cell? ⟨k2, 6, none⟩ = some (.int .i64 y.r1) ∧ W.cell? ⟨k2, 7, none⟩ = some (.int .i64 y.r2) ∧ W.cell? ⟨k2, 8, none⟩ = some (.int .i64 y.r3) ∧ W.cell? ⟨k2, 9, none⟩ = some (.int .i64 y.gt)) := ⟨h.x1.cell, h.x2.cell⟩
/-- found, boxed; found again, boxed -/
theorem brs_of {w1 w2 : World} {y : Br} {a1 a2 : Option Addr} {c1 c2 : Nat} (o1 : TRow w1 a1 c1 y.acl) (b2 : Below (w1.heap.size + 1) (w1.alloc (BrO y (.slice a1 y.acl.length c1))) w2) (o2 : TRow w2 a2 c2 y.acl) : BrS (w2.alloc (BrO y (.slice a2 y.acl.length c2))) w1.heap.size w2.heap.size y a1 a2 c1 c2 := by
  have b2' : Below (w1.alloc (BrO y (.slice a1 y.acl.length c1))).heap.size (w1.alloc (BrO y (.slice a1 y.acl.length c1))) w2 := by simpa using b2
  exact ⟨((BrAt.new w1 _ _).below b2').below (one_new _ _), heap_alloc_new _ _, ((o1.below (one_new _ _)).below b2').below (one_new _ _), o2.below (one_new _ _)⟩

theorem fol_row {w w' : World} {R : Int × Br} {E : Int} {y : Br} (hR : R = (E, y)) {e : Ending} (h : FolPost w R e w') : ∃ a' c', e = .returned (.tuple #[BrV y (.slice a' y.acl.length c'), .int .i64 E]) ∧ TRow w' a' c' y.acl ∧ Below w.heap.size w w' := by
  subst hR
  obtain ⟨a', c', he, ho, hb⟩ := h
  obtain ⟨a2, c2, e2, hr⟩ := own_trow ho
  cases e2
  exact ⟨a', c', he, hr, hb⟩

section
variable {w0 V : World} {b bm : Nat} {K : List (Nat × Obj)} {c : Nat} {st : St} {m : Ms} {l : Txt}

end

theorem fol_rng {L : Int → Txt → Option Br} (hL : ∀ d s y, L d s = some y → rng y.dir) : ∀ (n : Nat) (ps : List Txt) (x : Br), rng x.dir → rng (fol L n x ps).2.dir := by
  have h0 : rng noBr.dir := by unfold rng noBr; simp only; omega
  intro n
  induction n with
  | zero =>
    intro ps
    induction ps with
    | nil => exact fun x hx => by rw [fol_nil]; exact hx
    | cons p ps ih =>
      intro x hx
      by_cases hk : x.kind = 2
      · cases hl : L x.dir p with
        | none => rw [fol_none 0 hk hl]; exact h0
        | some y =>
          by_cases h3 : y.kind = 3
          · rw [fol_stop hk hl h3]; exact h0
          · rw [fol_on 0 hk hl h3]
            exact ih y (hL _ _ _ hl)
      · rw [fol_kind L 0 hk]; exact h0
  | succ n ihn =>
    intro ps
    induction ps with
    | nil => exact fun x hx => by rw [fol_nil]; exact hx
    | cons p ps ih =>
      intro x hx
      by_cases hk : x.kind = 2
      · cases hl : L x.dir p with
        | none => rw [fol_none (n + 1) hk hl]; exact h0
        | some y =>
          by_cases h3 : y.kind = 3
          · rw [fol_link hk hl h3]
            exact ihn _ (dirN 0) (by unfold rng dirN; simp only; omega)
          · rw [fol_on (n + 1) hk hl h3]
            exact ih y (hL _ _ _ hl)
      · rw [fol_kind L (n + 1) hk]; exact h0

theorem to_facts {L : Int → Txt → Option Br} (hL : ∀ d s y, L d s = some y → rng y.dir) {l : Txt} {D : Int} {z : Txt} {E : Int} (h : wTo L l = (D, z, E)) : rng D ∧ z.length ≤ 32 := by
  have h0 : rng 0 := by unfold rng; omega
  unfold wTo at h
  by_cases he : N.er l = 0
  · rw [if_pos he] at h
    by_cases hp : N.ps l = []
    · rw [if_pos hp] at h
      cases h
      exact ⟨h0, by simp⟩
    · rw [if_neg hp] at h
      have hz : ((N.ps l).getLastD []).length ≤ 32 := by
        have e : (N.ps l).getLastD [] = (N.ps l).getLast hp := by
          rw [List.getLastD_eq_getLast?, List.getLast?_eq_some_getLast hp]
          rfl
        rw [e]
        exact (N.may_pos (N.ps_may l _ (List.getLast_mem hp))).2.1
      have hr := fol_rng hL 8 (N.ps l).dropLast (dirN 0) (by unfold rng dirN; simp only; omega)
      unfold toR dirR at h
      generalize fol L 8 (dirN 0) (N.ps l).dropLast = R at h hr
      by_cases h1 : R.1 = 0
      · rw [if_pos h1] at h
        by_cases h2 : R.2.kind = 2
        · rw [if_pos h2] at h
          simp only [if_true, Prod.mk.injEq] at h
          obtain ⟨rfl, rfl, _⟩ := h
          exact ⟨hr, hz⟩
        · rw [if_neg h2] at h
          simp at h
          obtain ⟨rfl, rfl, _⟩ := h
          exact ⟨h0, by simp⟩
      · rw [if_neg h1] at h
        simp [h1] at h
        obtain ⟨rfl, rfl, _⟩ := h
        exact ⟨h0, by simp⟩
  · rw [if_neg he] at h
    cases h
    exact ⟨h0, by simp⟩

theorem two_rng {w0 V : World} {b bm : Nat} {K : List (Nat × Obj)} {c : Nat} {st : St} {m : Ms} (h : Two w0 V b bm K c st m) : ∀ d s y, lk st d s = some y → rng y.dir := by
  obtain ⟨F, Fm, h⟩ := h
  exact fun d s y e => (lk_node h.t e).1

theorem fol_acl {L : Int → Txt → Option Br} (hL : ∀ d s y, L d s = some y → y.acl.length ≤ 1000000) : ∀ (n : Nat) (ps : List Txt) (x : Br), x.acl.length ≤ 1000000 → (fol L n x ps).2.acl.length ≤ 1000000 := by
  have h0 : noBr.acl.length ≤ 1000000 := by simp [noBr]
  intro n
  induction n with
  | zero =>
    intro ps
    induction ps with
    | nil => exact fun x hx => by rw [fol_nil]; exact hx
    | cons p ps ih =>
      intro x hx
      by_cases hk : x.kind = 2
      · cases hl : L x.dir p with
        | none => rw [fol_none 0 hk hl]; exact h0
        | some y =>
          by_cases h3 : y.kind = 3
          · rw [fol_stop hk hl h3]; exact h0
          · rw [fol_on 0 hk hl h3]
            exact ih y (hL _ _ _ hl)
      · rw [fol_kind L 0 hk]; exact h0
  | succ n ihn =>
    intro ps
    induction ps with
    | nil => exact fun x hx => by rw [fol_nil]; exact hx
    | cons p ps ih =>
      intro x hx
      by_cases hk : x.kind = 2
      · cases hl : L x.dir p with
        | none => rw [fol_none (n + 1) hk hl]; exact h0
        | some y =>
          by_cases h3 : y.kind = 3
          · rw [fol_link hk hl h3]
            exact ihn _ (dirN 0) (by simp [dirN])
          · rw [fol_on (n + 1) hk hl h3]
            exact ih y (hL _ _ _ hl)
      · rw [fol_kind L (n + 1) hk]; exact h0
theorem lk_acl {w0 V : World} {b bm : Nat} {K : List (Nat × Obj)} {c : Nat} {st : St} {m : Ms} (h : Two w0 V b bm K c st m) : ∀ d s y, lk st d s = some y → y.acl.length ≤ 1000000 := by
  obtain ⟨F, Fm, h⟩ := h
  obtain ⟨_, _, _, _, _, ht⟩ := h.t
  intro d s y e
  unfold lk at e
  cases hp : st.P (d, s) with
  | none => rw [hp] at e; cases e
  | some g =>
    simp only [hp] at e
    cases hn : st.N g with
    | none => rw [hn] at e; cases e
    | some x =>
      rw [hn] at e
      cases e
      exact (ht.node g x hn).ok.acl
theorem two_acl {w0 V : World} {b bm : Nat} {K : List (Nat × Obj)} {c : Nat} {st : St} {m : Ms} {l : Txt} {E : Int} {y : Br} (h : Two w0 V b bm K c st m) (hR : wFind (lk st) l = (E, y)) : y.acl.length ≤ 1000000 := by
  unfold wFind at hR
  split at hR
  · have := fol_acl (lk_acl h) 8 (N.ps l) (dirN 0) (by simp [dirN])
    rw [hR] at this
    exact this
  · cases hR
    simp [noBr]
theorem two_acl_in {w0 V : World} {b bm : Nat} {K : List (Nat × Obj)} {c : Nat} {st : St} {m : Ms} {d : Int} {l : Txt} {E : Int} {y : Br} (h : Two w0 V b bm K c st m) (hR : wIn (lk st) d l = (E, y)) : y.acl.length ≤ 1000000 := by
  unfold wIn at hR
  have := fol_acl (lk_acl h) 8 [l] (dirN d) (by simp [dirN])
  rw [hR] at this
  exact this

theorem small_yes {l : List DD} (h : smallB l = true) : l.length ≤ 121 ∧ ∀ p ∈ l, SmallD p.1 := of_decide_eq_true h


/-- a link to the root, added -/
theorem two_up {w0 V : World} {b bm : Nat} {K : List (Nat × Obj)} {i c : Nat} {st : St} {m : Ms} (h : Two w0 V b bm K c st m) (I : Inv i c st m) (hi : i ≤ 121) (hg : Glob w0) {E : Int} (hE : canE m 0 [126, 117, 112] (litB 3 0 ⟨#[62]⟩) = E) :
    Calls Tryd.prog 18 #[TP b, .int .i64 0, .string ⟨#[126, 117, 112]⟩, LitV 3 0 ⟨#[62]⟩] V fun e w' => ∃ n st', e = .returned (.tuple #[.int .i64 n, .int .i64 E]) ∧ Two w0 w' b bm K (c + 5) st' m ∧ LinksOk st' ∧ (E = 0 → lk st' 0 [126, 117, 112] = some (linkB [62])) := by
  obtain ⟨f, R⟩ := I.rel
  have := tadd_do h R hg (d := 0) (s := (⟨#[126, 117, 112]⟩ : ByteArray).data.toList) (by unfold rng; omega) (by unfold maxLen; decide) (br := litB 3 0 ⟨#[62]⟩) (a := none) (cc := 0) (A.TRow.nil _) (fun t ht => by cases ht) (by unfold maxLen; decide) (by unfold litB; decide) (by have := I.pot; omega)
  rw [show (litB 3 0 ⟨#[62]⟩).acl.length = 0 from rfl, bs_of, ← lit_brv] at this
  refine this.mono fun e w' hh => ?_
  obtain ⟨n, E', st', he, o, T⟩ := hh
  obtain rfl : E' = E := o.1.trans hE
  obtain ⟨m', _, I'⟩ := add_both I o
  refine ⟨n, st', he, T, I'.lt, fun hE => ?_⟩
  obtain ⟨_, ⟨h0, _⟩ | ⟨_, g, _, ⟨k1, _⟩ | ⟨k2, _⟩ | ⟨_, _, rfl⟩⟩⟩ := o
  · exact absurd hE h0
  · exact absurd k1 (by unfold litB; decide)
  · exact absurd k2 (by unfold litB; decide)
  · unfold lk
    have hp : (linkS st g (litB 3 0 ⟨#[62]⟩).link 0 (⟨#[126, 117, 112]⟩ : ByteArray).data.toList).P (0, [126, 117, 112]) = some g := upd_same st.P ((0 : Int), ([126, 117, 112] : Txt)) (some g)
    have hn : (linkS st g (litB 3 0 ⟨#[62]⟩).link 0 (⟨#[126, 117, 112]⟩ : ByteArray).data.toList).N g = some ⟨linkB [62], 0, [[126, 117, 112]]⟩ := upd_same _ _ _
    simp only [hp, hn]
    rfl
theorem cat_up (path : Txt) : (⟨#[62, 126, 117, 112]⟩ : ByteArray) ++ bs path = bs ([62, 126, 117, 112] ++ path) := by
  rw [show (⟨#[62, 126, 117, 112]⟩ : ByteArray) = bs [62, 126, 117, 112] from rfl, N.bs_app]


end Go.Proofs.YtpcdcmoapenbdaaDoor.T
