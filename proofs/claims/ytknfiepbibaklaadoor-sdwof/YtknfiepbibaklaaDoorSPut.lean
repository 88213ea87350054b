/-
  What the functions of package store that write answer, and what they leave in memory.
-/
import Derived.Test.YtknfiepbibaklaaDoorSCalls
import Derived.Deep.RegionHeld3
import Derived.Deep.DeepCutAuto
import Derived.StillTailTactics
namespace Go.Proofs.YtknfiepbibaklaaDoor.W
open Go.ChangeShapes Go.WideShapes Go.ChangeAt Go.RowKit

theorem info_word : (Tryd.prog.info? 141).map (fun i => (i.zero, i.size, i.bytes)) = some (some (.int .u64 0), 1, 8) := by kernel_rfl
theorem size_word : (Tryd.prog.info? 141).map (·.size) = some 1 := by kernel_rfl

theorem made_row (n : Nat) : madeCells #[Value.int .u64 0] n = (List.replicate n (Value.int .u64 0)).toArray := by
  apply Array.toList_inj.1
  rw [toList_madeCells_one]

theorem splice_row (ws : List Int) (n : Nat) : splice (List.replicate n (Value.int .u64 0)) 0 ((ws.take n).map (Value.int .u64)) = (rez ws n).map (Value.int .u64) := by
  have e : n - min n ws.length = n - ws.length := by omega
  simp [splice, rez, e]

/-- a slice that holds words: nil, or a whole row -/
def Holds (w : World) (v : Value) (ws : List Int) : Prop := (v = .slice none 0 0 ∧ ws = []) ∨ ∃ g, v = .slice (some ⟨g, 0, none⟩) ws.length ws.length ∧ w.heap[g]? = some (row ws)
theorem Holds.val {w : World} {v : Value} {ws : List Int} (h : Holds w v ws) : ∃ p, v = .slice p ws.length ws.length ∧ (0 < ws.length → ∃ g, p = some ⟨g, 0, none⟩ ∧ w.heap[g]? = some (row ws)) := by
  rcases h with ⟨rfl, rfl⟩ | ⟨g, rfl, hg⟩
  · exact ⟨none, rfl, fun h => by simp at h⟩
  · exact ⟨_, rfl, fun _ => ⟨g, rfl, hg⟩⟩

set_option maxRecDepth 20000 in
theorem resized_any {w : World} {v : Value} {ws : List Int} (hv : Holds w v ws) (hl : ws.length ≤ 1024) (n : Nat) (hn : n ≤ 1024) :
    Calls Tryd.prog 46 #[v, .int .i64 n] w fun e w' => e = .returned (.slice (some ⟨w.heap.size, 0, none⟩) n n) ∧ w'.heap[w.heap.size]? = some (row (rez ws n)) ∧ Below w.heap.size w w' := by
  obtain ⟨p, rfl, hp⟩ := hv.val
  have hmk := run_make_row' (P := Tryd.prog) 86 141 (.int .u64 0) 8 Tryd.underlying86 info_word rfl .i64 .i64 n (by omega) (by omega)
  rw [made_row] at hmk
  have hsrc : 0 < ((ws.take n).map (Value.int .u64)).length → some (⟨w.heap.size, 0, none⟩ : Addr) = some ⟨w.heap.size, 0, none⟩ ∧ ∃ ad, p = some ad ∧ ∀ j v, ((ws.take n).map (Value.int .u64))[j]? = some v → (w.alloc (.cells (List.replicate n (Value.int .u64 0)).toArray 141)).cell? (ad.add j) = some v := by
    intro hpos
    obtain ⟨g, rfl, hg⟩ := hp (by simp at hpos; omega)
    refine ⟨rfl, _, rfl, fun j x hx => ?_⟩
    have hglt := (Array.getElem?_eq_some_iff.1 hg).1
    rw [Addr.add_lit, Nat.zero_add, cell_of_row _ g j _ _ _ ((heap_alloc_old w _ hglt).trans hg)]
    rw [List.map_take, List.getElem?_take] at hx
    split at hx
    · simpa using hx
    · cases hx
  have hcl : ((ws.take n).map (Value.int .u64)).length = Nat.min ws.length n := by rw [List.length_map, List.length_take]; exact Nat.min_comm _ _
  have hfit : 0 + ((ws.take n).map (Value.int .u64)).length ≤ (List.replicate n (Value.int .u64 0)).length := by simp; exact Nat.min_le_left _ _
  have HS := Lib.hid hsrc
  have HC := Lib.hid hcl
  have HF := Lib.hid hfit
  have HB : Hid (Below w.heap.size w (w.alloc (.cells (List.replicate n (Value.int .u64 0)).toArray 141))) := Lib.hid ((Below.refl _ _).alloc (Nat.le_refl _) _)
  clear hp hv hsrc hcl hfit
  go_enter Tryd.func46, Tryd.ntmps46
  go_wp2_with (refine wpList_copy_splice (o := ⟨some 10, _, _, _, _, _⟩) rfl (.tmp 8) (.tmp 9) 86 86 rfl 141 Tryd.underlying86 size_word (some ⟨w.heap.size, 0, none⟩) p n n ws.length ws.length rfl rfl w.heap.size 0 (List.replicate n (Value.int .u64 0)) 141 (heap_alloc_new w _) ((ws.take n).map (Value.int .u64)) HC.out HS.out HF.out (ints_oneCell .u64 _) w.heap.size w HB.out (Nat.le_refl _) ?_; intro w2 hg2 hb2)
  go_ret
  refine ⟨rfl, ?_, hb2⟩
  have := hg2.out
  rw [splice_row] at this
  exact this

section
variable {w : World} {b : Nat} {F : Nat → Prop} {q u l : Int} {c : Nat} {S : Int → Option (List Int)} {m : Option Nat} {loc : Int → Nat}

theorem StoreL.holds (h : StoreL w b F q u l c S m loc) (k : Int) : Holds w (segV S loc k) ((S k).getD []) := by
  unfold segV
  cases hS : S k with
  | none => exact Or.inl ⟨rfl, rfl⟩
  | some ws => exact Or.inr ⟨loc k, rfl, (h.rows k ws hS).1⟩
theorem StoreL.short (h : StoreL w b F q u l c S m loc) (k : Int) : ((S k).getD []).length ≤ 1024 := by
  cases hS : S k with
  | none => simp
  | some ws => exact (h.rows k ws hS).2.2.1
theorem StoreL.drew (h : StoreL w b F q u l c S m loc) : StoreL w.drew b F q u l c S m loc := h.keep (Nat.le_refl _) (fun _ _ => rfl)

theorem off_drew {w v : World} (h : Below w.drew.heap.size w.drew v) : Below w.heap.size w v := ⟨h.os, h.tape, h.output, h.size, h.block⟩

set_option maxRecDepth 20000 in
theorem put_any {mb : Nat} (h : StoreL w b F q u l c S (some mb) loc) {k : Int} (n : Nat) (hn : n ≤ 1024) (h1 : 1 ≤ k) (hl : k ≤ l) (hk : k ≤ 9223372036854775807) (hc : c < 4611686018427387904) (u0 : 0 ≤ u) (u1 : u ≤ 9223372036854774000) :
    Calls Tryd.prog 27 #[SP b, .int .i64 k, .int .i64 n] w fun e w' => e = .returned (.tuple #[]) ∧ StoreL w' b (fun i => F i ∨ i = w.heap.size) q (u + (n - ((S k).getD []).length)) l (c + 1) (upd S k (some (rez ((S k).getD []) n))) (some mb) (upd loc k w.heap.size) ∧ Went F w (fun i => F i ∨ i = w.heap.size) w' := by
  have c3 := h.c3
  have hlk := h.look (k := k) (by omega) hk
  have hd := h.drew
  have hh := hd.holds k
  have hsh := h.short k
  obtain ⟨vp, hv, hp⟩ := hh.val
  rw [hv] at hlk hh
  generalize hws : (S k).getD [] = ws at *
  clear hp hv
  go_enter Tryd.func27, Tryd.ntmps27
  go_wp2_with fail
  go_region_with (first
    | (go_at_call 46; ((with_reducible refine (resized_any hh hsh n hn).mono ?_); rintro e w1 ⟨rfl, hg1, hb1⟩; have hb := off_drew hb1; obtain ⟨w2, hup, hS2, hW2⟩ := h.put rfl hb hg1 (by rw [rez_len]; exact hn) h1 hl hk (by unfold maxLen; omega); rw [rez_len] at hup; have d3 : w1.cell? ⟨b, 3, none⟩ = some (.map (some mb)) := (hb.cell (p := ⟨b, 3, none⟩) h.lt).trans c3; have d1 := hS2.c1; have f1 := hS2.fz 1)))
  all_goals go_wp2
  all_goals exact bodyPost_end (v := .tuple #[]) (by simp [results, Tryd.results27]) rfl ⟨rfl, hS2.setU _, hW2.set (Or.inl h.inF)⟩

theorem StoreL.fresh (h : StoreL w b F q u l c S m loc) {k : Int} (hk : l < k) : S k = none := by
  cases hS : S k with
  | none => rfl
  | some ws =>
    have := (h.rows k ws hS).2.2.2.2
    omega

theorem put_new {mb : Nat} (h : StoreL w b F q u l c S (some mb) loc) (hS : S l = none) (n : Nat) (hn : n ≤ 1024) (hl : 1 ≤ l) (hk : l ≤ 9223372036854775807) (hc : c < 4611686018427387904) (u0 : 0 ≤ u) (u1 : u ≤ 9223372036854774000) :
    Calls Tryd.prog 27 #[SP b, .int .i64 l, .int .i64 n] w fun e w' => e = .returned (.tuple #[]) ∧ ∃ F' loc', StoreL w' b F' q (u + n) l (c + 1) (upd S l (some (List.replicate n 0))) (some mb) loc' ∧ Went F w F' w' := by
  refine (put_any h n hn hl (Int.le_refl _) hk hc u0 u1).mono fun e w' hp => ?_
  obtain ⟨rfl, hp1, hp2⟩ := hp
  rw [hS] at hp1
  simp only [Option.getD_none, List.length_nil, rez_nil] at hp1
  rw [show u + ((n : Int) - ((0 : Nat) : Int)) = u + n by omega] at hp1
  exact ⟨rfl, _, _, hp1, hp2⟩

end

end Go.Proofs.YtknfiepbibaklaaDoor.W
