/-
  Model and Made: a branch as the other has it.
  SameBranch, of equal branches.
-/
import Derived.Test.YtpcdcmoapenbdaaDoorMWalkAll
import Derived.Test.YtpcdcmoapenbdaaDoorACalls
import Derived.BigQuiet
namespace Go.Proofs.YtpcdcmoapenbdaaDoor.T
open Go.ChangeShapes Go.WideShapes Go.ChangeAt Go.RowKit
open Go.Proofs.YtpcdcmoapenbdaaDoor.N (bs bs_data bs_size bs_inj bs_of Glob Row)
open Go.Proofs.YtpcdcmoapenbdaaDoor.A (Tm TRow)

section
variable {w : World}

theorem brAt2 (w : World) (o : Obj) (x : Br) (av : Value) : BrAt ((w.alloc o).alloc (BrO x av)) (w.heap.size + 1) x av := BrAt.behind w o x av
theorem bmAt2 (w : World) (o : Obj) (x : Br) (av : Value) : BmAt ((w.alloc o).alloc (BmO x av)) (w.heap.size + 1) x av := alloc2_new' w _ _

set_option maxHeartbeats 1000000 in
theorem model_any (x : Br) (a : Option Addr) (n c : Nat) :
    Calls Tryd.prog 17 #[BrV x (.slice a n c)] w fun e w' => e = .returned (BrV x (.slice a n c)) ∧ Below w.heap.size w w' := by
  go_enter Tryd.func17, Tryd.ntmps17
  go_wp2
  refine (show bodyPost _ _ _ _ _ ((w.alloc (BrO x (.slice a n c))).alloc (BmO x (.slice a n c))) from ?_)
  have Z := bmAt2 w (BrO x (.slice a n c)) x (.slice a n c)
  have L := bel2 (one_new w (BrO x (.slice a n c))) (one_new _ (BmO x (.slice a n c)))
  generalize (w.alloc (BrO x (.slice a n c))).alloc (BmO x (.slice a n c)) = V5 at Z L ⊢
  obtain ⟨g0, g1, g2, g3, g4, g5, g6, g7, g8, g9⟩ := Z.cell
  exact bodyPost_ret (v := BrV x (.slice a n c)) (by simp [results, Tryd.results17, go_sem, g0, g1, g2, g3, g4, g5, g6, g7, g8, g9]) rfl ⟨rfl, L⟩

set_option maxHeartbeats 1000000 in
theorem made_any (x : Br) (a : Option Addr) (n c : Nat) :
    Calls Tryd.prog 19 #[BrV x (.slice a n c)] w fun e w' => e = .returned (BrV x (.slice a n c)) ∧ Below w.heap.size w w' := by
  go_enter Tryd.func19, Tryd.ntmps19
  go_wp2
  refine (show bodyPost _ _ _ _ _ ((w.alloc (BmO x (.slice a n c))).alloc (BrO x (.slice a n c))) from ?_)
  have Z := brAt2 w (BmO x (.slice a n c)) x (.slice a n c)
  have L := bel2 (one_new w (BmO x (.slice a n c))) (one_new _ (BrO x (.slice a n c)))
  generalize (w.alloc (BmO x (.slice a n c))).alloc (BrO x (.slice a n c)) = V5 at Z L ⊢
  obtain ⟨g0, g1, g2, g3, g4, g5, g6, g7, g8, g9⟩ := Z.cell
  exact bodyPost_ret (v := BrV x (.slice a n c)) (by simp [results, Tryd.results19, go_sem, g0, g1, g2, g3, g4, g5, g6, g7, g8, g9]) rfl ⟨rfl, L⟩

end

end Go.Proofs.YtpcdcmoapenbdaaDoor.T

namespace Go.Proofs.YtpcdcmoapenbdaaDoor.T
open Go.ChangeShapes Go.WideShapes Go.ChangeAt Go.RowKit
open Go.Proofs.YtpcdcmoapenbdaaDoor.N (bs bs_data bs_size bs_inj bs_of Glob Row)
open Go.Proofs.YtpcdcmoapenbdaaDoor.A (Tm TRow)

section
variable {w : World}

set_option maxHeartbeats 4000000 in
set_option maxRecDepth 8000 in
theorem sameBr_yes (x : Br) {a a' : Option Addr} {c c' : Nat} (hr : TRow w a c x.acl) (hs : TRow w a' c' x.acl) (hq : x.acl.length ≤ 1000000) :
    Calls Tryd.prog 16 #[BrV x (.slice a x.acl.length c), BrV x (.slice a' x.acl.length c')] w fun e w' => e = .returned (.bool true) ∧ Below w.heap.size w w' := by
  have BB := Lib.hid (bel2 (one_new w (BmO x (.slice a x.acl.length c))) (one_new (w.alloc (BmO x (.slice a x.acl.length c))) (BmO x (.slice a' x.acl.length c'))))
  have HR := Lib.hid (hr.below BB.out)
  have HS := Lib.hid (hs.below BB.out)
  have gt := A.guard_terms
  have X1 := Lib.hid ((BmAt.new w x (.slice a x.acl.length c)).below (one_new (w.alloc (BmO x (.slice a x.acl.length c))) (BmO x (.slice a' x.acl.length c'))))
  have X2 := Lib.hid (bmAt2 w (BmO x (.slice a x.acl.length c)) x (.slice a' x.acl.length c'))
  clear hr hs
  go_enter Tryd.func16, Tryd.ntmps16
  go_wp2
  refine (show Code.wp _ _ _ _ ((w.alloc (BmO x (.slice a x.acl.length c))).alloc (BmO x (.slice a' x.acl.length c'))) from ?_)
  generalize (w.alloc (BmO x (.slice a x.acl.length c))).alloc (BmO x (.slice a' x.acl.length c')) = V at BB HR HS X1 X2 ⊢
  go_loopw [5] (fun i W => ∃ k n : Nat, k ≤ x.acl.length ∧ i = .int .i64 k ∧ W = V.drewN n) (fun i _ => x.acl.length - (intOf i).toNat)
  case atStart => exact ⟨0, 0, Nat.zero_le _, rfl, rfl⟩
  case round =>
    obtain ⟨k, n, hk, rfl, rfl⟩ := hrel
    have b1 : (V.drewN n).cell? ⟨w.heap.size, 5, none⟩ = some (.slice a x.acl.length c) := X1.out.cell.2.2.2.2.2.1
    have b2 : (V.drewN n).cell? ⟨w.heap.size + 1, 5, none⟩ = some (.slice a' x.acl.length c') := X2.out.cell.2.2.2.2.2.1
    have l1 : w.heap.size < (V.drewN n).heap.size := X1.out.lt
    have l2 : w.heap.size + 1 < (V.drewN n).heap.size := X2.out.lt
    have b3 : V.cell? ⟨w.heap.size, 5, none⟩ = some (.slice a x.acl.length c) := X1.out.cell.2.2.2.2.2.1
    have b4 : V.cell? ⟨w.heap.size + 1, 5, none⟩ = some (.slice a' x.acl.length c') := X2.out.cell.2.2.2.2.2.1
    have l3 : w.heap.size < V.heap.size := X1.out.lt
    have l4 : w.heap.size + 1 < V.heap.size := X2.out.lt
    by_cases hlt : k < x.acl.length
    · obtain ⟨bk, o, rfl, hbk, c0, c1, c2, c3⟩ := HR.out.at_ hlt
      obtain ⟨bk', o', rfl, hbk', d0, d1, d2, d3⟩ := HS.out.at_ hlt
      have hn := A.neq_terms x.acl[k] x.acl[k]
      rw [show decide (x.acl[k] ≠ x.acl[k]) = false by simp] at hn
      go_wp2
      go_quiet (fail)
      go_wp2
      go_roundw
      case rel => exact ⟨k + 1, n + nq, by omega, by go_num, by first | rfl | rw [World.drewN_drewN]⟩
      case measure => simp [intOf]; omega
    · obtain rfl : k = x.acl.length := by omega
      go_wp2
      go_ret
      exact ⟨rfl, below_drewN BB.out n⟩

end

end Go.Proofs.YtpcdcmoapenbdaaDoor.T
