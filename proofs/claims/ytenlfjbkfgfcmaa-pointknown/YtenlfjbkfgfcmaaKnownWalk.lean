/-
  The law PointKnown answers true: the pointers by hand.
-/
import Derived.Test.YtenlfjbkfgfcmaaPHeap
namespace Go.Proofs.Ytenlfjbkfgfcmaa.W
open Go.ChangeShapes Go.WideShapes Go.ChangeAt Go.RowKit


attribute [local go_sem] field_ring field_off

theorem pack_most (w : World) :
    Calls Try.prog 13 #[PT 4095 7 7 262143] w fun e w' => e = .returned (.tuple #[.int .u64 68719476735, .int .i64 0]) ∧ Below w.heap.size w w' := by
  have h := pack_yes 4095 7 7 262143 w (by decide)
  rw [show packv 4095 7 7 262143 = 68719476735 from by decide] at h
  exact h

theorem known_walk (w : World) :
    Calls Try.prog 4 #[] w fun e w' => e = .returned (.bool true) ∧ Below w.heap.size w w' := by
  go_enter Try.func4, Try.ntmps4
  go_wp2_with (first
    | (go_at_call 7; ((with_reducible refine (awake_any _).mono ?_); rintro e w1 ⟨rfl, h1⟩)))
  have hB : Below w.heap.size w (w1.alloc (.cells #[.int .i64 (-1), .int .i64 0, .int .i64 0, .int .i64 0, .int .i64 4096, .int .i64 0, .int .i64 0, .int .i64 0, .int .i64 0, .int .i64 8, .int .i64 0, .int .i64 0, .int .i64 0, .int .i64 (-1), .int .i64 0, .int .i64 0, .int .i64 0, .int .i64 0, .int .i64 8, .int .i64 0, .int .i64 0, .int .i64 0, .int .i64 0, .int .i64 262144, .int .i64 0, .int .i64 0, .int .i64 0, .int .i64 (-1)] 23)) := h1.alloc h1.size _
  have hz : w1.heap.size < (w1.alloc (.cells #[.int .i64 (-1), .int .i64 0, .int .i64 0, .int .i64 0, .int .i64 4096, .int .i64 0, .int .i64 0, .int .i64 0, .int .i64 0, .int .i64 8, .int .i64 0, .int .i64 0, .int .i64 0, .int .i64 (-1), .int .i64 0, .int .i64 0, .int .i64 0, .int .i64 0, .int .i64 8, .int .i64 0, .int .i64 0, .int .i64 0, .int .i64 0, .int .i64 262144, .int .i64 0, .int .i64 0, .int .i64 0, .int .i64 (-1)] 23)).heap.size := by simp
  have c0 : (w1.alloc (.cells #[.int .i64 (-1), .int .i64 0, .int .i64 0, .int .i64 0, .int .i64 4096, .int .i64 0, .int .i64 0, .int .i64 0, .int .i64 0, .int .i64 8, .int .i64 0, .int .i64 0, .int .i64 0, .int .i64 (-1), .int .i64 0, .int .i64 0, .int .i64 0, .int .i64 0, .int .i64 8, .int .i64 0, .int .i64 0, .int .i64 0, .int .i64 0, .int .i64 262144, .int .i64 0, .int .i64 0, .int .i64 0, .int .i64 (-1)] 23)).cell? ⟨w1.heap.size, 0, none⟩ = some (.int .i64 (-1)) := by simp [go_sem]
  have c1 : (w1.alloc (.cells #[.int .i64 (-1), .int .i64 0, .int .i64 0, .int .i64 0, .int .i64 4096, .int .i64 0, .int .i64 0, .int .i64 0, .int .i64 0, .int .i64 8, .int .i64 0, .int .i64 0, .int .i64 0, .int .i64 (-1), .int .i64 0, .int .i64 0, .int .i64 0, .int .i64 0, .int .i64 8, .int .i64 0, .int .i64 0, .int .i64 0, .int .i64 0, .int .i64 262144, .int .i64 0, .int .i64 0, .int .i64 0, .int .i64 (-1)] 23)).cell? ⟨w1.heap.size, 1, none⟩ = some (.int .i64 0) := by simp [go_sem]
  have c2 : (w1.alloc (.cells #[.int .i64 (-1), .int .i64 0, .int .i64 0, .int .i64 0, .int .i64 4096, .int .i64 0, .int .i64 0, .int .i64 0, .int .i64 0, .int .i64 8, .int .i64 0, .int .i64 0, .int .i64 0, .int .i64 (-1), .int .i64 0, .int .i64 0, .int .i64 0, .int .i64 0, .int .i64 8, .int .i64 0, .int .i64 0, .int .i64 0, .int .i64 0, .int .i64 262144, .int .i64 0, .int .i64 0, .int .i64 0, .int .i64 (-1)] 23)).cell? ⟨w1.heap.size, 2, none⟩ = some (.int .i64 0) := by simp [go_sem]
  have c3 : (w1.alloc (.cells #[.int .i64 (-1), .int .i64 0, .int .i64 0, .int .i64 0, .int .i64 4096, .int .i64 0, .int .i64 0, .int .i64 0, .int .i64 0, .int .i64 8, .int .i64 0, .int .i64 0, .int .i64 0, .int .i64 (-1), .int .i64 0, .int .i64 0, .int .i64 0, .int .i64 0, .int .i64 8, .int .i64 0, .int .i64 0, .int .i64 0, .int .i64 0, .int .i64 262144, .int .i64 0, .int .i64 0, .int .i64 0, .int .i64 (-1)] 23)).cell? ⟨w1.heap.size, 3, none⟩ = some (.int .i64 0) := by simp [go_sem]
  have c4 : (w1.alloc (.cells #[.int .i64 (-1), .int .i64 0, .int .i64 0, .int .i64 0, .int .i64 4096, .int .i64 0, .int .i64 0, .int .i64 0, .int .i64 0, .int .i64 8, .int .i64 0, .int .i64 0, .int .i64 0, .int .i64 (-1), .int .i64 0, .int .i64 0, .int .i64 0, .int .i64 0, .int .i64 8, .int .i64 0, .int .i64 0, .int .i64 0, .int .i64 0, .int .i64 262144, .int .i64 0, .int .i64 0, .int .i64 0, .int .i64 (-1)] 23)).cell? ⟨w1.heap.size, 4, none⟩ = some (.int .i64 4096) := by simp [go_sem]
  have c5 : (w1.alloc (.cells #[.int .i64 (-1), .int .i64 0, .int .i64 0, .int .i64 0, .int .i64 4096, .int .i64 0, .int .i64 0, .int .i64 0, .int .i64 0, .int .i64 8, .int .i64 0, .int .i64 0, .int .i64 0, .int .i64 (-1), .int .i64 0, .int .i64 0, .int .i64 0, .int .i64 0, .int .i64 8, .int .i64 0, .int .i64 0, .int .i64 0, .int .i64 0, .int .i64 262144, .int .i64 0, .int .i64 0, .int .i64 0, .int .i64 (-1)] 23)).cell? ⟨w1.heap.size, 5, none⟩ = some (.int .i64 0) := by simp [go_sem]
  have c6 : (w1.alloc (.cells #[.int .i64 (-1), .int .i64 0, .int .i64 0, .int .i64 0, .int .i64 4096, .int .i64 0, .int .i64 0, .int .i64 0, .int .i64 0, .int .i64 8, .int .i64 0, .int .i64 0, .int .i64 0, .int .i64 (-1), .int .i64 0, .int .i64 0, .int .i64 0, .int .i64 0, .int .i64 8, .int .i64 0, .int .i64 0, .int .i64 0, .int .i64 0, .int .i64 262144, .int .i64 0, .int .i64 0, .int .i64 0, .int .i64 (-1)] 23)).cell? ⟨w1.heap.size, 6, none⟩ = some (.int .i64 0) := by simp [go_sem]
  have c7 : (w1.alloc (.cells #[.int .i64 (-1), .int .i64 0, .int .i64 0, .int .i64 0, .int .i64 4096, .int .i64 0, .int .i64 0, .int .i64 0, .int .i64 0, .int .i64 8, .int .i64 0, .int .i64 0, .int .i64 0, .int .i64 (-1), .int .i64 0, .int .i64 0, .int .i64 0, .int .i64 0, .int .i64 8, .int .i64 0, .int .i64 0, .int .i64 0, .int .i64 0, .int .i64 262144, .int .i64 0, .int .i64 0, .int .i64 0, .int .i64 (-1)] 23)).cell? ⟨w1.heap.size, 7, none⟩ = some (.int .i64 0) := by simp [go_sem]
  have c8 : (w1.alloc (.cells #[.int .i64 (-1), .int .i64 0, .int .i64 0, .int .i64 0, .int .i64 4096, .int .i64 0, .int .i64 0, .int .i64 0, .int .i64 0, .int .i64 8, .int .i64 0, .int .i64 0, .int .i64 0, .int .i64 (-1), .int .i64 0, .int .i64 0, .int .i64 0, .int .i64 0, .int .i64 8, .int .i64 0, .int .i64 0, .int .i64 0, .int .i64 0, .int .i64 262144, .int .i64 0, .int .i64 0, .int .i64 0, .int .i64 (-1)] 23)).cell? ⟨w1.heap.size, 8, none⟩ = some (.int .i64 0) := by simp [go_sem]
  have c9 : (w1.alloc (.cells #[.int .i64 (-1), .int .i64 0, .int .i64 0, .int .i64 0, .int .i64 4096, .int .i64 0, .int .i64 0, .int .i64 0, .int .i64 0, .int .i64 8, .int .i64 0, .int .i64 0, .int .i64 0, .int .i64 (-1), .int .i64 0, .int .i64 0, .int .i64 0, .int .i64 0, .int .i64 8, .int .i64 0, .int .i64 0, .int .i64 0, .int .i64 0, .int .i64 262144, .int .i64 0, .int .i64 0, .int .i64 0, .int .i64 (-1)] 23)).cell? ⟨w1.heap.size, 9, none⟩ = some (.int .i64 8) := by simp [go_sem]
  have c10 : (w1.alloc (.cells #[.int .i64 (-1), .int .i64 0, .int .i64 0, .int .i64 0, .int .i64 4096, .int .i64 0, .int .i64 0, .int .i64 0, .int .i64 0, .int .i64 8, .int .i64 0, .int .i64 0, .int .i64 0, .int .i64 (-1), .int .i64 0, .int .i64 0, .int .i64 0, .int .i64 0, .int .i64 8, .int .i64 0, .int .i64 0, .int .i64 0, .int .i64 0, .int .i64 262144, .int .i64 0, .int .i64 0, .int .i64 0, .int .i64 (-1)] 23)).cell? ⟨w1.heap.size, 10, none⟩ = some (.int .i64 0) := by simp [go_sem]
  have c11 : (w1.alloc (.cells #[.int .i64 (-1), .int .i64 0, .int .i64 0, .int .i64 0, .int .i64 4096, .int .i64 0, .int .i64 0, .int .i64 0, .int .i64 0, .int .i64 8, .int .i64 0, .int .i64 0, .int .i64 0, .int .i64 (-1), .int .i64 0, .int .i64 0, .int .i64 0, .int .i64 0, .int .i64 8, .int .i64 0, .int .i64 0, .int .i64 0, .int .i64 0, .int .i64 262144, .int .i64 0, .int .i64 0, .int .i64 0, .int .i64 (-1)] 23)).cell? ⟨w1.heap.size, 11, none⟩ = some (.int .i64 0) := by simp [go_sem]
  have c12 : (w1.alloc (.cells #[.int .i64 (-1), .int .i64 0, .int .i64 0, .int .i64 0, .int .i64 4096, .int .i64 0, .int .i64 0, .int .i64 0, .int .i64 0, .int .i64 8, .int .i64 0, .int .i64 0, .int .i64 0, .int .i64 (-1), .int .i64 0, .int .i64 0, .int .i64 0, .int .i64 0, .int .i64 8, .int .i64 0, .int .i64 0, .int .i64 0, .int .i64 0, .int .i64 262144, .int .i64 0, .int .i64 0, .int .i64 0, .int .i64 (-1)] 23)).cell? ⟨w1.heap.size, 12, none⟩ = some (.int .i64 0) := by simp [go_sem]
  have c13 : (w1.alloc (.cells #[.int .i64 (-1), .int .i64 0, .int .i64 0, .int .i64 0, .int .i64 4096, .int .i64 0, .int .i64 0, .int .i64 0, .int .i64 0, .int .i64 8, .int .i64 0, .int .i64 0, .int .i64 0, .int .i64 (-1), .int .i64 0, .int .i64 0, .int .i64 0, .int .i64 0, .int .i64 8, .int .i64 0, .int .i64 0, .int .i64 0, .int .i64 0, .int .i64 262144, .int .i64 0, .int .i64 0, .int .i64 0, .int .i64 (-1)] 23)).cell? ⟨w1.heap.size, 13, none⟩ = some (.int .i64 (-1)) := by simp [go_sem]
  have c14 : (w1.alloc (.cells #[.int .i64 (-1), .int .i64 0, .int .i64 0, .int .i64 0, .int .i64 4096, .int .i64 0, .int .i64 0, .int .i64 0, .int .i64 0, .int .i64 8, .int .i64 0, .int .i64 0, .int .i64 0, .int .i64 (-1), .int .i64 0, .int .i64 0, .int .i64 0, .int .i64 0, .int .i64 8, .int .i64 0, .int .i64 0, .int .i64 0, .int .i64 0, .int .i64 262144, .int .i64 0, .int .i64 0, .int .i64 0, .int .i64 (-1)] 23)).cell? ⟨w1.heap.size, 14, none⟩ = some (.int .i64 0) := by simp [go_sem]
  have c15 : (w1.alloc (.cells #[.int .i64 (-1), .int .i64 0, .int .i64 0, .int .i64 0, .int .i64 4096, .int .i64 0, .int .i64 0, .int .i64 0, .int .i64 0, .int .i64 8, .int .i64 0, .int .i64 0, .int .i64 0, .int .i64 (-1), .int .i64 0, .int .i64 0, .int .i64 0, .int .i64 0, .int .i64 8, .int .i64 0, .int .i64 0, .int .i64 0, .int .i64 0, .int .i64 262144, .int .i64 0, .int .i64 0, .int .i64 0, .int .i64 (-1)] 23)).cell? ⟨w1.heap.size, 15, none⟩ = some (.int .i64 0) := by simp [go_sem]
  have c16 : (w1.alloc (.cells #[.int .i64 (-1), .int .i64 0, .int .i64 0, .int .i64 0, .int .i64 4096, .int .i64 0, .int .i64 0, .int .i64 0, .int .i64 0, .int .i64 8, .int .i64 0, .int .i64 0, .int .i64 0, .int .i64 (-1), .int .i64 0, .int .i64 0, .int .i64 0, .int .i64 0, .int .i64 8, .int .i64 0, .int .i64 0, .int .i64 0, .int .i64 0, .int .i64 262144, .int .i64 0, .int .i64 0, .int .i64 0, .int .i64 (-1)] 23)).cell? ⟨w1.heap.size, 16, none⟩ = some (.int .i64 0) := by simp [go_sem]
  have c17 : (w1.alloc (.cells #[.int .i64 (-1), .int .i64 0, .int .i64 0, .int .i64 0, .int .i64 4096, .int .i64 0, .int .i64 0, .int .i64 0, .int .i64 0, .int .i64 8, .int .i64 0, .int .i64 0, .int .i64 0, .int .i64 (-1), .int .i64 0, .int .i64 0, .int .i64 0, .int .i64 0, .int .i64 8, .int .i64 0, .int .i64 0, .int .i64 0, .int .i64 0, .int .i64 262144, .int .i64 0, .int .i64 0, .int .i64 0, .int .i64 (-1)] 23)).cell? ⟨w1.heap.size, 17, none⟩ = some (.int .i64 0) := by simp [go_sem]
  have c18 : (w1.alloc (.cells #[.int .i64 (-1), .int .i64 0, .int .i64 0, .int .i64 0, .int .i64 4096, .int .i64 0, .int .i64 0, .int .i64 0, .int .i64 0, .int .i64 8, .int .i64 0, .int .i64 0, .int .i64 0, .int .i64 (-1), .int .i64 0, .int .i64 0, .int .i64 0, .int .i64 0, .int .i64 8, .int .i64 0, .int .i64 0, .int .i64 0, .int .i64 0, .int .i64 262144, .int .i64 0, .int .i64 0, .int .i64 0, .int .i64 (-1)] 23)).cell? ⟨w1.heap.size, 18, none⟩ = some (.int .i64 8) := by simp [go_sem]
  have c19 : (w1.alloc (.cells #[.int .i64 (-1), .int .i64 0, .int .i64 0, .int .i64 0, .int .i64 4096, .int .i64 0, .int .i64 0, .int .i64 0, .int .i64 0, .int .i64 8, .int .i64 0, .int .i64 0, .int .i64 0, .int .i64 (-1), .int .i64 0, .int .i64 0, .int .i64 0, .int .i64 0, .int .i64 8, .int .i64 0, .int .i64 0, .int .i64 0, .int .i64 0, .int .i64 262144, .int .i64 0, .int .i64 0, .int .i64 0, .int .i64 (-1)] 23)).cell? ⟨w1.heap.size, 19, none⟩ = some (.int .i64 0) := by simp [go_sem]
  have c20 : (w1.alloc (.cells #[.int .i64 (-1), .int .i64 0, .int .i64 0, .int .i64 0, .int .i64 4096, .int .i64 0, .int .i64 0, .int .i64 0, .int .i64 0, .int .i64 8, .int .i64 0, .int .i64 0, .int .i64 0, .int .i64 (-1), .int .i64 0, .int .i64 0, .int .i64 0, .int .i64 0, .int .i64 8, .int .i64 0, .int .i64 0, .int .i64 0, .int .i64 0, .int .i64 262144, .int .i64 0, .int .i64 0, .int .i64 0, .int .i64 (-1)] 23)).cell? ⟨w1.heap.size, 20, none⟩ = some (.int .i64 0) := by simp [go_sem]
  have c21 : (w1.alloc (.cells #[.int .i64 (-1), .int .i64 0, .int .i64 0, .int .i64 0, .int .i64 4096, .int .i64 0, .int .i64 0, .int .i64 0, .int .i64 0, .int .i64 8, .int .i64 0, .int .i64 0, .int .i64 0, .int .i64 (-1), .int .i64 0, .int .i64 0, .int .i64 0, .int .i64 0, .int .i64 8, .int .i64 0, .int .i64 0, .int .i64 0, .int .i64 0, .int .i64 262144, .int .i64 0, .int .i64 0, .int .i64 0, .int .i64 (-1)] 23)).cell? ⟨w1.heap.size, 21, none⟩ = some (.int .i64 0) := by simp [go_sem]
  have c22 : (w1.alloc (.cells #[.int .i64 (-1), .int .i64 0, .int .i64 0, .int .i64 0, .int .i64 4096, .int .i64 0, .int .i64 0, .int .i64 0, .int .i64 0, .int .i64 8, .int .i64 0, .int .i64 0, .int .i64 0, .int .i64 (-1), .int .i64 0, .int .i64 0, .int .i64 0, .int .i64 0, .int .i64 8, .int .i64 0, .int .i64 0, .int .i64 0, .int .i64 0, .int .i64 262144, .int .i64 0, .int .i64 0, .int .i64 0, .int .i64 (-1)] 23)).cell? ⟨w1.heap.size, 22, none⟩ = some (.int .i64 0) := by simp [go_sem]
  have c23 : (w1.alloc (.cells #[.int .i64 (-1), .int .i64 0, .int .i64 0, .int .i64 0, .int .i64 4096, .int .i64 0, .int .i64 0, .int .i64 0, .int .i64 0, .int .i64 8, .int .i64 0, .int .i64 0, .int .i64 0, .int .i64 (-1), .int .i64 0, .int .i64 0, .int .i64 0, .int .i64 0, .int .i64 8, .int .i64 0, .int .i64 0, .int .i64 0, .int .i64 0, .int .i64 262144, .int .i64 0, .int .i64 0, .int .i64 0, .int .i64 (-1)] 23)).cell? ⟨w1.heap.size, 23, none⟩ = some (.int .i64 262144) := by simp [go_sem]
  have c24 : (w1.alloc (.cells #[.int .i64 (-1), .int .i64 0, .int .i64 0, .int .i64 0, .int .i64 4096, .int .i64 0, .int .i64 0, .int .i64 0, .int .i64 0, .int .i64 8, .int .i64 0, .int .i64 0, .int .i64 0, .int .i64 (-1), .int .i64 0, .int .i64 0, .int .i64 0, .int .i64 0, .int .i64 8, .int .i64 0, .int .i64 0, .int .i64 0, .int .i64 0, .int .i64 262144, .int .i64 0, .int .i64 0, .int .i64 0, .int .i64 (-1)] 23)).cell? ⟨w1.heap.size, 24, none⟩ = some (.int .i64 0) := by simp [go_sem]
  have c25 : (w1.alloc (.cells #[.int .i64 (-1), .int .i64 0, .int .i64 0, .int .i64 0, .int .i64 4096, .int .i64 0, .int .i64 0, .int .i64 0, .int .i64 0, .int .i64 8, .int .i64 0, .int .i64 0, .int .i64 0, .int .i64 (-1), .int .i64 0, .int .i64 0, .int .i64 0, .int .i64 0, .int .i64 8, .int .i64 0, .int .i64 0, .int .i64 0, .int .i64 0, .int .i64 262144, .int .i64 0, .int .i64 0, .int .i64 0, .int .i64 (-1)] 23)).cell? ⟨w1.heap.size, 25, none⟩ = some (.int .i64 0) := by simp [go_sem]
  have c26 : (w1.alloc (.cells #[.int .i64 (-1), .int .i64 0, .int .i64 0, .int .i64 0, .int .i64 4096, .int .i64 0, .int .i64 0, .int .i64 0, .int .i64 0, .int .i64 8, .int .i64 0, .int .i64 0, .int .i64 0, .int .i64 (-1), .int .i64 0, .int .i64 0, .int .i64 0, .int .i64 0, .int .i64 8, .int .i64 0, .int .i64 0, .int .i64 0, .int .i64 0, .int .i64 262144, .int .i64 0, .int .i64 0, .int .i64 0, .int .i64 (-1)] 23)).cell? ⟨w1.heap.size, 26, none⟩ = some (.int .i64 0) := by simp [go_sem]
  have c27 : (w1.alloc (.cells #[.int .i64 (-1), .int .i64 0, .int .i64 0, .int .i64 0, .int .i64 4096, .int .i64 0, .int .i64 0, .int .i64 0, .int .i64 0, .int .i64 8, .int .i64 0, .int .i64 0, .int .i64 0, .int .i64 (-1), .int .i64 0, .int .i64 0, .int .i64 0, .int .i64 0, .int .i64 8, .int .i64 0, .int .i64 0, .int .i64 0, .int .i64 0, .int .i64 262144, .int .i64 0, .int .i64 0, .int .i64 0, .int .i64 (-1)] 23)).cell? ⟨w1.heap.size, 27, none⟩ = some (.int .i64 (-1)) := by simp [go_sem]
  generalize w1.alloc (.cells #[.int .i64 (-1), .int .i64 0, .int .i64 0, .int .i64 0, .int .i64 4096, .int .i64 0, .int .i64 0, .int .i64 0, .int .i64 0, .int .i64 8, .int .i64 0, .int .i64 0, .int .i64 0, .int .i64 (-1), .int .i64 0, .int .i64 0, .int .i64 0, .int .i64 0, .int .i64 8, .int .i64 0, .int .i64 0, .int .i64 0, .int .i64 0, .int .i64 262144, .int .i64 0, .int .i64 0, .int .i64 0, .int .i64 (-1)] 23) = W0 at *
  go_loopw [2] (fun i W => ∃ k : Int, 0 ≤ k ∧ k ≤ 7 ∧ i = .int .i64 k ∧ Below W0.heap.size W0 W) (fun i _ => 7 - (intOf i).toNat)
  case atStart => exact ⟨0, by omega, by omega, rfl, Below.refl _ _⟩
  case round =>
    obtain ⟨k, k0, k7, rfl, hW⟩ := hrel
    have hy := Nat.lt_of_lt_of_le hz hW.size
    have hk : k = 0 ∨ k = 1 ∨ k = 2 ∨ k = 3 ∨ k = 4 ∨ k = 5 ∨ k = 6 ∨ k = 7 := by omega
    rcases hk with rfl | rfl | rfl | rfl | rfl | rfl | rfl | rfl
    · have d0 := (hW.cell (p := ⟨w1.heap.size, 0, none⟩) hz).trans c0
      have d1 := (hW.cell (p := ⟨w1.heap.size, 1, none⟩) hz).trans c1
      have d2 := (hW.cell (p := ⟨w1.heap.size, 2, none⟩) hz).trans c2
      have d3 := (hW.cell (p := ⟨w1.heap.size, 3, none⟩) hz).trans c3
      clear c0 c1 c2 c3 c4 c5 c6 c7 c8 c9 c10 c11 c12 c13 c14 c15 c16 c17 c18 c19 c20 c21 c22 c23 c24 c25 c26 c27
      go_wp2_with (first
        | (go_at_call 13; ((with_reducible refine (pack_no (-1) 0 0 0 _ (by decide)).mono ?_); rintro e w2 ⟨rfl, h2⟩; have k2 := old_cell h2; have z2 := h2.size))
        | (go_at_call 12; ((with_reducible refine (may_no (-1) 0 0 0 _ (by decide)).mono ?_); rintro e w3 ⟨rfl, h3⟩; have z3 := h3.size)))
      go_roundw
      case rel => exact ⟨1, by omega, by omega, rfl, hW.trans ((h2.mono hW.size).trans (h3.mono (Nat.le_trans hW.size h2.size)))⟩
      case measure => simp [intOf]
    · have d0 := (hW.cell (p := ⟨w1.heap.size, 4, none⟩) hz).trans c4
      have d1 := (hW.cell (p := ⟨w1.heap.size, 5, none⟩) hz).trans c5
      have d2 := (hW.cell (p := ⟨w1.heap.size, 6, none⟩) hz).trans c6
      have d3 := (hW.cell (p := ⟨w1.heap.size, 7, none⟩) hz).trans c7
      clear c0 c1 c2 c3 c4 c5 c6 c7 c8 c9 c10 c11 c12 c13 c14 c15 c16 c17 c18 c19 c20 c21 c22 c23 c24 c25 c26 c27
      go_wp2_with (first
        | (go_at_call 13; ((with_reducible refine (pack_no 4096 0 0 0 _ (by decide)).mono ?_); rintro e w2 ⟨rfl, h2⟩; have k2 := old_cell h2; have z2 := h2.size))
        | (go_at_call 12; ((with_reducible refine (may_no 4096 0 0 0 _ (by decide)).mono ?_); rintro e w3 ⟨rfl, h3⟩; have z3 := h3.size)))
      go_roundw
      case rel => exact ⟨2, by omega, by omega, rfl, hW.trans ((h2.mono hW.size).trans (h3.mono (Nat.le_trans hW.size h2.size)))⟩
      case measure => simp [intOf]
    · have d0 := (hW.cell (p := ⟨w1.heap.size, 8, none⟩) hz).trans c8
      have d1 := (hW.cell (p := ⟨w1.heap.size, 9, none⟩) hz).trans c9
      have d2 := (hW.cell (p := ⟨w1.heap.size, 10, none⟩) hz).trans c10
      have d3 := (hW.cell (p := ⟨w1.heap.size, 11, none⟩) hz).trans c11
      clear c0 c1 c2 c3 c4 c5 c6 c7 c8 c9 c10 c11 c12 c13 c14 c15 c16 c17 c18 c19 c20 c21 c22 c23 c24 c25 c26 c27
      go_wp2_with (first
        | (go_at_call 13; ((with_reducible refine (pack_no 0 8 0 0 _ (by decide)).mono ?_); rintro e w2 ⟨rfl, h2⟩; have k2 := old_cell h2; have z2 := h2.size))
        | (go_at_call 12; ((with_reducible refine (may_no 0 8 0 0 _ (by decide)).mono ?_); rintro e w3 ⟨rfl, h3⟩; have z3 := h3.size)))
      go_roundw
      case rel => exact ⟨3, by omega, by omega, rfl, hW.trans ((h2.mono hW.size).trans (h3.mono (Nat.le_trans hW.size h2.size)))⟩
      case measure => simp [intOf]
    · have d0 := (hW.cell (p := ⟨w1.heap.size, 12, none⟩) hz).trans c12
      have d1 := (hW.cell (p := ⟨w1.heap.size, 13, none⟩) hz).trans c13
      have d2 := (hW.cell (p := ⟨w1.heap.size, 14, none⟩) hz).trans c14
      have d3 := (hW.cell (p := ⟨w1.heap.size, 15, none⟩) hz).trans c15
      clear c0 c1 c2 c3 c4 c5 c6 c7 c8 c9 c10 c11 c12 c13 c14 c15 c16 c17 c18 c19 c20 c21 c22 c23 c24 c25 c26 c27
      go_wp2_with (first
        | (go_at_call 13; ((with_reducible refine (pack_no 0 (-1) 0 0 _ (by decide)).mono ?_); rintro e w2 ⟨rfl, h2⟩; have k2 := old_cell h2; have z2 := h2.size))
        | (go_at_call 12; ((with_reducible refine (may_no 0 (-1) 0 0 _ (by decide)).mono ?_); rintro e w3 ⟨rfl, h3⟩; have z3 := h3.size)))
      go_roundw
      case rel => exact ⟨4, by omega, by omega, rfl, hW.trans ((h2.mono hW.size).trans (h3.mono (Nat.le_trans hW.size h2.size)))⟩
      case measure => simp [intOf]
    · have d0 := (hW.cell (p := ⟨w1.heap.size, 16, none⟩) hz).trans c16
      have d1 := (hW.cell (p := ⟨w1.heap.size, 17, none⟩) hz).trans c17
      have d2 := (hW.cell (p := ⟨w1.heap.size, 18, none⟩) hz).trans c18
      have d3 := (hW.cell (p := ⟨w1.heap.size, 19, none⟩) hz).trans c19
      clear c0 c1 c2 c3 c4 c5 c6 c7 c8 c9 c10 c11 c12 c13 c14 c15 c16 c17 c18 c19 c20 c21 c22 c23 c24 c25 c26 c27
      go_wp2_with (first
        | (go_at_call 13; ((with_reducible refine (pack_no 0 0 8 0 _ (by decide)).mono ?_); rintro e w2 ⟨rfl, h2⟩; have k2 := old_cell h2; have z2 := h2.size))
        | (go_at_call 12; ((with_reducible refine (may_no 0 0 8 0 _ (by decide)).mono ?_); rintro e w3 ⟨rfl, h3⟩; have z3 := h3.size)))
      go_roundw
      case rel => exact ⟨5, by omega, by omega, rfl, hW.trans ((h2.mono hW.size).trans (h3.mono (Nat.le_trans hW.size h2.size)))⟩
      case measure => simp [intOf]
    · have d0 := (hW.cell (p := ⟨w1.heap.size, 20, none⟩) hz).trans c20
      have d1 := (hW.cell (p := ⟨w1.heap.size, 21, none⟩) hz).trans c21
      have d2 := (hW.cell (p := ⟨w1.heap.size, 22, none⟩) hz).trans c22
      have d3 := (hW.cell (p := ⟨w1.heap.size, 23, none⟩) hz).trans c23
      clear c0 c1 c2 c3 c4 c5 c6 c7 c8 c9 c10 c11 c12 c13 c14 c15 c16 c17 c18 c19 c20 c21 c22 c23 c24 c25 c26 c27
      go_wp2_with (first
        | (go_at_call 13; ((with_reducible refine (pack_no 0 0 0 262144 _ (by decide)).mono ?_); rintro e w2 ⟨rfl, h2⟩; have k2 := old_cell h2; have z2 := h2.size))
        | (go_at_call 12; ((with_reducible refine (may_no 0 0 0 262144 _ (by decide)).mono ?_); rintro e w3 ⟨rfl, h3⟩; have z3 := h3.size)))
      go_roundw
      case rel => exact ⟨6, by omega, by omega, rfl, hW.trans ((h2.mono hW.size).trans (h3.mono (Nat.le_trans hW.size h2.size)))⟩
      case measure => simp [intOf]
    · have d0 := (hW.cell (p := ⟨w1.heap.size, 24, none⟩) hz).trans c24
      have d1 := (hW.cell (p := ⟨w1.heap.size, 25, none⟩) hz).trans c25
      have d2 := (hW.cell (p := ⟨w1.heap.size, 26, none⟩) hz).trans c26
      have d3 := (hW.cell (p := ⟨w1.heap.size, 27, none⟩) hz).trans c27
      clear c0 c1 c2 c3 c4 c5 c6 c7 c8 c9 c10 c11 c12 c13 c14 c15 c16 c17 c18 c19 c20 c21 c22 c23 c24 c25 c26 c27
      go_wp2_with (first
        | (go_at_call 13; ((with_reducible refine (pack_no 0 0 0 (-1) _ (by decide)).mono ?_); rintro e w2 ⟨rfl, h2⟩; have k2 := old_cell h2; have z2 := h2.size))
        | (go_at_call 12; ((with_reducible refine (may_no 0 0 0 (-1) _ (by decide)).mono ?_); rintro e w3 ⟨rfl, h3⟩; have z3 := h3.size)))
      go_roundw
      case rel => exact ⟨7, by omega, by omega, rfl, hW.trans ((h2.mono hW.size).trans (h3.mono (Nat.le_trans hW.size h2.size)))⟩
      case measure => simp [intOf]
    · have e1 : (rv 3 5 == 5) = true := by decide
      have e2 : (rv 3 (-4) == 3) = true := by decide
      have e3 : (rv 0 99 == 7) = true := by decide
      have e4 : (mv 1 (-2) == 262143) = true := by decide
      have e5 : (mv 262143 1 == 0) = true := by decide
      clear c0 c1 c2 c3 c4 c5 c6 c7 c8 c9 c10 c11 c12 c13 c14 c15 c16 c17 c18 c19 c20 c21 c22 c23 c24 c25 c26 c27
      go_wp2_with (first
        | (go_at_call 13; ((with_reducible refine (pack_most _).mono ?_); rintro e w2 ⟨rfl, h2⟩))
        | (go_at_call 8; ((with_reducible refine (raise_any 0 3 0 0 5 _).mono ?_); rintro e w3 ⟨rfl, h3⟩))
        | (go_at_call 8; ((with_reducible refine (raise_any 0 3 0 0 (-4) _).mono ?_); rintro e w4 ⟨rfl, h4⟩))
        | (go_at_call 8; ((with_reducible refine (raise_any 0 0 0 0 99 _).mono ?_); rintro e w5 ⟨rfl, h5⟩))
        | (go_at_call 9; ((with_reducible refine (move_any 0 0 0 1 (-2) _).mono ?_); rintro e w6 ⟨rfl, h6⟩))
        | (go_at_call 9; ((with_reducible refine (move_any 0 0 0 262143 1 _).mono ?_); rintro e w7 ⟨rfl, h7⟩)))
      go_ret
      have a0 := hB.size
      have a1 := hW.size
      have a2 := h2.size
      have a3 := h3.size
      have a4 := h4.size
      have a5 := h5.size
      have a6 := h6.size
      exact ⟨rfl, hB.trans ((hW.mono (by omega)).trans ((h2.mono (by omega)).trans ((h3.mono (by omega)).trans ((h4.mono (by omega)).trans ((h5.mono (by omega)).trans ((h6.mono (by omega)).trans (h7.mono (by omega))))))))⟩

end Go.Proofs.Ytenlfjbkfgfcmaa.W
