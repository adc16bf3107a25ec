/- What the document's own form answers, operation by operation. No condition. -/
import Derived.Test.YtgojnhbmelnpnaaDoorPSml
namespace Go.Proofs.YtgojnhbmelnpnaaDoor.Pg
open Go.RowKit
set_option linter.unusedVariables false
set_option maxRecDepth 100000

structure Rf where
  a : Int
  b : Int
  c : Int
def rfT : List Rf := [⟨0, 0, 0⟩, ⟨2, 5, 0⟩, ⟨2, 1, 0⟩, ⟨6, 5, 0⟩, ⟨3, 0, 0⟩, ⟨1, 3, 0⟩, ⟨1, 0, 0⟩, ⟨0, 0, 0⟩, ⟨2, 4, 0⟩, ⟨2, 5, 0⟩, ⟨1, 1, 0⟩, ⟨1, 2, 2⟩, ⟨1, 0, 0⟩, ⟨1, 2, 0⟩, ⟨1, 2, 0⟩, ⟨2, 2, 2⟩, ⟨2, 0, 0⟩, ⟨2, 1, 2⟩, ⟨2, 1, 2⟩, ⟨2, 1, 4⟩, ⟨1, 2, 0⟩, ⟨1, 1, 2⟩, ⟨2, 1, 0⟩, ⟨2, 1, 1⟩, ⟨2, 1, 1⟩, ⟨2, 1, 0⟩, ⟨1, 1, 0⟩, ⟨1, 2, 0⟩, ⟨1, 2, 0⟩, ⟨1, 2, 0⟩, ⟨1, 2, 2⟩, ⟨2, 1, 4⟩, ⟨1, 2, 0⟩]
def rf (k : Nat) : Rf := rfT.getD k ⟨0, 0, 0⟩
abbrev v3 (a b c : Int) : Value := .agg #[.int .i64 a, .int .i64 b, .int .i64 c]
def FmR (a b c : Int) (w : World) (e : Ending) (w' : World) : Prop := e = .returned (v3 a b c) ∧ w' = w.alloc (.cells #[.int .i64 a, .int .i64 b, .int .i64 c] 43)
theorem fm1 (w : World) : Calls Tryd.prog 25 #[.int .i64 1] w (FmR 2 5 0 w) := by
  go_enter Tryd.func25, Tryd.ntmps25
  go_wp2
  (try simp only [Exit.inBlock, Exit.then])
  refine bodyPost_ret (v := v3 2 5 0) ?_ rfl ⟨rfl, ?_⟩
  · rw [results_cell_row rfl _ _ w.heap.size 43 #[.int .i64 2, .int .i64 5, .int .i64 0] (0, 0) _ rfl (heap_alloc_new w _) Tryd.underlying43 rfl (by kernel_rfl)]
  · rfl
theorem fm2 (w : World) : Calls Tryd.prog 25 #[.int .i64 2] w (FmR 2 1 0 w) := by
  go_enter Tryd.func25, Tryd.ntmps25
  go_wp2
  (try simp only [Exit.inBlock, Exit.then])
  refine bodyPost_ret (v := v3 2 1 0) ?_ rfl ⟨rfl, ?_⟩
  · rw [results_cell_row rfl _ _ w.heap.size 43 #[.int .i64 2, .int .i64 1, .int .i64 0] (0, 0) _ rfl (heap_alloc_new w _) Tryd.underlying43 rfl (by kernel_rfl)]
  · rfl
theorem fm3 (w : World) : Calls Tryd.prog 25 #[.int .i64 3] w (FmR 6 5 0 w) := by
  go_enter Tryd.func25, Tryd.ntmps25
  go_wp2
  (try simp only [Exit.inBlock, Exit.then])
  refine bodyPost_ret (v := v3 6 5 0) ?_ rfl ⟨rfl, ?_⟩
  · rw [results_cell_row rfl _ _ w.heap.size 43 #[.int .i64 6, .int .i64 5, .int .i64 0] (0, 0) _ rfl (heap_alloc_new w _) Tryd.underlying43 rfl (by kernel_rfl)]
  · rfl
theorem fm4 (w : World) : Calls Tryd.prog 25 #[.int .i64 4] w (FmR 3 0 0 w) := by
  go_enter Tryd.func25, Tryd.ntmps25
  go_wp2
  (try simp only [Exit.inBlock, Exit.then])
  refine bodyPost_ret (v := v3 3 0 0) ?_ rfl ⟨rfl, ?_⟩
  · rw [results_cell_row rfl _ _ w.heap.size 43 #[.int .i64 3, .int .i64 0, .int .i64 0] (0, 0) _ rfl (heap_alloc_new w _) Tryd.underlying43 rfl (by kernel_rfl)]
  · rfl
theorem fm5 (w : World) : Calls Tryd.prog 25 #[.int .i64 5] w (FmR 1 3 0 w) := by
  go_enter Tryd.func25, Tryd.ntmps25
  go_wp2
  (try simp only [Exit.inBlock, Exit.then])
  refine bodyPost_ret (v := v3 1 3 0) ?_ rfl ⟨rfl, ?_⟩
  · rw [results_cell_row rfl _ _ w.heap.size 43 #[.int .i64 1, .int .i64 3, .int .i64 0] (0, 0) _ rfl (heap_alloc_new w _) Tryd.underlying43 rfl (by kernel_rfl)]
  · rfl
theorem fm6 (w : World) : Calls Tryd.prog 25 #[.int .i64 6] w (FmR 1 0 0 w) := by
  go_enter Tryd.func25, Tryd.ntmps25
  go_wp2
  (try simp only [Exit.inBlock, Exit.then])
  refine bodyPost_ret (v := v3 1 0 0) ?_ rfl ⟨rfl, ?_⟩
  · rw [results_cell_row rfl _ _ w.heap.size 43 #[.int .i64 1, .int .i64 0, .int .i64 0] (0, 0) _ rfl (heap_alloc_new w _) Tryd.underlying43 rfl (by kernel_rfl)]
  · rfl
theorem fm7 (w : World) : Calls Tryd.prog 25 #[.int .i64 7] w (FmR 0 0 0 w) := by
  go_enter Tryd.func25, Tryd.ntmps25
  go_wp2
  (try simp only [Exit.inBlock, Exit.then])
  refine bodyPost_ret (v := v3 0 0 0) ?_ rfl ⟨rfl, ?_⟩
  · rw [results_cell_row rfl _ _ w.heap.size 43 #[.int .i64 0, .int .i64 0, .int .i64 0] (0, 0) _ rfl (heap_alloc_new w _) Tryd.underlying43 rfl (by kernel_rfl)]
  · rfl
theorem fm8 (w : World) : Calls Tryd.prog 25 #[.int .i64 8] w (FmR 2 4 0 w) := by
  go_enter Tryd.func25, Tryd.ntmps25
  go_wp2
  (try simp only [Exit.inBlock, Exit.then])
  refine bodyPost_ret (v := v3 2 4 0) ?_ rfl ⟨rfl, ?_⟩
  · rw [results_cell_row rfl _ _ w.heap.size 43 #[.int .i64 2, .int .i64 4, .int .i64 0] (0, 0) _ rfl (heap_alloc_new w _) Tryd.underlying43 rfl (by kernel_rfl)]
  · rfl
theorem fm9 (w : World) : Calls Tryd.prog 25 #[.int .i64 9] w (FmR 2 5 0 w) := by
  go_enter Tryd.func25, Tryd.ntmps25
  go_wp2
  (try simp only [Exit.inBlock, Exit.then])
  refine bodyPost_ret (v := v3 2 5 0) ?_ rfl ⟨rfl, ?_⟩
  · rw [results_cell_row rfl _ _ w.heap.size 43 #[.int .i64 2, .int .i64 5, .int .i64 0] (0, 0) _ rfl (heap_alloc_new w _) Tryd.underlying43 rfl (by kernel_rfl)]
  · rfl
theorem fm10 (w : World) : Calls Tryd.prog 25 #[.int .i64 10] w (FmR 1 1 0 w) := by
  go_enter Tryd.func25, Tryd.ntmps25
  go_wp2
  (try simp only [Exit.inBlock, Exit.then])
  refine bodyPost_ret (v := v3 1 1 0) ?_ rfl ⟨rfl, ?_⟩
  · rw [results_cell_row rfl _ _ w.heap.size 43 #[.int .i64 1, .int .i64 1, .int .i64 0] (0, 0) _ rfl (heap_alloc_new w _) Tryd.underlying43 rfl (by kernel_rfl)]
  · rfl
theorem fm11 (w : World) : Calls Tryd.prog 25 #[.int .i64 11] w (FmR 1 2 2 w) := by
  go_enter Tryd.func25, Tryd.ntmps25
  go_wp2
  (try simp only [Exit.inBlock, Exit.then])
  refine bodyPost_ret (v := v3 1 2 2) ?_ rfl ⟨rfl, ?_⟩
  · rw [results_cell_row rfl _ _ w.heap.size 43 #[.int .i64 1, .int .i64 2, .int .i64 2] (0, 0) _ rfl (heap_alloc_new w _) Tryd.underlying43 rfl (by kernel_rfl)]
  · rfl
theorem fm12 (w : World) : Calls Tryd.prog 25 #[.int .i64 12] w (FmR 1 0 0 w) := by
  go_enter Tryd.func25, Tryd.ntmps25
  go_wp2
  (try simp only [Exit.inBlock, Exit.then])
  refine bodyPost_ret (v := v3 1 0 0) ?_ rfl ⟨rfl, ?_⟩
  · rw [results_cell_row rfl _ _ w.heap.size 43 #[.int .i64 1, .int .i64 0, .int .i64 0] (0, 0) _ rfl (heap_alloc_new w _) Tryd.underlying43 rfl (by kernel_rfl)]
  · rfl
theorem fm13 (w : World) : Calls Tryd.prog 25 #[.int .i64 13] w (FmR 1 2 0 w) := by
  go_enter Tryd.func25, Tryd.ntmps25
  go_wp2
  (try simp only [Exit.inBlock, Exit.then])
  refine bodyPost_ret (v := v3 1 2 0) ?_ rfl ⟨rfl, ?_⟩
  · rw [results_cell_row rfl _ _ w.heap.size 43 #[.int .i64 1, .int .i64 2, .int .i64 0] (0, 0) _ rfl (heap_alloc_new w _) Tryd.underlying43 rfl (by kernel_rfl)]
  · rfl
theorem fm14 (w : World) : Calls Tryd.prog 25 #[.int .i64 14] w (FmR 1 2 0 w) := by
  go_enter Tryd.func25, Tryd.ntmps25
  go_wp2
  (try simp only [Exit.inBlock, Exit.then])
  refine bodyPost_ret (v := v3 1 2 0) ?_ rfl ⟨rfl, ?_⟩
  · rw [results_cell_row rfl _ _ w.heap.size 43 #[.int .i64 1, .int .i64 2, .int .i64 0] (0, 0) _ rfl (heap_alloc_new w _) Tryd.underlying43 rfl (by kernel_rfl)]
  · rfl
theorem fm15 (w : World) : Calls Tryd.prog 25 #[.int .i64 15] w (FmR 2 2 2 w) := by
  go_enter Tryd.func25, Tryd.ntmps25
  go_wp2
  (try simp only [Exit.inBlock, Exit.then])
  refine bodyPost_ret (v := v3 2 2 2) ?_ rfl ⟨rfl, ?_⟩
  · rw [results_cell_row rfl _ _ w.heap.size 43 #[.int .i64 2, .int .i64 2, .int .i64 2] (0, 0) _ rfl (heap_alloc_new w _) Tryd.underlying43 rfl (by kernel_rfl)]
  · rfl
theorem fm16 (w : World) : Calls Tryd.prog 25 #[.int .i64 16] w (FmR 2 0 0 w) := by
  go_enter Tryd.func25, Tryd.ntmps25
  go_wp2
  (try simp only [Exit.inBlock, Exit.then])
  refine bodyPost_ret (v := v3 2 0 0) ?_ rfl ⟨rfl, ?_⟩
  · rw [results_cell_row rfl _ _ w.heap.size 43 #[.int .i64 2, .int .i64 0, .int .i64 0] (0, 0) _ rfl (heap_alloc_new w _) Tryd.underlying43 rfl (by kernel_rfl)]
  · rfl
theorem fm17 (w : World) : Calls Tryd.prog 25 #[.int .i64 17] w (FmR 2 1 2 w) := by
  go_enter Tryd.func25, Tryd.ntmps25
  go_wp2
  (try simp only [Exit.inBlock, Exit.then])
  refine bodyPost_ret (v := v3 2 1 2) ?_ rfl ⟨rfl, ?_⟩
  · rw [results_cell_row rfl _ _ w.heap.size 43 #[.int .i64 2, .int .i64 1, .int .i64 2] (0, 0) _ rfl (heap_alloc_new w _) Tryd.underlying43 rfl (by kernel_rfl)]
  · rfl
theorem fm18 (w : World) : Calls Tryd.prog 25 #[.int .i64 18] w (FmR 2 1 2 w) := by
  go_enter Tryd.func25, Tryd.ntmps25
  go_wp2
  (try simp only [Exit.inBlock, Exit.then])
  refine bodyPost_ret (v := v3 2 1 2) ?_ rfl ⟨rfl, ?_⟩
  · rw [results_cell_row rfl _ _ w.heap.size 43 #[.int .i64 2, .int .i64 1, .int .i64 2] (0, 0) _ rfl (heap_alloc_new w _) Tryd.underlying43 rfl (by kernel_rfl)]
  · rfl
theorem fm19 (w : World) : Calls Tryd.prog 25 #[.int .i64 19] w (FmR 2 1 4 w) := by
  go_enter Tryd.func25, Tryd.ntmps25
  go_wp2
  (try simp only [Exit.inBlock, Exit.then])
  refine bodyPost_ret (v := v3 2 1 4) ?_ rfl ⟨rfl, ?_⟩
  · rw [results_cell_row rfl _ _ w.heap.size 43 #[.int .i64 2, .int .i64 1, .int .i64 4] (0, 0) _ rfl (heap_alloc_new w _) Tryd.underlying43 rfl (by kernel_rfl)]
  · rfl
theorem fm20 (w : World) : Calls Tryd.prog 25 #[.int .i64 20] w (FmR 1 2 0 w) := by
  go_enter Tryd.func25, Tryd.ntmps25
  go_wp2
  (try simp only [Exit.inBlock, Exit.then])
  refine bodyPost_ret (v := v3 1 2 0) ?_ rfl ⟨rfl, ?_⟩
  · rw [results_cell_row rfl _ _ w.heap.size 43 #[.int .i64 1, .int .i64 2, .int .i64 0] (0, 0) _ rfl (heap_alloc_new w _) Tryd.underlying43 rfl (by kernel_rfl)]
  · rfl
theorem fm21 (w : World) : Calls Tryd.prog 25 #[.int .i64 21] w (FmR 1 1 2 w) := by
  go_enter Tryd.func25, Tryd.ntmps25
  go_wp2
  (try simp only [Exit.inBlock, Exit.then])
  refine bodyPost_ret (v := v3 1 1 2) ?_ rfl ⟨rfl, ?_⟩
  · rw [results_cell_row rfl _ _ w.heap.size 43 #[.int .i64 1, .int .i64 1, .int .i64 2] (0, 0) _ rfl (heap_alloc_new w _) Tryd.underlying43 rfl (by kernel_rfl)]
  · rfl
theorem fm22 (w : World) : Calls Tryd.prog 25 #[.int .i64 22] w (FmR 2 1 0 w) := by
  go_enter Tryd.func25, Tryd.ntmps25
  go_wp2
  (try simp only [Exit.inBlock, Exit.then])
  refine bodyPost_ret (v := v3 2 1 0) ?_ rfl ⟨rfl, ?_⟩
  · rw [results_cell_row rfl _ _ w.heap.size 43 #[.int .i64 2, .int .i64 1, .int .i64 0] (0, 0) _ rfl (heap_alloc_new w _) Tryd.underlying43 rfl (by kernel_rfl)]
  · rfl
theorem fm23 (w : World) : Calls Tryd.prog 25 #[.int .i64 23] w (FmR 2 1 1 w) := by
  go_enter Tryd.func25, Tryd.ntmps25
  go_wp2
  (try simp only [Exit.inBlock, Exit.then])
  refine bodyPost_ret (v := v3 2 1 1) ?_ rfl ⟨rfl, ?_⟩
  · rw [results_cell_row rfl _ _ w.heap.size 43 #[.int .i64 2, .int .i64 1, .int .i64 1] (0, 0) _ rfl (heap_alloc_new w _) Tryd.underlying43 rfl (by kernel_rfl)]
  · rfl
theorem fm24 (w : World) : Calls Tryd.prog 25 #[.int .i64 24] w (FmR 2 1 1 w) := by
  go_enter Tryd.func25, Tryd.ntmps25
  go_wp2
  (try simp only [Exit.inBlock, Exit.then])
  refine bodyPost_ret (v := v3 2 1 1) ?_ rfl ⟨rfl, ?_⟩
  · rw [results_cell_row rfl _ _ w.heap.size 43 #[.int .i64 2, .int .i64 1, .int .i64 1] (0, 0) _ rfl (heap_alloc_new w _) Tryd.underlying43 rfl (by kernel_rfl)]
  · rfl
theorem fm25 (w : World) : Calls Tryd.prog 25 #[.int .i64 25] w (FmR 2 1 0 w) := by
  go_enter Tryd.func25, Tryd.ntmps25
  go_wp2
  (try simp only [Exit.inBlock, Exit.then])
  refine bodyPost_ret (v := v3 2 1 0) ?_ rfl ⟨rfl, ?_⟩
  · rw [results_cell_row rfl _ _ w.heap.size 43 #[.int .i64 2, .int .i64 1, .int .i64 0] (0, 0) _ rfl (heap_alloc_new w _) Tryd.underlying43 rfl (by kernel_rfl)]
  · rfl
theorem fm26 (w : World) : Calls Tryd.prog 25 #[.int .i64 26] w (FmR 1 1 0 w) := by
  go_enter Tryd.func25, Tryd.ntmps25
  go_wp2
  (try simp only [Exit.inBlock, Exit.then])
  refine bodyPost_ret (v := v3 1 1 0) ?_ rfl ⟨rfl, ?_⟩
  · rw [results_cell_row rfl _ _ w.heap.size 43 #[.int .i64 1, .int .i64 1, .int .i64 0] (0, 0) _ rfl (heap_alloc_new w _) Tryd.underlying43 rfl (by kernel_rfl)]
  · rfl
theorem fm27 (w : World) : Calls Tryd.prog 25 #[.int .i64 27] w (FmR 1 2 0 w) := by
  go_enter Tryd.func25, Tryd.ntmps25
  go_wp2
  (try simp only [Exit.inBlock, Exit.then])
  refine bodyPost_ret (v := v3 1 2 0) ?_ rfl ⟨rfl, ?_⟩
  · rw [results_cell_row rfl _ _ w.heap.size 43 #[.int .i64 1, .int .i64 2, .int .i64 0] (0, 0) _ rfl (heap_alloc_new w _) Tryd.underlying43 rfl (by kernel_rfl)]
  · rfl
theorem fm28 (w : World) : Calls Tryd.prog 25 #[.int .i64 28] w (FmR 1 2 0 w) := by
  go_enter Tryd.func25, Tryd.ntmps25
  go_wp2
  (try simp only [Exit.inBlock, Exit.then])
  refine bodyPost_ret (v := v3 1 2 0) ?_ rfl ⟨rfl, ?_⟩
  · rw [results_cell_row rfl _ _ w.heap.size 43 #[.int .i64 1, .int .i64 2, .int .i64 0] (0, 0) _ rfl (heap_alloc_new w _) Tryd.underlying43 rfl (by kernel_rfl)]
  · rfl
theorem fm29 (w : World) : Calls Tryd.prog 25 #[.int .i64 29] w (FmR 1 2 0 w) := by
  go_enter Tryd.func25, Tryd.ntmps25
  go_wp2
  (try simp only [Exit.inBlock, Exit.then])
  refine bodyPost_ret (v := v3 1 2 0) ?_ rfl ⟨rfl, ?_⟩
  · rw [results_cell_row rfl _ _ w.heap.size 43 #[.int .i64 1, .int .i64 2, .int .i64 0] (0, 0) _ rfl (heap_alloc_new w _) Tryd.underlying43 rfl (by kernel_rfl)]
  · rfl
theorem fm30 (w : World) : Calls Tryd.prog 25 #[.int .i64 30] w (FmR 1 2 2 w) := by
  go_enter Tryd.func25, Tryd.ntmps25
  go_wp2
  (try simp only [Exit.inBlock, Exit.then])
  refine bodyPost_ret (v := v3 1 2 2) ?_ rfl ⟨rfl, ?_⟩
  · rw [results_cell_row rfl _ _ w.heap.size 43 #[.int .i64 1, .int .i64 2, .int .i64 2] (0, 0) _ rfl (heap_alloc_new w _) Tryd.underlying43 rfl (by kernel_rfl)]
  · rfl
theorem fm31 (w : World) : Calls Tryd.prog 25 #[.int .i64 31] w (FmR 2 1 4 w) := by
  go_enter Tryd.func25, Tryd.ntmps25
  go_wp2
  (try simp only [Exit.inBlock, Exit.then])
  refine bodyPost_ret (v := v3 2 1 4) ?_ rfl ⟨rfl, ?_⟩
  · rw [results_cell_row rfl _ _ w.heap.size 43 #[.int .i64 2, .int .i64 1, .int .i64 4] (0, 0) _ rfl (heap_alloc_new w _) Tryd.underlying43 rfl (by kernel_rfl)]
  · rfl
theorem fm32 (w : World) : Calls Tryd.prog 25 #[.int .i64 32] w (FmR 1 2 0 w) := by
  go_enter Tryd.func25, Tryd.ntmps25
  go_wp2
  (try simp only [Exit.inBlock, Exit.then])
  refine bodyPost_ret (v := v3 1 2 0) ?_ rfl ⟨rfl, ?_⟩
  · rw [results_cell_row rfl _ _ w.heap.size 43 #[.int .i64 1, .int .i64 2, .int .i64 0] (0, 0) _ rfl (heap_alloc_new w _) Tryd.underlying43 rfl (by kernel_rfl)]
  · rfl
theorem form_ref (k : Nat) (h1 : 1 ≤ k) (h2 : k ≤ 32) (w : World) : Calls Tryd.prog 25 #[.int .i64 k] w (FmR (rf k).a (rf k).b (rf k).c w) := by
  have hk : k < 33 := by omega
  clear h2
  match k, h1, hk with
  | 1, _, _ => exact fm1 w
  | 2, _, _ => exact fm2 w
  | 3, _, _ => exact fm3 w
  | 4, _, _ => exact fm4 w
  | 5, _, _ => exact fm5 w
  | 6, _, _ => exact fm6 w
  | 7, _, _ => exact fm7 w
  | 8, _, _ => exact fm8 w
  | 9, _, _ => exact fm9 w
  | 10, _, _ => exact fm10 w
  | 11, _, _ => exact fm11 w
  | 12, _, _ => exact fm12 w
  | 13, _, _ => exact fm13 w
  | 14, _, _ => exact fm14 w
  | 15, _, _ => exact fm15 w
  | 16, _, _ => exact fm16 w
  | 17, _, _ => exact fm17 w
  | 18, _, _ => exact fm18 w
  | 19, _, _ => exact fm19 w
  | 20, _, _ => exact fm20 w
  | 21, _, _ => exact fm21 w
  | 22, _, _ => exact fm22 w
  | 23, _, _ => exact fm23 w
  | 24, _, _ => exact fm24 w
  | 25, _, _ => exact fm25 w
  | 26, _, _ => exact fm26 w
  | 27, _, _ => exact fm27 w
  | 28, _, _ => exact fm28 w
  | 29, _, _ => exact fm29 w
  | 30, _, _ => exact fm30 w
  | 31, _, _ => exact fm31 w
  | 32, _, _ => exact fm32 w
  | k + 33, _, hk => exact absurd hk (by omega)
end Go.Proofs.YtgojnhbmelnpnaaDoor.Pg
