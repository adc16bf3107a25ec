/- entryBytes makes an entry's bytes. Condition: the entry has some. -/
import Derived.Test.YtfjphbljdijceaaSml
import Derived.Deep.RegionWith


namespace Go.Proofs.Ytfjphbljdijceaa
open Go.RowKit
set_option linter.unusedVariables false

theorem mk17 : ∀ w, (Instr.makeSlice 24 (.int .i64 17) (.int .i64 17)).run Try.prog w = .ok (.slice (some ⟨w.heap.size, 0, none⟩) 17 17) (w.alloc (.cells #[.int .u8 0, .int .u8 0, .int .u8 0, .int .u8 0, .int .u8 0, .int .u8 0, .int .u8 0, .int .u8 0, .int .u8 0, .int .u8 0, .int .u8 0, .int .u8 0, .int .u8 0, .int .u8 0, .int .u8 0, .int .u8 0, .int .u8 0] 5)) := fun _ => by kernel_rfl
theorem mk9 : ∀ w, (Instr.makeSlice 24 (.int .i64 9) (.int .i64 9)).run Try.prog w = .ok (.slice (some ⟨w.heap.size, 0, none⟩) 9 9) (w.alloc (.cells #[.int .u8 0, .int .u8 0, .int .u8 0, .int .u8 0, .int .u8 0, .int .u8 0, .int .u8 0, .int .u8 0, .int .u8 0] 5)) := fun _ => by kernel_rfl

def z17 : Array Value := #[.int .u8 0, .int .u8 0, .int .u8 0, .int .u8 0, .int .u8 0, .int .u8 0, .int .u8 0, .int .u8 0, .int .u8 0, .int .u8 0, .int .u8 0, .int .u8 0, .int .u8 0, .int .u8 0, .int .u8 0, .int .u8 0, .int .u8 0]
def z9 : Array Value := #[.int .u8 0, .int .u8 0, .int .u8 0, .int .u8 0, .int .u8 0, .int .u8 0, .int .u8 0, .int .u8 0, .int .u8 0]
theorem cells1 (n d : Int) : ((putK (putK z17 9 d 8) 1 n 8).setIfInBounds 0 (.int .u8 1)).toList = bV (eb ⟨1, n, d⟩) := by
  simp [putK, z17, bV, eb, lo, Int.ediv_ediv_of_nonneg]
theorem cells2 (n d : Int) : ((putK z9 1 n 8).setIfInBounds 0 (.int .u8 2)).toList = bV (eb ⟨2, n, d⟩) := by
  simp [putK, z9, bV, eb, lo, Int.ediv_ediv_of_nonneg]

/-- A new block of five's kind, and one ahead of it that the call made. -/
theorem two_new (w : World) (c z : Array Value) : ∀ W1 : World, W1 = ((w.alloc (.cells c 35)).alloc (.cells z 5)).drew → W1.heap[w.heap.size + 1]? = some (.cells z 5 (0, 0)) ∧ (∀ i, W1.cell? ⟨w.heap.size, i, none⟩ = c[i]?) ∧ W1.heap.size = w.heap.size + 2 ∧ Below w.heap.size w W1 := by
  rintro W1 rfl
  have h := heap_alloc_new (w.alloc (.cells c 35)) (.cells z 5)
  rw [World.size_alloc] at h
  refine ⟨h, fun i => ?_, by simp, ((Below.refl _ _).alloc (Nat.le_refl _) _ |>.alloc (by simp) _).drew⟩
  show ((w.alloc (.cells c 35)).alloc (.cells z 5)).cell? _ = _
  rw [World.cell?_alloc_past _ _ _ (by simp), World.cell?_alloc_at _ _ _ _ rfl]
theorem grown_on {W w1 w2 : World} {g : Nat} (hg : w1.grownBy w2 (some g)) (hb : Below W.heap.size W w1) (hW : W.heap.size ≤ g) : Below W.heap.size W w2 := hb.grown hg hb.size (fun k hk => by cases hk; exact hW)
theorem grown_far {w1 w2 : World} {g b : Nat} (hg : w1.grownBy w2 (some g)) (h : b < w1.heap.size) (hne : b ≠ g) (i : Nat) : w2.cell? ⟨b, i, none⟩ = w1.cell? ⟨b, i, none⟩ := cell_blk (hg.block b h (fun e => hne (by injection e))) i

def EntR (e0 : En) (m : Nat) (w : World) (e : Ending) (w' : World) : Prop :=
  ∃ cs : Array Value, cs.toList = bV (eb e0) ∧ e = .returned (.slice (some ⟨w.heap.size + 1, 0, none⟩) m m) ∧ Below w.heap.size w w' ∧ w'.heap[w.heap.size + 1]? = some (.cells cs 5 (0, 0))
set_option maxHeartbeats 400000 in
theorem ent1 (n d : Int) (w : World) : Calls Try.prog 19 #[.agg #[.int .i64 1, .int .i64 n, .int .i64 d]] w (EntR ⟨1, n, d⟩ 17 w) := by
  have hmk := mk17
  have h1 := Lib.hid (two_new w #[.int .i64 1, .int .i64 n, .int .i64 d] z17)
  go_enter Try.func19, Try.ntmps19
  go_wp2_with (go_at_call 20; (with_reducible refine (size1 _).mono ?_); rintro e w' ⟨rfl, rfl⟩)
  clear hmk
  go_region_with (go_at_call 22; go_loud (refine (writeNumber_any (w.heap.size + 1) 9 8 8 z17 d _ (h1.out _ rfl).1 (by decide) (by omega)).mono ?_; rintro e w2 ⟨rfl, hg, hw⟩))
  obtain ⟨_, k1, k2, k3⟩ := h1.out _ rfl
  have HB := Lib.hid (grown_on hg k3 (Nat.le_succ _))
  have hs : w.heap.size + 1 < w2.heap.size := by have := hg.size; rw [k2] at this; omega
  have c0 : w2.cell? ⟨w.heap.size, 0, none⟩ = some (.int .i64 1) := (grown_far hg (by rw [k2]; omega) (by omega) 0).trans (k1 0)
  have c1 : w2.cell? ⟨w.heap.size, 1, none⟩ = some (.int .i64 n) := (grown_far hg (by rw [k2]; omega) (by omega) 1).trans (k1 1)
  have HW : Hid (w2.drew.heap[w.heap.size + 1]? = some (.cells (putK z17 9 d 8) 5 (0, 0))) := hw
  clear k1 k2 k3 hg hw h1
  go_wp2_with fail
  go_region_with (go_at_call 22; go_loud (refine (writeNumber_any (w.heap.size + 1) 1 16 16 _ n w2.drew HW.out (by rw [putK_size]; decide) (by omega)).mono ?_; rintro e w3 ⟨rfl, hg, hw⟩))
  have HB3 := Lib.hid (grown_on hg HB.out.drew (Nat.le_succ _))
  have hs3 : w.heap.size + 1 < w3.heap.size := by have := hg.size; have h9 : w2.drew.heap.size = w2.heap.size := rfl; omega
  have d0 : w3.cell? ⟨w.heap.size, 0, none⟩ = some (.int .i64 1) := (grown_far hg (by show _ < w2.heap.size; omega) (by omega) 0).trans c0
  have HW3 := Lib.hid hw
  obtain ⟨v, hv⟩ : ∃ v, w3.cell? ⟨w.heap.size + 1, 0, none⟩ = some v := ⟨_, by rw [cell_of_row w3 _ 0 _ _ _ hw, Array.getElem?_eq_getElem (by simp [putK_size, z17])]⟩
  have hf : w3.frozen? ⟨w.heap.size + 1, 0, none⟩ = false := frozen_of_row w3 _ 0 _ _ hw
  clear c0 c1 hg hw HW HB
  go_wp2_with fail
  go_ret
  exact ⟨_, cells1 n d, rfl, HB3.out.setCell (p := ⟨w.heap.size + 1, 0, none⟩) (Nat.le_succ _) _, heap_setCell_same w3 _ 0 _ 5 _ HW3.out⟩
theorem ent2 (n d : Int) (w : World) : Calls Try.prog 19 #[.agg #[.int .i64 2, .int .i64 n, .int .i64 d]] w (EntR ⟨2, n, d⟩ 9 w) := by
  have hmk := mk9
  have h1 := Lib.hid (two_new w #[.int .i64 2, .int .i64 n, .int .i64 d] z9)
  go_enter Try.func19, Try.ntmps19
  go_wp2_with (go_at_call 20; (with_reducible refine (size2 _).mono ?_); rintro e w' ⟨rfl, rfl⟩)
  clear hmk
  go_region_with (go_at_call 22; go_loud (refine (writeNumber_any (w.heap.size + 1) 1 8 8 z9 n _ (h1.out _ rfl).1 (by decide) (by omega)).mono ?_; rintro e w2 ⟨rfl, hg, hw⟩))
  obtain ⟨_, k1, k2, k3⟩ := h1.out _ rfl
  have HB := Lib.hid (grown_on hg k3 (Nat.le_succ _))
  have hs : w.heap.size + 1 < w2.heap.size := by have := hg.size; rw [k2] at this; omega
  have c0 : w2.cell? ⟨w.heap.size, 0, none⟩ = some (.int .i64 2) := (grown_far hg (by rw [k2]; omega) (by omega) 0).trans (k1 0)
  have HW := Lib.hid hw
  obtain ⟨v, hv⟩ : ∃ v, w2.cell? ⟨w.heap.size + 1, 0, none⟩ = some v := ⟨_, by rw [cell_of_row w2 _ 0 _ _ _ hw, Array.getElem?_eq_getElem (by rw [putK_size]; decide)]⟩
  have hf : w2.frozen? ⟨w.heap.size + 1, 0, none⟩ = false := frozen_of_row w2 _ 0 _ _ hw
  clear k1 k2 k3 hg hw h1
  go_wp2_with fail
  go_ret
  exact ⟨_, cells2 n d, rfl, HB.out.setCell (p := ⟨w.heap.size + 1, 0, none⟩) (Nat.le_succ _) _, heap_setCell_same w2 _ 0 _ 5 _ HW.out⟩
theorem ent_any (k n d : Int) (h : eOk ⟨k, n, d⟩) (w : World) : Calls Try.prog 19 #[.agg #[.int .i64 k, .int .i64 n, .int .i64 d]] w (EntR ⟨k, n, d⟩ (sz k) w) := by
  rcases h with h | ⟨h, _⟩
  · simp only at h; subst h; exact ent1 n d w
  · simp only at h; subst h; exact ent2 n d w
end Go.Proofs.Ytfjphbljdijceaa
