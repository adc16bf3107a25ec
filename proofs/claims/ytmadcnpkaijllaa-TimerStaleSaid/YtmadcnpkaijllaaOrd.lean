/- What cmp.Compare, cmp.Or and order of package heap answer. No condition. -/
import Derived.Test.YtmadcnpkaijllaaMem
import Derived.Sort.Grow
import Derived.Deep.RegionHeld3
namespace Go.Proofs.Ytmadcnpkaijllaa
open Go.RowKit Go.Sort
set_option linter.unusedVariables false
set_option maxRecDepth 100000

def cmpI (x y : Int) : Int := if x < y then -1 else if y < x then 1 else 0
def orI (a b : Int) : Int := if a ≠ 0 then a else b
def ordI (x y : It) : Int := orI (cmpI x.w y.w) (cmpI x.s y.s)
theorem ord_neg (x y : It) : ordI x y < 0 ↔ x.lt y := by
  unfold ordI orI cmpI It.lt
  by_cases h1 : x.w < y.w
  · simp [h1]
  · by_cases h2 : y.w < x.w
    · simp [h1, h2]; omega
    · have : x.w = y.w := by omega
      simp [h1, h2]
      repeat' split
      all_goals omega
theorem ord_pos (x y : It) : 0 < ordI x y ↔ y.lt x := by
  unfold ordI orI cmpI It.lt
  by_cases h1 : x.w < y.w
  · simp [h1]; omega
  · by_cases h2 : y.w < x.w
    · simp [h1, h2]
    · have : x.w = y.w := by omega
      simp [h1, h2]
      repeat' split
      all_goals omega

theorem nan_any (x : Int) (w : World) : Calls Try.prog 86 #[.int .i64 x] w fun e w' => e = .returned (.bool false) ∧ w = w' := by
  go_enter Try.func86, Try.ntmps86
  go_wp2
  go_ret
  exact ⟨by simp, rfl⟩
set_option maxHeartbeats 1000000 in
theorem cmp_any (x y : Int) (w : World) : Calls Try.prog 84 #[.int .i64 x, .int .i64 y] w fun e w' => e = .returned (.int .i64 (cmpI x y)) ∧ w = w' := by
  go_enter Try.func84, Try.ntmps84
  go_wp2_with (go_at_call 86; refine (nan_any _ _).mono ?_; rintro e w' ⟨rfl, rfl⟩)
  all_goals (go_ret; refine ⟨?_, rfl⟩; unfold cmpI; (repeat' split) <;> first | rfl | (exfalso; omega))
/-- cmp.Or of two. -/
theorem or_any (x y : Int) (g c : Nat) (w : World) (h0 : w.cell? ⟨g, 0, none⟩ = some (.int .i64 x)) (h1 : w.cell? ⟨g, 1, none⟩ = some (.int .i64 y)) :
    Calls Try.prog 83 #[.slice (some ⟨g, 0, none⟩) 2 c] w fun e w' => e = .returned (.int .i64 (orI x y)) ∧ w = w' := by
  have q0 : (0 : Int) < 2 := by decide
  go_enter Try.func83, Try.ntmps83
  go_wp2_with fail
  go_loopw [8] (fun i wr => ∃ k : Nat, k ≤ 2 ∧ i = .int .i64 k ∧ (0 < k → x = 0) ∧ (1 < k → y = 0) ∧ wr = w) (fun i _ => 2 - (intOf i).toNat)
  case atStart => exact ⟨0, by omega, rfl, fun h => absurd h (by omega), fun h => absurd h (by omega), rfl⟩
  case round =>
    obtain ⟨k, hk, rfl, hz, hy, rfl⟩ := hrel
    match k, hk with
    | 0, _ =>
      by_cases c1 : x = 0
      · have e1 : (x == 0) = true := by simp [c1]
        go_wp2
        go_roundw
        case rel => exact ⟨1, by omega, by go_num, by first | trivial | exact fun _ => c1, by first | trivial | exact fun h => absurd h (by omega), by first | rfl | trivial⟩
        case measure => simp [intOf]
      · have e1 : (x == 0) = false := by simp [c1]
        have e2 : orI x y = x := by simp [orI, c1]
        go_wp2
        go_ret
        exact ⟨by rw [e2]; rfl, rfl⟩
    | 1, _ =>
      have cx := hz (by omega)
      have e2 : orI x y = y := by simp [orI, cx]
      by_cases c1 : y = 0
      · have e1 : (y == 0) = true := by simp [c1]
        go_wp2
        go_roundw
        case rel => exact ⟨2, by omega, by go_num, fun _ => cx, fun _ => c1, by first | rfl | trivial⟩
        case measure => simp [intOf]
      · have e1 : (y == 0) = false := by simp [c1]
        go_wp2
        go_ret
        exact ⟨by rw [e2]; rfl, rfl⟩
    | 2, _ =>
      have cx := hz (by omega)
      have cy := hy (by omega)
      have e2 : orI x y = 0 := by simp [orI, cx, cy]
      go_wp2
      go_ret
      exact ⟨by rw [e2]; rfl, rfl⟩

theorem new_cell {w : World} {cs : Array Value} {t : TypeId} {n i : Nat} {v : Value} (h : cs[i]? = some v) (hn : n = w.heap.size) : (w.alloc (.cells cs t)).drew.cell? ⟨n, i, none⟩ = some v := by
  show (w.alloc (.cells cs t)).cell? ⟨n, i, none⟩ = some v
  rw [World.cell?_alloc_at _ _ _ _ hn]; exact h
/-- Blocks of its own, draws, and no more. -/
def Adds (w w' : World) : Prop := ∃ q os, w' = grow (w.drewN q) os
set_option maxHeartbeats 4000000 in
theorem order_any (x y : It) (w : World) : Calls Try.prog 79 #[.agg #[.int .i64 x.id, .int .i64 x.w, .int .i64 x.s], .agg #[.int .i64 y.id, .int .i64 y.w, .int .i64 y.s]] w fun e w' => e = .returned (.int .i64 (ordI x y)) ∧ Adds w w' := by
  have e3 : ordI x y = orI (cmpI x.w y.w) (cmpI x.s y.s) := rfl
  rw [e3]
  obtain ⟨a, b, c⟩ := x
  obtain ⟨a', b', c'⟩ := y
  dsimp only
  have h1 := fun W => cmp_any b b' W
  have h2 := fun W => cmp_any c c' W
  generalize cmpI b b' = r1 at *
  generalize cmpI c c' = r2 at *
  go_enter Try.func79, Try.ntmps79
  go_wp2_with fail
  have KP : Hid (∀ v, Below (w.heap.size + 2) ((w.alloc (.cells #[.int .i64 a, .int .i64 b, .int .i64 c] 106)).alloc (.cells #[.int .i64 a', .int .i64 b', .int .i64 c'] 106)) v → v.cell? ⟨w.heap.size, 1, none⟩ = some (.int .i64 b) ∧ v.cell? ⟨w.heap.size + 1, 1, none⟩ = some (.int .i64 b') ∧ v.cell? ⟨w.heap.size, 2, none⟩ = some (.int .i64 c) ∧ v.cell? ⟨w.heap.size + 1, 2, none⟩ = some (.int .i64 c')) := fun v hb => by
    refine ⟨?_, ?_, ?_, ?_⟩
    · rw [cell_blk (hb.block _ (by omega))]; simp
    · rw [cell_blk (hb.block _ (by omega))]; simp
    · rw [cell_blk (hb.block _ (by omega))]; simp
    · rw [cell_blk (hb.block _ (by omega))]; simp
  go_region_held3 (fun w' => w'.cell? ⟨w.heap.size, 1, none⟩ = some (.int .i64 b) ∧ w'.cell? ⟨w.heap.size + 1, 1, none⟩ = some (.int .i64 b') ∧ w'.cell? ⟨w.heap.size, 2, none⟩ = some (.int .i64 c) ∧ w'.cell? ⟨w.heap.size + 1, 2, none⟩ = some (.int .i64 c'))
    (first | (refine KP.out _ ?_; repeat' (first | exact Below.refl _ _ | (with_reducible assumption) | refine Below.drew ?_ | refine Below.alloc ?_ (by first | omega | (simp <;> omega)) _)))
    (first
    | (go_at_call 84; (with_reducible refine (h1 _).mono ?_); rintro e w' ⟨rfl, rfl⟩)
    | (go_at_call 84; (with_reducible refine (h2 _).mono ?_); rintro e w' ⟨rfl, rfl⟩)
    | (go_at_call 83; go_loud (refine (or_any r1 r2 _ _ _ (new_cell rfl (by simp)) (new_cell rfl (by simp))).mono ?_; rintro e w' ⟨rfl, rfl⟩)))
  all_goals go_wp2_with fail
  all_goals go_ret
  all_goals exact ⟨rfl, 1, _, by rw [alloc_eq_grow, alloc_eq_grow, alloc_eq_grow, grow_grow, grow_grow]; rfl⟩
theorem Adds.below {w w' : World} (h : Adds w w') : Below w.heap.size w w' := by
  obtain ⟨q, os, rfl⟩ := h
  refine ⟨rfl, rfl, rfl, ?_, fun k hk => ?_⟩
  · show w.heap.size ≤ (w.heap ++ os).size
    rw [Array.size_append]; omega
  · show (w.heap ++ os)[k]? = w.heap[k]?
    exact Array.getElem?_append_left hk
/-- .. and nothing that lay there has turned. -/
theorem order_bel (x y : It) (w : World) : Calls Try.prog 79 #[.agg #[.int .i64 x.id, .int .i64 x.w, .int .i64 x.s], .agg #[.int .i64 y.id, .int .i64 y.w, .int .i64 y.s]] w fun e w' => e = .returned (.int .i64 (ordI x y)) ∧ Below w.heap.size w w' :=
  (order_any x y w).mono fun _ _ h => ⟨h.1, h.2.below⟩
end Go.Proofs.Ytmadcnpkaijllaa
