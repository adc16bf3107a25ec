/- The state of the loop that gathers errors and their shapes, and how it goes on. No condition. -/
import Derived.Test.YtbdicgnmaonjgaaDoorSam
namespace Go.Proofs.YtbdicgnmaonjgaaDoor
open Go.RowKit
set_option linter.unusedVariables false

def eL (zs : List Int) : List Value := zs.map fun z => if 0 < z then .iface 40 (.agg #[.int .i64 z]) else .nilIface
def pL (zs : List Int) : List Int := zs.filter fun z => decide (0 < z)

theorem tag_ne {w : World} {b1 b2 n1 n2 s1 s2 : Nat} {v1 v2 : Value} {xs1 xs2 : List Value} {e1 e2 : TypeId} (he : e1 ≠ e2) (h1 : w.ownsRow b1 e1 s1 v1 n1 xs1) (h2 : w.ownsRow b2 e2 s2 v2 n2 xs2) : v1.ownBlock = none ∨ v1.ownBlock ≠ v2.ownBlock := by
  rcases h1.2 with ⟨rfl, _⟩ | ⟨g, cap, cur, rfl, _, hg, _⟩
  · exact .inl rfl
  · right
    rcases h2.2 with ⟨rfl, _⟩ | ⟨g', cap', cur', rfl, _, hg', _⟩
    · simp [Value.ownBlock]
    · intro h
      have hgg : g = g' := by simpa [Value.ownBlock] using h
      subst hgg
      rw [hg] at hg'
      simp at hg'
      exact he hg'.2

def WSt (W wr : World) (N : Nat) (av kv : Value) (k : Nat) (es : List Value) (m : Nat) (ps : List Int) : Prop :=
  Below N W wr ∧ Own wr N 3 ∧ wr.cell? ⟨N, 0, none⟩ = some (.int .i64 0) ∧ wr.cell? ⟨N, 1, none⟩ = some (.string allB) ∧ wr.cell? ⟨N, 2, none⟩ = some kv ∧
    wr.ownsRow (N + 1) 29 1 av k es ∧ wr.ownsRow (N + 1) 27 3 kv m (cL ps)

theorem WSt.below {W wr w1 : World} {N k m : Nat} {av kv : Value} {es : List Value} {ps : List Int} (h : WSt W wr N av kv k es m ps) (hb : Below wr.heap.size wr w1) : WSt W w1 N av kv k es m ps := by
  obtain ⟨h1, h2, h3, h4, h5, h6, h7⟩ := h
  have hl := h2.lt
  exact ⟨h1.trans (hb.mono (Nat.le_of_lt hl)), h2.below hb, (cell_blk (hb.block N hl) 0).trans h3, (cell_blk (hb.block N hl) 1).trans h4, (cell_blk (hb.block N hl) 2).trans h5, owns_below h6 hb, owns_below h7 hb⟩

theorem WSt.av {W wr w1 : World} {N k k' m : Nat} {av av' kv : Value} {es es' : List Value} {ps : List Int} {ob : Obj} (h : WSt W wr N av kv k es m ps) (hg : (wr.alloc ob).grownBy w1 av.ownBlock) (ho : w1.ownsRow (N + 1) 29 1 av' k' es') : WSt W w1 N av' kv k' es' m ps := by
  obtain ⟨h1, h2, h3, h4, h5, h6, h7⟩ := h
  have hl := h2.lt
  have eN : w1.heap[N]? = wr.heap[N]? := by
    rw [hg.block N (by simp; omega) (fun e => by have := (h6.lt N e.symm).1; omega)]
    exact Below.heap_alloc _ _ _ hl
  have hB : Below N W w1 := (h1.trans ((below_al wr ob).mono (Nat.le_of_lt hl))).grown hg (by simp; omega) (fun j hj => by have := (h6.lt j hj).1; omega)
  exact ⟨hB, h2.eq eN, (cell_blk eN 0).trans h3, (cell_blk eN 1).trans h4, (cell_blk eN 2).trans h5, ho, (h7.alloc ob).kept hg (tag_ne (by decide) (h7.alloc ob) (h6.alloc ob))⟩

theorem WSt.kv {W wr w1 : World} {N k m m' : Nat} {av kv kv' : Value} {es : List Value} {ps ps' : List Int} {ob : Obj} (h : WSt W wr N av kv k es m ps) (hg : (wr.alloc ob).drew.grownBy w1 kv.ownBlock) (ho : w1.ownsRow (N + 1) 27 3 kv' m' (cL ps')) : w1.heap[N]? = wr.heap[N]? ∧ WSt W (w1.setCell ⟨N, 2, none⟩ kv') N av kv' k es m' ps' := by
  obtain ⟨h1, h2, h3, h4, h5, h6, h7⟩ := h
  have hl := h2.lt
  have eN : w1.heap[N]? = wr.heap[N]? := by
    rw [hg.block N (by show N < (wr.alloc ob).heap.size; simp; omega) (fun e => by have := (h7.lt N e.symm).1; omega)]
    exact Below.heap_alloc _ _ _ hl
  have hB : Below N W w1 := ((h1.trans ((below_al wr ob).mono (Nat.le_of_lt hl))).drew).grown hg (by show N ≤ (wr.alloc ob).heap.size; simp; omega) (fun j hj => by have := (h7.lt j hj).1; omega)
  have hO : Own w1 N 3 := h2.eq eN
  have h6' : w1.ownsRow (N + 1) 29 1 av k es := ((h6.alloc ob).drew).kept hg (tag_ne (by decide) ((h6.alloc ob).drew) ((h7.alloc ob).drew))
  refine ⟨eN, hB.setCell (p := ⟨N, 2, none⟩) (Nat.le_refl _) _, hO.set _ _, ?_, ?_, cell_set_same hO (by omega), ownsRow_setCell_below h6' (by show N < _; omega) _, ownsRow_setCell_below ho (by show N < _; omega) _⟩
  · rw [cell_set_other (.inr (by omega))]; exact (cell_blk eN 0).trans h3
  · rw [cell_set_other (.inr (by omega))]; exact (cell_blk eN 1).trans h4
theorem eL_snoc (zs : List Int) (z : Int) : eL (zs ++ [z]) = eL zs ++ [if 0 < z then .iface 40 (.agg #[.int .i64 z]) else .nilIface] := by simp [eL]
theorem pL_snoc (zs : List Int) (z : Int) : pL (zs ++ [z]) = pL zs ++ (if 0 < z then [z] else []) := by
  unfold pL; rw [List.filter_append]; by_cases h : 0 < z <;> simp [h]
end Go.Proofs.YtbdicgnmaonjgaaDoor
