/- The states of the loops that make many instructions, programs and cases, and how they go on. No condition. -/
import Derived.Test.YtifmamobhkgmfaaDoorRgW
namespace Go.Proofs.YtifmamobhkgmfaaDoor
open Go.RowKit
set_option linter.unusedVariables false

theorem Tryd.inf36 : (Tryd.prog.info? 36).map (fun i => (i.zero, i.size, i.bytes)) = some (some (.agg #[.int .i64 0, .int .i64 0, .int .i64 0, .int .i64 0, .slice none 0 0, .bool false]), 6, 64) := by kernel_rfl
theorem Tryd.inf29 : (Tryd.prog.info? 29).map (fun i => (i.zero, i.size, i.bytes)) = some (some (.slice none 0 0), 1, 24) := by kernel_rfl
theorem Tryd.inf41 : (Tryd.prog.info? 41).map (fun i => (i.zero, i.size, i.bytes)) = some (some (.agg #[.bool false, .int .i64 0, .int .i64 0]), 3, 24) := by kernel_rfl

theorem news_at (w : World) (cs : Array Value) (t : TypeId) (N : Nat) (h : N = w.heap.size) : ∀ j u, cs.toList[j]? = some u → (w.alloc (.cells cs t)).cell? ((⟨N, 0, none⟩ : Addr).add j) = some u := by
  subst h
  exact World.news_of_block (heap_alloc_new w _)
theorem own_cap {w : World} {base : Nat} {e : TypeId} {size n : Nat} {v : Value} {xs : List Value} (h : w.ownsRow base e size v n xs) : ∃ a c, v = .slice a n c ∧ n ≤ c ∧ c ≤ 9223372036854775807 := by
  rcases h.2 with ⟨rfl, rfl⟩ | ⟨g, cap, cur, rfl, _, _, h1, h2, _⟩
  · exact ⟨none, 0, rfl, by omega, by omega⟩
  · exact ⟨_, _, rfl, h1, h2⟩
theorem own_rd {w : World} {base e s n : Nat} {v : Value} {xs : List Value} (h : w.ownsRow base e s v n xs) : ∃ A c, v = .slice A n c ∧ n ≤ c ∧ c ≤ 9223372036854775807 ∧ Rd w w.heap.size A n s xs := by
  obtain ⟨A, c, rfl, h1, h2⟩ := own_cap h
  exact ⟨A, c, rfl, h1, h2, Rd.of_own h⟩
theorem tag_ne {w : World} {b1 b2 n1 n2 s1 s2 : Nat} {v1 v2 : Value} {xs1 xs2 : List Value} {e1 e2 : TypeId} (he : e1 ≠ e2) (h1 : w.ownsRow b1 e1 s1 v1 n1 xs1) (h2 : w.ownsRow b2 e2 s2 v2 n2 xs2) : v1.ownBlock = none ∨ v1.ownBlock ≠ v2.ownBlock := by
  rcases h1.2 with ⟨rfl, _⟩ | ⟨g, cap, cur, rfl, _, hg, _⟩
  · exact .inl rfl
  · right
    rcases h2.2 with ⟨rfl, _⟩ | ⟨g', cap', cur', rfl, _, hg', _⟩
    · simp [Value.ownBlock]
    · intro h
      have hgg : g = g' := by simpa [Value.ownBlock] using h
      subst hgg
      rw [hg] at hg'
      simp at hg'
      exact he hg'.2
theorem iV_one (e : In) : ∀ u ∈ iV e, u.oneCell' = true := by
  intro u hu
  simp only [iV, List.mem_cons, List.not_mem_nil, or_false] at hu
  rcases hu with rfl | rfl | rfl | rfl | rfl | rfl <;> rfl
theorem cV_one (c : Ca) : ∀ u ∈ cV c, u.oneCell' = true := by
  intro u hu
  simp only [cV, List.mem_cons, List.not_mem_nil, or_false] at hu
  rcases hu with rfl | rfl | rfl <;> rfl

def exN (k : Nat) : List In := List.replicate k (pl 7 0 0)
def prN (k : Nat) : List Pr := List.replicate k ⟨none, 0, 0, []⟩
def caN (k : Nat) : List Ca := List.replicate k ⟨false, 0, 0⟩
theorem exN_succ (k : Nat) : (exN (k + 1)).flatMap iV = (exN k).flatMap iV ++ iV (pl 7 0 0) := by
  unfold exN; rw [List.replicate_succ', List.flatMap_append]; simp
theorem prN_succ (k : Nat) : (prN (k + 1)).flatMap pV = (prN k).flatMap pV ++ [.slice none 0 0] := by
  unfold prN; rw [List.replicate_succ', List.flatMap_append]; simp [pV]
theorem caN_succ (k : Nat) : (caN (k + 1)).flatMap cV = (caN k).flatMap cV ++ cV ⟨false, 0, 0⟩ := by
  unfold caN; rw [List.replicate_succ', List.flatMap_append]; simp

def LmS (W wr : World) (k : Nat) (v : Value) : Prop := Below W.heap.size W wr ∧ wr.ownsRow W.heap.size 36 6 v k ((exN k).flatMap iV)
theorem LmS.next {W wr w2 : World} {k : Nat} {v v' : Value} {ob : Obj} (h : LmS W wr k v) (hg : (wr.alloc ob).grownBy w2 v.ownBlock) (ho : w2.ownsRow W.heap.size 36 6 v' (k + 1) ((exN k).flatMap iV ++ iV (pl 7 0 0))) : LmS W w2 (k + 1) v' := by
  refine ⟨(h.1.trans ((below_al wr ob).mono h.1.size)).grown hg (Nat.le_trans h.1.size (by simp)) (fun k hk => (h.2.lt k hk).1), ?_⟩
  rw [exN_succ]; exact ho

/-- Block K is a row of m cells or more, none frozen. -/
def Own (w : World) (K m : Nat) : Prop := ∃ (cur : Array Value) (e : TypeId), w.heap[K]? = some (.cells cur e (0, 0)) ∧ m ≤ cur.size
theorem Own.lt {w : World} {K m : Nat} (h : Own w K m) : K < w.heap.size := by
  obtain ⟨cur, e, h, _⟩ := h
  exact (Array.getElem?_eq_some_iff.1 h).1
theorem Own.cell {w : World} {K m : Nat} (h : Own w K m) (j : Nat) (hj : j < m) : ∃ v, w.cell? ⟨K, j, none⟩ = some v := by
  obtain ⟨cur, e, h, hm⟩ := h
  exact ⟨cur[j]'(by omega), by rw [cell_of_row w K j cur e (0, 0) h]; exact Array.getElem?_eq_getElem (by omega)⟩
theorem Own.frz {w : World} {K m : Nat} (h : Own w K m) (j : Nat) : w.frozen? ⟨K, j, none⟩ = false := by
  obtain ⟨cur, e, h, hm⟩ := h
  exact frozen_of_row w K j cur e h
theorem Own.set {w : World} {K m : Nat} (h : Own w K m) (j : Nat) (u : Value) : Own (w.setCell ⟨K, j, none⟩ u) K m := by
  obtain ⟨cur, e, h, hm⟩ := h
  exact ⟨cur.setIfInBounds j u, e, heap_setCell_same w K j cur e u h, by simpa using hm⟩
theorem Own.eq {w w' : World} {K m : Nat} (h : Own w K m) (he : w'.heap[K]? = w.heap[K]?) : Own w' K m := by
  obtain ⟨cur, e, h, hm⟩ := h
  exact ⟨cur, e, by rw [he]; exact h, hm⟩
theorem cell_set_same {w : World} {K m j : Nat} {u : Value} (h : Own w K m) (hj : j < m) : (w.setCell ⟨K, j, none⟩ u).cell? ⟨K, j, none⟩ = some u := by
  obtain ⟨v, hv⟩ := h.cell j hj
  exact World.cell?_setCell_same _ _ _ hv
theorem cell_set_other {w : World} {K j b i : Nat} {u : Value} (h : K ≠ b ∨ j ≠ i) : (w.setCell ⟨K, j, none⟩ u).cell? ⟨b, i, none⟩ = w.cell? ⟨b, i, none⟩ :=
  World.cell?_setCell_other _ _ _ _ (by intro e; injection e with e1 e2; omega)

/-- The second loop: the programs are a row of the call's own, the cases are one, and the select in block N holds them. -/
structure LcS (w1 wr : World) (N : Nat) (k m : Nat) (pv cv : Value) : Prop where
  bel : Below N w1 wr
  own : Own wr N 6
  c0 : wr.cell? ⟨N, 0, none⟩ = some (.int .i64 15)
  c1 : wr.cell? ⟨N, 1, none⟩ = some (.int .i64 0)
  c2 : wr.cell? ⟨N, 2, none⟩ = some (.int .i64 0)
  c3 : wr.cell? ⟨N, 3, none⟩ = some (.int .i64 0)
  c4 : wr.cell? ⟨N, 4, none⟩ = some cv
  c5 : wr.cell? ⟨N, 5, none⟩ = some (.bool false)
  rp : wr.ownsRow (N + 1) 29 1 pv k ((prN k).flatMap pV)
  rc : wr.ownsRow (N + 1) 41 3 cv m ((caN m).flatMap cV)
theorem LcS.p {w1 wr w2 : World} {N k m : Nat} {pv pv' cv : Value} {ob : Obj} (h : LcS w1 wr N k m pv cv) (hg : (wr.alloc ob).grownBy w2 pv.ownBlock) (ho : w2.ownsRow (N + 1) 29 1 pv' (k + 1) ((prN k).flatMap pV ++ [.slice none 0 0])) : LcS w1 w2 N (k + 1) m pv' cv := by
  have hl := h.own.lt
  have eN : w2.heap[N]? = wr.heap[N]? := by
    rw [hg.block N (by simp; omega) (fun e => by have := (h.rp.lt N e.symm).1; omega)]
    exact Below.heap_alloc _ _ _ hl
  have hB : Below N w1 w2 := (h.bel.trans ((below_al wr ob).mono (Nat.le_of_lt hl))).grown hg (by simp; omega) (fun j hj => by have := (h.rp.lt j hj).1; omega)
  exact ⟨hB, h.own.eq eN, (cell_blk eN 0).trans h.c0, (cell_blk eN 1).trans h.c1, (cell_blk eN 2).trans h.c2, (cell_blk eN 3).trans h.c3, (cell_blk eN 4).trans h.c4, (cell_blk eN 5).trans h.c5, by rw [prN_succ]; exact ho, (h.rc.alloc ob).kept hg (tag_ne (by decide) (h.rc.alloc ob) (h.rp.alloc ob))⟩
theorem LcS.c {w1 wr w2 : World} {N k m : Nat} {pv cv cv' : Value} {ob : Obj} (h : LcS w1 wr N k m pv cv) (hg : (wr.alloc ob).grownBy w2 cv.ownBlock) (ho : w2.ownsRow (N + 1) 41 3 cv' (m + 1) ((caN m).flatMap cV ++ cV ⟨false, 0, 0⟩)) : w2.frozen? ⟨N, 4, none⟩ = false ∧ w2.cell? ⟨N, 4, none⟩ = some cv ∧ N < w2.heap.size ∧ LcS w1 (w2.setCell ⟨N, 4, none⟩ cv') N k (m + 1) pv cv' := by
  have hl := h.own.lt
  have eN : w2.heap[N]? = wr.heap[N]? := by
    rw [hg.block N (by simp; omega) (fun e => by have := (h.rc.lt N e.symm).1; omega)]
    exact Below.heap_alloc _ _ _ hl
  have hB : Below N w1 w2 := (h.bel.trans ((below_al wr ob).mono (Nat.le_of_lt hl))).grown hg (by simp; omega) (fun j hj => by have := (h.rc.lt j hj).1; omega)
  have hO : Own w2 N 6 := h.own.eq eN
  have hp : w2.ownsRow (N + 1) 29 1 pv k ((prN k).flatMap pV) := (h.rp.alloc ob).kept hg (tag_ne (by decide) (h.rp.alloc ob) (h.rc.alloc ob))
  refine ⟨hO.frz 4, (cell_blk eN 4).trans h.c4, hO.lt, hB.setCell (p := ⟨N, 4, none⟩) (Nat.le_refl _) _, hO.set _ _, ?_, ?_, ?_, ?_, cell_set_same hO (by omega), ?_, ownsRow_setCell_below hp (by show N < _; omega) _, by rw [caN_succ]; exact ownsRow_setCell_below ho (by show N < _; omega) _⟩
  · rw [cell_set_other (.inr (by omega))]; exact (cell_blk eN 0).trans h.c0
  · rw [cell_set_other (.inr (by omega))]; exact (cell_blk eN 1).trans h.c1
  · rw [cell_set_other (.inr (by omega))]; exact (cell_blk eN 2).trans h.c2
  · rw [cell_set_other (.inr (by omega))]; exact (cell_blk eN 3).trans h.c3
  · rw [cell_set_other (.inr (by omega))]; exact (cell_blk eN 5).trans h.c5
theorem LcS.mk0 (w1 : World) : LcS w1 (w1.alloc (.cells #[.int .i64 15, .int .i64 0, .int .i64 0, .int .i64 0, .slice none 0 0, .bool false] 36)) w1.heap.size 0 0 (.slice none 0 0) (.slice none 0 0) :=
  ⟨below_al _ _, ⟨_, _, heap_alloc_new w1 _, Nat.le_refl _⟩, by simp, by simp, by simp, by simp, by simp, by simp, World.ownsRow_nil _ _ _ _, World.ownsRow_nil _ _ _ _⟩

theorem allp_rep {α : Type} (p : α → Bool) (k : Nat) (x : α) (h : p x = true) : (List.replicate k x).all p = true := by
  rw [List.all_eq_true]
  intro y hy
  rw [List.eq_of_mem_replicate hy]; exact h
theorem chk_ex (n : Nat) : checkB (exN n) 16 = decide (n ≤ 100) := by
  unfold checkB exN
  rw [allp_rep _ _ _ (by rfl), List.length_replicate, Bool.and_true]
theorem all_pr (k : Nat) : allB (prN k) = decide (1 ≤ k ∧ k ≤ 16) := by
  unfold allB prN
  rw [allp_rep _ _ _ (by rfl), List.length_replicate, Bool.and_true]
theorem chk_sel (A : Option Addr) (k c : Nat) : checkB [⟨15, 0, 0, 0, A, k, c, false, caN k⟩] 16 = decide (k ≤ 16) := by
  have h1 : checkB [⟨15, 0, 0, 0, A, k, c, false, caN k⟩] 16 = casB ⟨15, 0, 0, 0, A, k, c, false, caN k⟩ := by
    unfold checkB
    simp only [List.length_cons, List.length_nil, List.all_cons, List.all_nil, Bool.and_true]
    have h9 := mayB_in 1 16 15 (by omega) (by omega) 0 0 0 A k c false (caN k)
    have h8 : fitsB 1 16 0 (row 15).a = true ∧ fitsB 1 16 0 (row 15).b = true ∧ fitsB 1 16 0 (row 15).c = true := ⟨rfl, rfl, rfl⟩
    rw [h8.1, h8.2.1, h8.2.2] at h9
    exact h9
  rw [h1]
  unfold casB caN
  simp only [if_true]
  rw [allp_rep _ _ _ (by rfl), List.length_replicate, Bool.and_true]
end Go.Proofs.YtifmamobhkgmfaaDoor
