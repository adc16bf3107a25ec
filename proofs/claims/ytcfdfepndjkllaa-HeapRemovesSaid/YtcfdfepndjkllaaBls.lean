/- A heap, and a row of bools beside it. No condition. -/
import Derived.Test.YtcfdfepndjkllaaAds
namespace Go.Proofs.Ytcfdfepndjkllaa
open Go.RowKit
set_option linter.unusedVariables false
/-- A row of bools. -/
def SB (n : Nat) (g : Nat → Bool) : List Value := (List.range n).map fun j => .bool (g j)
theorem SB_new (n : Nat) : List.replicate n (Value.bool false) = SB n (fun _ => false) := by
  apply List.ext_getElem?
  intro j
  by_cases h : j < n <;> simp [SB, h]
theorem SB_at {n j : Nat} {g : Nat → Bool} (h : j < n) : (SB n g)[j]? = some (.bool (g j)) := by simp [SB, h]
theorem SB_set {n j : Nat} {g : Nat → Bool} : (SB n g).set j (.bool true) = SB n (fun i => g i || j == i) := by
  apply List.ext_getElem?
  intro i
  rw [List.getElem?_set]
  by_cases h : i < n
  · by_cases e : j = i
    · subst e; simp [SB, h]
    · simp [SB, h, e]
  · by_cases e : j = i
    · subst e; simp [SB, h]
    · simp [SB, h, e]
theorem inf4 : (Try.prog.info? 4).map (fun i => (i.zero, i.size, i.bytes)) = some (some (.bool false), 1, 1) := by kernel_rfl
/-- A heap, and a row of m bools in block s. -/
structure SQ (W : World) (o b n : Nat) (S : List It) (L : List (Nat × It)) (s m : Nat) (g : Nat → Bool) (w : World) : Prop where
  st : ST W o b n S L w
  row : w.ownsRow W.heap.size 4 1 (.slice (some ⟨s, 0, none⟩) m m) m (SB m g)
section
variable {W w w' : World} {o b n n' s m t : Nat} {S S' : List It} {L L' : List (Nat × It)} {g : Nat → Bool} {e : Ending} {v : Value} {x : It}
theorem SQ.later (h : SQ W o b n S L s m g w) (hb : Below w.heap.size w w') : SQ W o b n S L s m g w' := ⟨h.st.later hb, row_later h.row hb⟩
theorem SQ.drewN (h : SQ W o b n S L s m g w) (q : Nat) : SQ W o b n S L s m g (w.drewN q) := h.later (below_drewN w q)
theorem SQ.go (h : SQ W o b n S L s m g w) (r : SR W o b n' S' L v w e w') : SQ W o b n' S' L s m g w' := ⟨r.2.1, r.2.2.row h.row (by decide) (by decide)⟩
theorem SQ.box (h : SQ W o b n S L s m g w) (x : It) : SQ W o b n S ((w.heap.size, x) :: L) s m g (w.alloc (.cells #[.int .i64 x.id, .int .i64 x.w, .int .i64 x.s] 36)) := ⟨h.st.box x, row_later h.row (below_al _ _)⟩
theorem SQ.sub (h : SQ W o b n S L s m g w) (hs : ∀ q ∈ L', q ∈ L) : SQ W o b n S L' s m g w := ⟨h.st.sub hs, h.row⟩
theorem SQ.put3 (h : SQ W o b n S ((t, x) :: L) s m g w) (hn : ∀ q ∈ L, q.1 ≠ t) (y : It) : SQ W o b n S ((t, y) :: L) s m g (((w.setCell ⟨t, 0, none⟩ (.int .i64 y.id)).setCell ⟨t, 1, none⟩ (.int .i64 y.w)).setCell ⟨t, 2, none⟩ (.int .i64 y.s)) :=
  ⟨h.st.put3 hn y, (ot_set3 (h.st.blk (x := x) (by simp)) y).row h.row (by decide) (by decide)⟩
theorem SQ.set (h : SQ W o b n S L s m g w) (j : Nat) : SQ W o b n S L s m (fun i => g i || j == i) (w.setCell ⟨s, j, none⟩ (.bool true)) := by
  obtain ⟨cs, fr, ht⟩ := row_tag h.row (k := s) rfl
  exact ⟨h.st.cell (row_lt h.row (k := s) rfl).1 ht (by decide) (by decide) _, by rw [← SB_set]; exact (h.row.stored j _).1⟩
theorem SQ.at (h : SQ W o b n S L s m g w) {j : Nat} (hj : j < m) : w.cell? ⟨s, j, none⟩ = some (.bool (g j)) ∧ w.frozen? ⟨s, j, none⟩ = false := ⟨by rw [h.row.cellAt j (by omega)]; exact SB_at hj, h.row.frozenAt j⟩
theorem SQ.ls (h : SQ W o b n S L s m g w) : W.heap.size ≤ s ∧ s < w.heap.size := row_lt h.row rfl
theorem SQ.ne (h : SQ W o b n S L s m g w) (hq : (t, x) ∈ L) : t ≠ s := by
  obtain ⟨cs, fr, ht⟩ := row_tag h.row (k := s) rfl
  have h4 := h.st.blk hq
  rintro rfl
  unfold Blk at h4
  rw [h4] at ht; injection ht with ht; injection ht with _ ht _; cases ht
end
end Go.Proofs.Ytcfdfepndjkllaa
