/- What is left when a task is taken out; the first one of a task and case, looked for from the end. No condition. -/
import Derived.Test.YtdmdmaolbbjboaaStp
namespace Go.Proofs.Ytdmdmaolbbjboaa
open Go.RowKit
set_option linter.unusedVariables false

structure LfS (W2 : World) (l : List Wt) (t : Int) (j n : Nat) (v : Value) (w : World) : Prop where
  bel : Below W2.heap.size W2 w
  row : w.ownsRow W2.heap.size 28 3 v n (flW ((l.take j).filter fun x => !isT t x))
  len : ((l.take j).filter fun x => !isT t x).length = n
theorem LfS.start (W2 : World) (l : List Wt) (t : Int) : LfS W2 l t 0 0 (.slice none 0 0) W2 := ⟨Below.refl _ _, World.ownsRow_nil _ _ _ _, rfl⟩
theorem LfS.later {W2 w w' : World} {l : List Wt} {t : Int} {j n : Nat} {v : Value} (h : LfS W2 l t j n v w) (hh : w'.heap = w.heap) (hb : Below w.heap.size w w') : LfS W2 l t j n v w' :=
  ⟨h.bel.trans (hb.mono h.bel.size), own_heap h.row (fun k o e => by rw [hh]; exact e), h.len⟩
theorem LfS.skip {W2 w : World} {l : List Wt} {t : Int} {j n : Nat} {v : Value} {x : Wt} (h : LfS W2 l t j n v w) (hx : l[j]? = some x) (hT : isT t x = true) : LfS W2 l t (j + 1) n v w := by
  obtain ⟨hj, rfl⟩ := List.getElem?_eq_some_iff.1 hx
  have e : ((l.take (j + 1)).filter fun x => !isT t x) = (l.take j).filter fun x => !isT t x := by
    rw [List.take_succ_eq_append_getElem hj, List.filter_append]; simp [hT]
  exact ⟨h.bel, by rw [e]; exact h.row, by rw [e]; exact h.len⟩
theorem LfS.take {W2 w w' : World} {l : List Wt} {t : Int} {j n : Nat} {v v' : Value} {x : Wt} (h : LfS W2 l t j n v w) (hx : l[j]? = some x) (hT : isT t x = false) (hb : Below W2.heap.size W2 w')
    (ho : w'.ownsRow W2.heap.size 28 3 v' (n + 1) (flW ((l.take j).filter fun x => !isT t x) ++ flW [x])) : LfS W2 l t (j + 1) (n + 1) v' w' := by
  obtain ⟨hj, rfl⟩ := List.getElem?_eq_some_iff.1 hx
  have e : ((l.take (j + 1)).filter fun x => !isT t x) = ((l.take j).filter fun x => !isT t x) ++ [l[j]] := by
    rw [List.take_succ_eq_append_getElem hj, List.filter_append]; simp [hT]
  exact ⟨hb, by rw [e, flW_app]; exact ho, by rw [e, List.length_append, h.len]; rfl⟩
theorem LfS.fin {W2 w : World} {l : List Wt} {t : Int} {m n : Nat} {v : Value} (h : LfS W2 l t m n v w) (hm : l.length = m) : ∃ A c, v = .slice A n c ∧ Wn w W2.heap.size A n c (l.filter fun x => !isT t x) := by
  obtain ⟨_, hr, hl⟩ := h
  rw [List.take_of_length_le (by omega)] at hr hl
  exact Wn.of_own hl hr
theorem left_ct (l : List Wt) (f : Wt → Bool) : l.countP f + (l.filter fun x => !f x).length = l.length := by
  induction l with
  | nil => rfl
  | cons a l ih =>
    cases h : f a
    · simp [h]; omega
    · simp [h]; omega

/-- The first one at place j or behind it that f takes stands at F; -1: there is none. -/
def FaR (f : Wt → Bool) (l : List Wt) (j : Nat) (F : Int) : Prop :=
  ((∀ i x, j ≤ i → l[i]? = some x → f x = false) ∧ F = -1) ∨ ∃ (p : Nat) (x : Wt), j ≤ p ∧ l[p]? = some x ∧ f x = true ∧ (∀ i y, j ≤ i → i < p → l[i]? = some y → f y = false) ∧ F = (p : Int)
theorem FaR.start (f : Wt → Bool) (l : List Wt) (j : Nat) (hj : l.length = j) : FaR f l j (-1) := .inl ⟨fun i x hi hx => by have := (List.getElem?_eq_some_iff.1 hx).1; omega, rfl⟩
theorem FaR.here {f : Wt → Bool} {l : List Wt} {j : Nat} {x : Wt} (hx : l[j]? = some x) (hf : f x = true) : FaR f l j (j : Int) := .inr ⟨j, x, Nat.le_refl _, hx, hf, fun i y h1 h2 => by omega, rfl⟩
theorem FaR.skip {f : Wt → Bool} {l : List Wt} {j : Nat} {F : Int} {x : Wt} (h : FaR f l (j + 1) F) (hx : l[j]? = some x) (hf : f x = false) : FaR f l j F := by
  have key : ∀ (i : Nat) (y : Wt), i = j → l[i]? = some y → f y = false := by rintro i y rfl h; rw [hx] at h; cases h; exact hf
  rcases h with ⟨h, e⟩ | ⟨p, y, h1, h2, h3, h4, h5⟩
  · refine .inl ⟨fun i y hi hy => ?_, e⟩
    by_cases he : i = j
    · exact key i y he hy
    · exact h i y (by omega) hy
  · refine .inr ⟨p, y, by omega, h2, h3, fun i z hi hp hz => ?_, h5⟩
    by_cases he : i = j
    · exact key i z he hz
    · exact h4 i z (by omega) hp hz
theorem FaR.le {f : Wt → Bool} {l : List Wt} {j : Nat} {F : Int} (h : FaR f l j F) : -1 ≤ F ∧ F < l.length := by
  rcases h with ⟨_, e⟩ | ⟨p, x, _, h2, _, _, e⟩
  · omega
  · have := (List.getElem?_eq_some_iff.1 h2).1; omega
theorem FaR.no {f : Wt → Bool} {l : List Wt} {F : Int} (h : FaR f l 0 F) (hl : ∀ x ∈ l, f x = false) : F = -1 := by
  rcases h with ⟨_, e⟩ | ⟨p, x, _, h2, h3, _⟩
  · exact e
  · rw [hl x (List.mem_of_getElem? h2)] at h3; cases h3
theorem FaR.yes {f : Wt → Bool} {l1 l2 : List Wt} {x : Wt} {F : Int} (h : FaR f (l1 ++ x :: l2) 0 F) (hl : ∀ y ∈ l1, f y = false) (hx : f x = true) : F = (l1.length : Int) := by
  have hat : (l1 ++ x :: l2)[l1.length]? = some x := by simp
  rcases h with ⟨h, _⟩ | ⟨p, y, _, h2, h3, h4, e⟩
  · rw [h _ _ (Nat.zero_le _) hat] at hx; cases hx
  · rw [e]
    rcases Nat.lt_trichotomy p l1.length with hp | hp | hp
    · rw [List.getElem?_append_left hp] at h2
      rw [hl y (List.mem_of_getElem? h2)] at h3; cases h3
    · rw [hp]
    · rw [h4 _ _ (Nat.zero_le _) hp hat] at hx; cases hx
theorem any_take {f : Wt → Bool} {l : List Wt} {j : Nat} {x : Wt} (hx : l[j]? = some x) : (l.take (j + 1)).any f = ((l.take j).any f || f x) := by
  obtain ⟨hj, rfl⟩ := List.getElem?_eq_some_iff.1 hx
  rw [List.take_succ_eq_append_getElem hj, List.any_append]; simp
/-- The cells of one that is wanted. -/
theorem Wn.one {w : World} {base n c j : Nat} {A : Option Addr} {l : List Wt} (h : Wn w base A n c l) (hj : j < n) : ∃ g off x, A = some ⟨g, off, none⟩ ∧ g < w.heap.size ∧ l[j]? = some x ∧
    w.cell? ⟨g, off + j * 3, none⟩ = some (.int .i64 x.t) ∧ w.cell? ⟨g, off + j * 3 + 1, none⟩ = some (.int .i64 x.c) ∧ w.cell? ⟨g, off + j * 3 + 2, none⟩ = some (.int .i64 x.v) := by
  obtain ⟨g, off, e, _, h2, h3⟩ := h.cells (by omega)
  have hx : l[j]? = some (l[j]'(by rw [h.1]; exact hj)) := List.getElem?_eq_getElem _
  exact ⟨g, off, _, e, h2, hx, h3 j _ hx⟩
end Go.Proofs.Ytdmdmaolbbjboaa
