/- A slice of pairs that came in; a place looked for in a slice. No condition. -/
import Derived.Test.YtbgllnooodhgpaaBhW
namespace Go.Proofs.Ytbgllnooodhgpaa
open Go.RowKit Go.ChangeShapes Go.WideShapes Go.Deep
set_option linter.unusedVariables false

def RdP (w : World) (A : Option Addr) (n : Nat) (k v : Nat → Int) : Prop :=
  0 < n → ∃ b off, A = some ⟨b, off, none⟩ ∧ b < w.heap.size ∧ ∀ i, i < n → w.cell? ⟨b, off + i * 2, none⟩ = some (.int .i64 (k i)) ∧ w.cell? ⟨b, off + i * 2 + 1, none⟩ = some (.int .i64 (v i)) ∧ Wf (v i)
theorem RdP.cell {W w : World} {A : Option Addr} {n i : Nat} {k v : Nat → Int} (h : RdP W A n k v) (hb : Below W.heap.size W w) (hi : i < n) : ∃ b off, A = some ⟨b, off, none⟩ ∧ b < W.heap.size ∧ w.cell? ⟨b, off + i * 2, none⟩ = some (.int .i64 (k i)) ∧ w.cell? ⟨b, off + i * 2 + 1, none⟩ = some (.int .i64 (v i)) ∧ Wf (v i) := by
  obtain ⟨b, off, e, hl, hc⟩ := h (by omega)
  exact ⟨b, off, e, hl, (cell_blk (hb.block b hl) _).trans (hc i hi).1, (cell_blk (hb.block b hl) _).trans (hc i hi).2.1, (hc i hi).2.2⟩

theorem cells27 : Try.prog.cellsOf 27 = 2 := by kernel_rfl
theorem cells3 : Try.prog.cellsOf 3 = 1 := by kernel_rfl
theorem plain_of {w : World} {a : Addr} {v : Value} (h : w.cell? a = some v) : ∃ b off, a = ⟨b, off, none⟩ ∧ b < w.heap.size := by
  obtain ⟨b, off, spot⟩ := a
  have hs : spot = none := World.cell?_spot h
  subst hs
  exact ⟨b, off, rfl, World.block_lt_of_cell? _ _ h⟩
theorem add_plain (b off i : Nat) : (⟨b, off, none⟩ : Addr).add i = ⟨b, off + i, none⟩ := by
  unfold Addr.add
  by_cases h : i = 0
  · subst h; simp
  · simp [h]
section
variable {H : Type} {enc : TypeId × Value → H} {w : World} {base : Nat} {spare : Nat → Bool} {held : Bool}
theorem open_pair {n : Nat} {cs : List Value} {x : DataW H × List MemPlace} (h : DataW.trod enc Try.prog w base spare held n 27 cs = some x) : ∃ a b : Int, cs = [.int .i64 a, .int .i64 b] ∧ Wf b := by
  obtain ⟨xs, m, _, _, hl, hlen, hf⟩ := DataW.trod_array Try.underlying27 h
  rw [cells27] at hl
  match cs, hl with
  | [c0, c1], _ =>
    have h0 := hf 0 (by omega)
    have h1 := hf 1 (by omega)
    rw [cells3] at h0 h1
    match xs, hlen with
    | [y0, y1], _ =>
      obtain ⟨z0, e0, _, _⟩ := DataW.trod_int Try.underlying3 h0
      obtain ⟨z1, e1, q1, q2⟩ := DataW.trod_int Try.underlying3 h1
      cases e0; cases e1
      exact ⟨z0, z1, rfl, by first | exact q1 | exact q2⟩
theorem open_pairs {A : Option Addr} {len cap : Nat} {d : DataW H} {p : List MemPlace} (h : DataW.Trod enc Try.prog w base spare held 22 (.slice A len cap) d p) : ∃ kv : (Nat → Int) × (Nat → Int), RdP w A len kv.1 kv.2 := by
  obtain ⟨fuel, hf⟩ := h
  rcases open_slice Try.underlying22 hf with ⟨hcs, _⟩ | ⟨a, len', cap', m, n, D, Pl, hcs, _, hl, hm, hmm, _, hi⟩
  · simp [Value.cells] at hcs
    obtain ⟨rfl, rfl, rfl⟩ := hcs
    exact ⟨(fun _ => 0, fun _ => 0), fun h => absurd h (by omega)⟩
  · simp [Value.cells] at hcs
    obtain ⟨rfl, rfl, rfl⟩ := hcs
    have hlm : len ≤ m := by rw [hmm]; split <;> omega
    have hx : ∀ i, ∃ e : Int × Int, i < len → w.cell? (a.add (i * 2)) = some (.int .i64 e.1) ∧ w.cell? (a.add (i * 2 + 1)) = some (.int .i64 e.2) ∧ Wf e.2 := by
      intro i
      by_cases hil : i < len
      · obtain ⟨cs', hc, ht⟩ := hi i (by omega)
        obtain ⟨y, z, rfl, hz⟩ := open_pair ht
        rw [cells27] at hc
        obtain ⟨_, _, hat⟩ := World.cells?_some hc
        refine ⟨(y, z), fun _ => ⟨?_, ?_, hz⟩⟩
        · have k0 := hat 0 (by omega)
          rw [Go.Deep.add_add] at k0
          simpa using k0
        · have k0 := hat 1 (by omega)
          rw [Go.Deep.add_add] at k0
          rw [k0]; rfl
      · exact ⟨(0, 0), fun h => absurd h hil⟩
    obtain ⟨E, hE⟩ := Classical.axiomOfChoice hx
    refine ⟨(fun i => (E i).1, fun i => (E i).2), fun h0 => ?_⟩
    have k0 := (hE 0 h0).1
    obtain ⟨b, off, rfl, hb⟩ : ∃ b off, a = ⟨b, off, none⟩ ∧ b < w.heap.size := by
      have h9 : a.add (0 * 2) = a := by unfold Addr.add; simp
      rw [h9] at k0
      exact plain_of k0
    refine ⟨b, off, rfl, hb, fun i hil => ?_⟩
    obtain ⟨q1, q2, q3⟩ := hE i hil
    rw [add_plain] at q1 q2
    exact ⟨q1, q2, q3⟩
end

/-- What has been found of t among the first j. -/
def Fd (L : List Int) (t : Int) (j : Nat) (z : Int) : Prop := (z = -1 ∧ t ∉ L.take j) ∨ ∃ p : Nat, p < j ∧ z = (p : Int) ∧ L[p]? = some t
theorem Fd.start (L : List Int) (t : Int) : Fd L t 0 (-1) := .inl ⟨rfl, by simp⟩
theorem Fd.yes {L : List Int} {t : Int} {j : Nat} (h : L[j]? = some t) : Fd L t (j + 1) (j : Int) := .inr ⟨j, by omega, rfl, h⟩
theorem Fd.no {L : List Int} {t y z : Int} {j : Nat} (h : Fd L t j z) (hy : L[j]? = some y) (hne : y ≠ t) : Fd L t (j + 1) z := by
  rcases h with ⟨h1, h2⟩ | ⟨p, h1, h2, h3⟩
  · refine .inl ⟨h1, ?_⟩
    rw [take_one hy]
    intro hm
    simp at hm
    rcases hm with hm | hm
    · exact h2 hm
    · exact hne hm.symm
  · exact .inr ⟨p, by omega, h2, h3⟩
theorem Fd.done {L : List Int} {t z : Int} (h : Fd L t L.length z) : (z = -1 ∧ t ∉ L) ∨ ∃ p : Nat, p < L.length ∧ z = (p : Int) ∧ L[p]? = some t := by
  rcases h with ⟨h1, h2⟩ | h
  · rw [List.take_length] at h2; exact .inl ⟨h1, h2⟩
  · exact .inr h
/-- The first p of a row, and those behind. -/
theorem Rn.take {w : World} {A : Option Addr} {n p : Nat} {l : List Int} (h : Rn w A n l) (hp : p ≤ n) : Rn w A p (l.take p) := by
  refine ⟨by rw [List.length_take, h.1]; omega, fun h0 => ?_⟩
  obtain ⟨b, off, e, hb, hc⟩ := h.2 (by omega)
  refine ⟨b, off, e, hb, fun j x hx => hc j x ?_⟩
  rw [List.getElem?_take] at hx
  split at hx
  · exact hx
  · cases hx
theorem Rn.drop {w : World} {b off n p : Nat} {l : List Int} (h : Rn w (some ⟨b, off, none⟩) n l) (hp : p ≤ n) : Rn w (some ⟨b, off + p, none⟩) (n - p) (l.drop p) := by
  refine ⟨by rw [List.length_drop, h.1], fun h0 => ?_⟩
  obtain ⟨b', off', e, hb, hc⟩ := h.2 (by omega)
  cases e
  refine ⟨b, _, rfl, hb, fun j x hx => ?_⟩
  rw [List.getElem?_drop] at hx
  rw [Nat.add_assoc]; exact hc _ x hx
theorem heap_e1 (w : World) : (w.alloc (.cells #[] 3)).heap[w.heap.size]? = some (.cells #[] 3 (0, 0)) := heap_alloc_new _ _
end Go.Proofs.Ytbgllnooodhgpaa
