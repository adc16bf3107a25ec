/- Arguments opened: a slice of acts. No condition. -/
import Derived.Test.YtplckaodenpdbaaAct
import Derived.Deep.Slices
import Derived.ChangeSame
import Derived.ChangeSlices
import Derived.ProofKit
import Derived.OpenShut
namespace Go.Proofs.Ytplckaodenpdbaa
open Go.RowKit Go.ChangeShapes Go.WideShapes Go.Deep
set_option linter.unusedVariables false
set_option maxRecDepth 100000
/-- A slice of n elements, s cells each, reads as the row xs, below block B. -/
def Rd (w : World) (B : Nat) (A : Option Addr) (n s : Nat) (xs : List Value) : Prop :=
  xs.length = n * s ∧ (0 < n → ∃ b off, A = some ⟨b, off, none⟩ ∧ b < B ∧ ∀ j u, xs[j]? = some u → w.cell? ⟨b, off + j, none⟩ = some u)
theorem Rd.nil (w : World) (B s : Nat) (A : Option Addr) : Rd w B A 0 s [] := ⟨by simp, fun h => absurd h (by omega)⟩
theorem flat_mem {α : Type} (f : α → List Value) (s : Nat) (hs : ∀ x, (f x).length = s) (h0 : 0 < s) (l : List α) (j : Nat) (u : Value) (hu : (l.flatMap f)[j]? = some u) : ∃ i k x, j = i * s + k ∧ k < s ∧ l[i]? = some x ∧ (f x)[k]? = some u := by
  have hj : j < l.length * s := by rw [← flat_len f s hs]; exact (List.getElem?_eq_some_iff.1 hu).1
  have hi : j / s < l.length := Nat.div_lt_of_lt_mul (by rw [Nat.mul_comm]; exact hj)
  have hk : j % s < s := Nat.mod_lt _ h0
  have ej : j = j / s * s + j % s := by rw [Nat.mul_comm]; exact (Nat.div_add_mod j s).symm
  refine ⟨j / s, j % s, l[j / s]'hi, ej, hk, List.getElem?_eq_getElem hi, ?_⟩
  rw [← flat_at f s hs l _ _ (List.getElem?_eq_getElem hi) _ hk, ← ej]; exact hu
theorem Rd.mk {α : Type} {f : α → List Value} {w : World} {b off n s : Nat} {l : List α} (hs : ∀ x, (f x).length = s) (h0 : 0 < s) (hn : l.length = n) (hb : b < w.heap.size)
    (h : ∀ i x, l[i]? = some x → ∀ k u, (f x)[k]? = some u → w.cell? ⟨b, off + i * s + k, none⟩ = some u) : Rd w w.heap.size (some ⟨b, off, none⟩) n s (l.flatMap f) := by
  refine ⟨by rw [flat_len f s hs, hn], fun _ => ⟨b, off, rfl, hb, fun j u hu => ?_⟩⟩
  obtain ⟨i, k, x, rfl, _, hx, hk⟩ := flat_mem f s hs h0 l j u hu
  rw [← Nat.add_assoc]
  exact h i x hx k u hk
theorem Rd.at {α : Type} {f : α → List Value} {w : World} {B n s : Nat} {A : Option Addr} {l : List α} (hs : ∀ x, (f x).length = s) (h : Rd w B A n s (l.flatMap f)) (h0 : 0 < n) :
    ∃ b off, A = some ⟨b, off, none⟩ ∧ b < B ∧ ∀ i x, l[i]? = some x → ∀ j, j < s → ∀ u, (f x)[j]? = some u → w.cell? ⟨b, off + i * s + j, none⟩ = some u := by
  obtain ⟨b, off, e, hl, hc⟩ := h.2 h0
  refine ⟨b, off, e, hl, fun i x hx j hj u hu => ?_⟩
  rw [Nat.add_assoc]
  exact hc _ _ ((flat_at f s hs l i x hx j hj).trans hu)
/-- An act: its kind, a number, yes or no. -/
structure Ac where
  k : Int
  n : Int
  y : Bool
def aV (a : Ac) : List Value := [.int .i64 a.k, .int .i64 a.n, .bool a.y]
theorem aV_len (a : Ac) : (aV a).length = 3 := rfl
def RdA (w : World) (A : Option Addr) (n : Nat) (l : List Ac) : Prop := l.length = n ∧ Rd w w.heap.size A n 3 (l.flatMap aV)
/-- Its element k, later on. -/
theorem RdA.cells {W w : World} {A : Option Addr} {n k : Nat} {l : List Ac} (h : RdA W A n l) (hb : Below W.heap.size W w) (hk : k < n) : ∃ b off a, A = some ⟨b, off, none⟩ ∧ b < W.heap.size ∧ l[k]? = some a ∧
    w.cell? ⟨b, off + k * 3, none⟩ = some (.int .i64 a.k) ∧ w.cell? ⟨b, off + k * 3 + 1, none⟩ = some (.int .i64 a.n) ∧ w.cell? ⟨b, off + k * 3 + 2, none⟩ = some (.bool a.y) := by
  obtain ⟨b, off, e, hl, hc⟩ := Rd.at aV_len h.2 (by omega)
  have hx : l[k]? = some (l[k]'(by rw [h.1]; exact hk)) := List.getElem?_eq_getElem _
  have q : ∀ i, w.cell? ⟨b, i, none⟩ = W.cell? ⟨b, i, none⟩ := cell_blk (hb.block b hl)
  exact ⟨b, off, _, e, hl, hx, (q _).trans (hc k _ hx 0 (by omega) _ rfl), (q _).trans (hc k _ hx 1 (by omega) _ rfl), (q _).trans (hc k _ hx 2 (by omega) _ rfl)⟩

theorem cells32 : Try.prog.cellsOf 31 = 3 := by kernel_rfl
theorem cells3 : Try.prog.cellsOf 3 = 1 := by kernel_rfl
theorem cells4 : Try.prog.cellsOf 4 = 1 := by kernel_rfl
theorem aplain_of {w : World} {a : Addr} {v : Value} (h : w.cell? a = some v) : ∃ b off, a = ⟨b, off, none⟩ ∧ b < w.heap.size := by
  obtain ⟨b, off, spot⟩ := a
  have hs : spot = none := World.cell?_spot h
  subst hs
  exact ⟨b, off, rfl, World.block_lt_of_cell? _ _ h⟩
theorem aadd_plain (b off i : Nat) : (⟨b, off, none⟩ : Addr).add i = ⟨b, off + i, none⟩ := by
  unfold Addr.add
  by_cases h : i = 0
  · subst h; simp
  · simp [h]

/-- What is told of a slice of acts that came in: each number fits. -/
def IsA (w : World) (A : Option Addr) (n cap : Nat) (l : List Ac) : Prop := n ≤ cap ∧ cap ≤ 9223372036854775807 ∧ RdA w A n l

section
variable {H : Type} {enc : TypeId × Value → H} {w : World} {base : Nat} {spare : Nat → Bool} {held : Bool}
theorem open_act {n : Nat} {cs : List Value} {x : DataW H × List MemPlace} (h : DataW.trod enc Try.prog w base spare held n 31 cs = some x) : ∃ a : Ac, cs = aV a := by
  obtain ⟨xs, m, _, _, hl, hlen, hf⟩ := DataW.trod_struct Try.underlying31 h
  rw [cells32] at hl
  match cs, hl with
  | [c0, c1, c2], _ =>
    have h0 : DataW.trod enc Try.prog w base spare held m 3 (List.take (Try.prog.cellsOf 3) (List.drop 0 [c0, c1, c2])) = xs[0]? := hf 0 _ rfl
    have h1 : DataW.trod enc Try.prog w base spare held m 3 (List.take (Try.prog.cellsOf 3) (List.drop 1 [c0, c1, c2])) = xs[1]? := hf 1 _ rfl
    have h2 : DataW.trod enc Try.prog w base spare held m 4 (List.take (Try.prog.cellsOf 4) (List.drop 2 [c0, c1, c2])) = xs[2]? := hf 2 _ rfl
    rw [cells3] at h0 h1
    rw [cells4] at h2
    match xs, hlen with
    | [y0, y1, y2], _ =>
      obtain ⟨z0, e0, _, _⟩ := DataW.trod_int Try.underlying3 h0
      obtain ⟨z1, e1, _, hw1⟩ := DataW.trod_int Try.underlying3 h1
      obtain ⟨z2, e2, _⟩ := DataW.trod_bool Try.underlying4 h2
      cases e0; cases e1; cases e2
      exact ⟨⟨z0, z1, z2⟩, rfl⟩
theorem open_acts {A : Option Addr} {len cap : Nat} {d : DataW H} {p : List MemPlace} (h : DataW.Trod enc Try.prog w base spare held 22 (.slice A len cap) d p) : ∃ l, IsA w A len cap l := by
  obtain ⟨fuel, hf⟩ := h
  rcases open_slice Try.underlying22 hf with ⟨hcs, _⟩ | ⟨a, len', cap', m, n, D, Pl, hcs, _, hl, hm, hmm, _, hi⟩
  · simp [Value.cells] at hcs
    obtain ⟨rfl, rfl, rfl⟩ := hcs
    exact ⟨[], by omega, by omega, rfl, Rd.nil _ _ _ _⟩
  · simp [Value.cells] at hcs
    obtain ⟨rfl, rfl, rfl⟩ := hcs
    have hlm : len ≤ m := by rw [hmm]; split <;> omega
    have hx : ∀ i, ∃ e : Ac, i < len → ∀ j u, (aV e)[j]? = some u → w.cell? (a.add (i * 3 + j)) = some u := by
      intro i
      by_cases hil : i < len
      · obtain ⟨cs', hc, ht⟩ := hi i (by omega)
        obtain ⟨e, rfl⟩ := open_act ht
        rw [cells32] at hc
        obtain ⟨_, _, hat⟩ := World.cells?_some hc
        refine ⟨e, fun _ j u hu => ?_⟩
        have hj : j < 3 := by have := (List.getElem?_eq_some_iff.1 hu).1; rwa [aV_len] at this
        have k0 := hat j (by omega)
        rw [Go.Deep.add_add] at k0
        rw [k0]
        simpa using hu
      · exact ⟨⟨0, 0, false⟩, fun h => absurd h hil⟩
    obtain ⟨E, hE⟩ := Classical.axiomOfChoice hx
    refine ⟨(List.range len).map E, hl, by unfold maxLen at hm; omega, by simp, ?_⟩
    · rcases Nat.eq_zero_or_pos len with h0 | h0
      · subst h0
        exact Rd.nil _ _ _ _
      · have k0 := hE 0 h0 0 _ rfl
        obtain ⟨b, off, rfl, hb⟩ : ∃ b off, a = ⟨b, off, none⟩ ∧ b < w.heap.size := by
          have h9 : a.add (0 * 3 + 0) = a := by unfold Addr.add; simp
          rw [h9] at k0
          exact aplain_of k0
        refine Rd.mk aV_len (by omega) (by simp) hb fun i e he k u hu => ?_
        have hil : i < len := by
          have := (List.getElem?_eq_some_iff.1 he).1
          simpa using this
        have he' : e = E i := by
          rw [List.getElem?_map, List.getElem?_range hil] at he
          simpa using he.symm
        subst he'
        have q0 := hE i hil k u hu
        rw [aadd_plain, ← Nat.add_assoc] at q0
        exact q0
end
end Go.Proofs.Ytplckaodenpdbaa
