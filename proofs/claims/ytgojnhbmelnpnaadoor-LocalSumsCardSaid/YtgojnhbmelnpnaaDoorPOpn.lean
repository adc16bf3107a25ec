/- Arguments opened: an instruction, a slice of instructions, a slice of programs. No condition. -/
import Derived.Test.YtgojnhbmelnpnaaDoorPMem
import Derived.Deep.Slices
import Derived.ChangeSame
import Derived.ChangeSlices
import Derived.ProofKit
import Derived.OpenShut
namespace Go.Proofs.YtgojnhbmelnpnaaDoor.Pg
open Go.RowKit Go.ChangeShapes Go.WideShapes Go.Deep
set_option linter.unusedVariables false
set_option maxRecDepth 100000

theorem Tryd.c3 : Tryd.prog.cellsOf 3 = 1 := by kernel_rfl
theorem Tryd.c4 : Tryd.prog.cellsOf 4 = 1 := by kernel_rfl
theorem Tryd.c58 : Tryd.prog.cellsOf 58 = 3 := by kernel_rfl
theorem Tryd.c39 : Tryd.prog.cellsOf 39 = 6 := by kernel_rfl
theorem Tryd.c37 : Tryd.prog.cellsOf 37 = 1 := by kernel_rfl
theorem Tryd.c22 : Tryd.prog.cellsOf 22 = 1 := by kernel_rfl
theorem plain_of {w : World} {a : Addr} {v : Value} (h : w.cell? a = some v) : ∃ b off, a = ⟨b, off, none⟩ ∧ b < w.heap.size := by
  obtain ⟨b, off, spot⟩ := a
  have hs : spot = none := World.cell?_spot h
  subst hs
  exact ⟨b, off, rfl, World.block_lt_of_cell? _ _ h⟩
theorem add_plain (b off i : Nat) : (⟨b, off, none⟩ : Addr).add i = ⟨b, off + i, none⟩ := by
  unfold Addr.add
  by_cases h : i = 0
  · subst h; simp
  · simp [h]

section
variable {H : Type} {enc : TypeId × Value → H} {w : World} {base : Nat} {spare : Nat → Bool} {held : Bool}
/-- A slice opened, whatever its elements are: each as 'Q' says of its cells. -/
theorem open_any {α : Type} {f : α → List Value} {s : Nat} {te : TypeId} {Q : α → Prop} (hs : ∀ x, (f x).length = s) (h0 : 0 < s) (x0 : α) (hc : Tryd.prog.cellsOf te = s) {t : TypeId} (ht : Tryd.prog.underlying t = some (.slice te))
    (hel : ∀ (n : Nat) (cs : List Value) (x : DataW H × List MemPlace), DataW.trod enc Tryd.prog w base spare held n te cs = some x → ∃ y : α, cs = f y ∧ Q y)
    {n : Nat} {cs : List Value} {x : DataW H × List MemPlace} (h : DataW.trod enc Tryd.prog w base spare held n t cs = some x) :
    ∃ (A : Option Addr) (len cap : Nat) (l : List α), cs = [.slice A len cap] ∧ len ≤ cap ∧ cap ≤ 9223372036854775807 ∧ l.length = len ∧ Rd w w.heap.size A len s (l.flatMap f) ∧ ∀ y ∈ l, Q y := by
  rcases open_slice ht h with ⟨hcs, _⟩ | ⟨a, len, cap, m, k, D, Pl, hcs, _, hl, hm, hmm, _, hi⟩
  · exact ⟨none, 0, 0, [], hcs, Nat.le_refl _, by omega, rfl, Rd.nil _ _ _ _, fun y hy => by simp at hy⟩
  · have hlm : len ≤ m := by rw [hmm]; split <;> omega
    have hx : ∀ i, ∃ y : α, i < len → Q y ∧ ∀ k u, (f y)[k]? = some u → w.cell? ((a.add (i * s)).add k) = some u := by
      intro i
      by_cases hil : i < len
      · obtain ⟨cs', hcc, htt⟩ := hi i (by omega)
        obtain ⟨y, rfl, hq⟩ := hel _ _ _ htt
        rw [hc] at hcc
        obtain ⟨_, _, hat⟩ := World.cells?_some hcc
        exact ⟨y, fun _ => ⟨hq, fun k u hu => by
          have hk : k < s := by rw [← hs y]; exact (List.getElem?_eq_some_iff.1 hu).1
          rw [hat k hk]; exact hu⟩⟩
      · exact ⟨x0, fun h => absurd h hil⟩
    obtain ⟨E, hE⟩ := Classical.axiomOfChoice hx
    refine ⟨some a, len, cap, (List.range len).map E, hcs, hl, by unfold maxLen at hm; omega, by simp, ?_, fun y hy => ?_⟩
    · rcases Nat.eq_zero_or_pos len with h9 | h9
      · subst h9; exact Rd.nil _ _ _ _
      · obtain ⟨_, k0⟩ := hE 0 h9
        have hf0 : 0 < (f (E 0)).length := by rw [hs]; exact h0
        have k1 := k0 0 _ (List.getElem?_eq_getElem hf0)
        have h8 : (a.add (0 * s)).add 0 = a := by unfold Addr.add; simp
        rw [h8] at k1
        obtain ⟨b, off, rfl, hb⟩ := plain_of k1
        refine Rd.mk hs h0 (by simp) hb fun i y hy k u hu => ?_
        have hil : i < len := by
          have := (List.getElem?_eq_some_iff.1 hy).1
          simpa using this
        have he : y = E i := by
          rw [List.getElem?_map, List.getElem?_range hil] at hy
          simpa using hy.symm
        subst he
        have h7 := (hE i hil).2 k u hu
        rw [add_plain, add_plain] at h7
        exact h7
    · obtain ⟨i, hi', rfl⟩ := List.mem_map.1 hy
      exact (hE i (List.mem_range.1 hi')).1
theorem open_case (n : Nat) (cs : List Value) (x : DataW H × List MemPlace) (h : DataW.trod enc Tryd.prog w base spare held n 58 cs = some x) : ∃ c : Ca, cs = cV c ∧ True := by
  obtain ⟨xs, m, _, _, hl, hlen, hf⟩ := DataW.trod_struct Tryd.underlying58 h
  rw [Tryd.c58] at hl
  match cs, hl with
  | [c0, c1, c2], _ =>
    have h0 : DataW.trod enc Tryd.prog w base spare held m 4 (List.take (Tryd.prog.cellsOf 4) (List.drop 0 [c0, c1, c2])) = xs[0]? := hf 0 _ rfl
    have h1 : DataW.trod enc Tryd.prog w base spare held m 3 (List.take (Tryd.prog.cellsOf 3) (List.drop 1 [c0, c1, c2])) = xs[1]? := hf 1 _ rfl
    have h2 : DataW.trod enc Tryd.prog w base spare held m 3 (List.take (Tryd.prog.cellsOf 3) (List.drop 2 [c0, c1, c2])) = xs[2]? := hf 2 _ rfl
    rw [Tryd.c4] at h0
    rw [Tryd.c3] at h1 h2
    match xs, hlen with
    | [y0, y1, y2], _ =>
      obtain ⟨z0, e0, _⟩ := DataW.trod_bool Tryd.underlying4 h0
      obtain ⟨z1, e1, _, _⟩ := DataW.trod_int Tryd.underlying3 h1
      obtain ⟨z2, e2, _, _⟩ := DataW.trod_int Tryd.underlying3 h2
      cases e0; cases e1; cases e2
      exact ⟨⟨z0, z1, z2⟩, rfl, trivial⟩
theorem open_instr (n : Nat) (cs : List Value) (x : DataW H × List MemPlace) (h : DataW.trod enc Tryd.prog w base spare held n 39 cs = some x) : ∃ e : In, cs = iV e ∧ In.At w e := by
  obtain ⟨xs, m, _, _, hl, hlen, hf⟩ := DataW.trod_struct Tryd.underlying39 h
  rw [Tryd.c39] at hl
  match cs, hl with
  | [c0, c1, c2, c3, c4, c5], _ =>
    have h0 : DataW.trod enc Tryd.prog w base spare held m 3 (List.take (Tryd.prog.cellsOf 3) (List.drop 0 [c0, c1, c2, c3, c4, c5])) = xs[0]? := hf 0 _ rfl
    have h1 : DataW.trod enc Tryd.prog w base spare held m 3 (List.take (Tryd.prog.cellsOf 3) (List.drop 1 [c0, c1, c2, c3, c4, c5])) = xs[1]? := hf 1 _ rfl
    have h2 : DataW.trod enc Tryd.prog w base spare held m 3 (List.take (Tryd.prog.cellsOf 3) (List.drop 2 [c0, c1, c2, c3, c4, c5])) = xs[2]? := hf 2 _ rfl
    have h3 : DataW.trod enc Tryd.prog w base spare held m 3 (List.take (Tryd.prog.cellsOf 3) (List.drop 3 [c0, c1, c2, c3, c4, c5])) = xs[3]? := hf 3 _ rfl
    have h4 : DataW.trod enc Tryd.prog w base spare held m 37 (List.take (Tryd.prog.cellsOf 37) (List.drop 4 [c0, c1, c2, c3, c4, c5])) = xs[4]? := hf 4 _ rfl
    have h5 : DataW.trod enc Tryd.prog w base spare held m 4 (List.take (Tryd.prog.cellsOf 4) (List.drop 5 [c0, c1, c2, c3, c4, c5])) = xs[5]? := hf 5 _ rfl
    rw [Tryd.c3] at h0 h1 h2 h3
    rw [Tryd.c37] at h4
    rw [Tryd.c4] at h5
    match xs, hlen with
    | [y0, y1, y2, y3, y4, y5], _ =>
      obtain ⟨z0, e0, _, _⟩ := DataW.trod_int Tryd.underlying3 h0
      obtain ⟨z1, e1, _, _⟩ := DataW.trod_int Tryd.underlying3 h1
      obtain ⟨z2, e2, _, _⟩ := DataW.trod_int Tryd.underlying3 h2
      obtain ⟨z3, e3, _, _⟩ := DataW.trod_int Tryd.underlying3 h3
      obtain ⟨A, len, cap, l, e4, g1, g2, g3, g4, _⟩ := open_any (f := cV) (s := 3) (Q := fun _ => True) cV_len (by omega) ⟨false, 0, 0⟩ Tryd.c58 Tryd.underlying37 open_case h4
      obtain ⟨z5, e5, _⟩ := DataW.trod_bool Tryd.underlying4 h5
      cases e0; cases e1; cases e2; cases e3; cases e4; cases e5
      exact ⟨⟨z0, z1, z2, z3, A, len, cap, z5, l⟩, rfl, g1, g2, g3, g4⟩
theorem open_prog (n : Nat) (cs : List Value) (x : DataW H × List MemPlace) (h : DataW.trod enc Tryd.prog w base spare held n 22 cs = some x) : ∃ p : Pr, cs = pV p ∧ Pr.At w p := by
  obtain ⟨A, len, cap, l, e, g1, g2, g3, g4, g5⟩ := open_any (f := iV) (s := 6) (Q := In.At w) iV_len (by omega) ⟨0, 0, 0, 0, none, 0, 0, false, []⟩ Tryd.c39 Tryd.underlying22 open_instr h
  exact ⟨⟨A, len, cap, l⟩, e, g1, g2, g3, g4, g5⟩
/-- A slice of instructions that came in. -/
theorem open_instrs {A : Option Addr} {len cap : Nat} {d : DataW H} {p : List MemPlace} (h : DataW.Trod enc Tryd.prog w base spare held 22 (.slice A len cap) d p) : ∃ l, Pr.At w ⟨A, len, cap, l⟩ := by
  obtain ⟨fuel, hf⟩ := h
  obtain ⟨q, e, hq⟩ := open_prog _ _ _ hf
  obtain ⟨B, n, c, l⟩ := q
  simp [Value.cells, pV] at e
  obtain ⟨rfl, rfl, rfl⟩ := e
  exact ⟨l, hq⟩
/-- A slice of programs that came in. -/
theorem open_progs {A : Option Addr} {len cap : Nat} {d : DataW H} {p : List MemPlace} (h : DataW.Trod enc Tryd.prog w base spare held 25 (.slice A len cap) d p) : ∃ l, len ≤ cap ∧ cap ≤ 9223372036854775807 ∧ RdP w A len l := by
  obtain ⟨fuel, hf⟩ := h
  obtain ⟨B, n, c, l, e, g1, g2, g3, g4, g5⟩ := open_any (f := pV) (s := 1) (Q := Pr.At w) pV_len (by omega) ⟨none, 0, 0, []⟩ Tryd.c22 Tryd.underlying25 open_prog hf
  simp [Value.cells] at e
  obtain ⟨rfl, rfl, rfl⟩ := e
  exact ⟨l, g1, g2, g3, g4, g5⟩
/-- An instruction that came in by value. -/
theorem open_one {r : Reach} {b0 : Nat} {v : Value} {d : DataW H} {p : List MemPlace} (hv : Value.okWide Tryd.prog w r b0 39 v) (h : DataW.Trod enc Tryd.prog w base spare held 39 v d p) : ∃ e, v = vI e ∧ In.At w e := by
  obtain ⟨cs, rfl, hsz⟩ := okWide_struct Tryd.underlying39 hv
  obtain ⟨fuel, hf⟩ := h
  obtain ⟨e, he, ha⟩ := open_instr _ _ _ hf
  refine ⟨e, ?_, ha⟩
  have h1 : cs.toList = iV e := he
  have h2 : cs = (iV e).toArray := by rw [← h1]
  rw [h2]
  rfl
end
end Go.Proofs.YtgojnhbmelnpnaaDoor.Pg
