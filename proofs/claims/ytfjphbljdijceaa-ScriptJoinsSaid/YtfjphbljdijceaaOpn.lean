/- Arguments opened: a slice of entries, a slice of bytes. No condition. -/
import Derived.Test.YtfjphbljdijceaaBkW
import Derived.Deep.Slices
import Derived.ChangeSame
import Derived.ChangeSlices
import Derived.ProofKit
import Derived.OpenShut
namespace Go.Proofs.Ytfjphbljdijceaa
open Go.RowKit Go.ChangeShapes Go.WideShapes Go.Deep
set_option linter.unusedVariables false

theorem RdE.mk {w : World} {b off n : Nat} {l : List En} (hn : l.length = n) (hb : b < w.heap.size)
    (h : ∀ i e, l[i]? = some e → w.cell? ⟨b, off + i * 3, none⟩ = some (.int .i64 e.k) ∧ w.cell? ⟨b, off + i * 3 + 1, none⟩ = some (.int .i64 e.n) ∧ w.cell? ⟨b, off + i * 3 + 2, none⟩ = some (.int .i64 e.d)) : RdE w (some ⟨b, off, none⟩) n l := by
  refine ⟨hn, by rw [flV_len, hn], fun _ => ⟨b, off, rfl, hb, fun j u hu => ?_⟩⟩
  have hj : j < l.length * 3 := by rw [← flV_len]; exact (List.getElem?_eq_some_iff.1 hu).1
  have hi : j / 3 < l.length := by omega
  obtain ⟨f1, f2, f3⟩ := flV_at l (j / 3) (l[j / 3]'hi) (List.getElem?_eq_getElem hi)
  obtain ⟨c1, c2, c3⟩ := h (j / 3) (l[j / 3]'hi) (List.getElem?_eq_getElem hi)
  generalize l[j / 3]'hi = e at *
  have hm : j % 3 < 3 := Nat.mod_lt _ (by omega)
  have ej : j = j / 3 * 3 + j % 3 := by omega
  generalize j / 3 = i at *
  rcases (show j % 3 = 0 ∨ j % 3 = 1 ∨ j % 3 = 2 from by omega) with hr | hr | hr
  · have e1 : j = i * 3 := by omega
    subst e1
    rw [f1] at hu; cases hu; exact c1
  · have e1 : j = i * 3 + 1 := by omega
    subst e1
    rw [f2] at hu; cases hu; exact c2
  · have e1 : j = i * 3 + 2 := by omega
    subst e1
    rw [f3] at hu; cases hu; exact c3
theorem in_wf {n : Int} (h : (Lit.int .i64 n).wf = true) : In64 n := by
  simpa [In64, Lit.wf, IntKind.min, IntKind.max, IntKind.signed, IntKind.bits] using h
theorem cells35 : Try.prog.cellsOf 35 = 3 := by kernel_rfl
theorem cells3 : Try.prog.cellsOf 3 = 1 := by kernel_rfl
theorem plain_of {w : World} {a : Addr} {v : Value} (h : w.cell? a = some v) : ∃ b off, a = ⟨b, off, none⟩ ∧ b < w.heap.size := by
  obtain ⟨b, off, spot⟩ := a
  have hs : spot = none := World.cell?_spot h
  subst hs
  exact ⟨b, off, rfl, World.block_lt_of_cell? _ _ h⟩
theorem add_plain (b off i : Nat) : (⟨b, off, none⟩ : Addr).add i = ⟨b, off + i, none⟩ := by
  unfold Addr.add
  by_cases h : i = 0
  · subst h; simp
  · simp [h]

/-- What is told of a slice of entries that came in. -/
def IsE (w : World) (A : Option Addr) (n cap : Nat) (l : List En) : Prop := n ≤ cap ∧ cap ≤ 9223372036854775807 ∧ RdE w A n l ∧ allIn l
def IsY (w : World) (A : Option Addr) (n cap : Nat) (l : List Int) : Prop := n ≤ cap ∧ cap ≤ 9223372036854775807 ∧ RdB w w.heap.size A n l

section
variable {H : Type} {enc : TypeId × Value → H} {w : World} {base : Nat} {spare : Nat → Bool} {held : Bool}
theorem open_entry {n : Nat} {cs : List Value} {x : DataW H × List MemPlace} (h : DataW.trod enc Try.prog w base spare held n 35 cs = some x) : ∃ e : En, cs = eV e ∧ eIn e := by
  obtain ⟨xs, m, _, _, hl, hlen, hf⟩ := DataW.trod_struct Try.underlying35 h
  rw [cells35] at hl
  match cs, hl with
  | [c0, c1, c2], _ =>
    have h0 : DataW.trod enc Try.prog w base spare held m 3 (List.take (Try.prog.cellsOf 3) (List.drop 0 [c0, c1, c2])) = xs[0]? := hf 0 _ rfl
    have h1 : DataW.trod enc Try.prog w base spare held m 3 (List.take (Try.prog.cellsOf 3) (List.drop 1 [c0, c1, c2])) = xs[1]? := hf 1 _ rfl
    have h2 : DataW.trod enc Try.prog w base spare held m 3 (List.take (Try.prog.cellsOf 3) (List.drop 2 [c0, c1, c2])) = xs[2]? := hf 2 _ rfl
    rw [cells3] at h0 h1 h2
    match xs, hlen with
    | [y0, y1, y2], _ =>
      obtain ⟨z0, e0, _, g0⟩ := DataW.trod_int Try.underlying3 h0
      obtain ⟨z1, e1, _, g1⟩ := DataW.trod_int Try.underlying3 h1
      obtain ⟨z2, e2, _, g2⟩ := DataW.trod_int Try.underlying3 h2
      cases e0; cases e1; cases e2
      exact ⟨⟨z0, z1, z2⟩, rfl, in_wf g0, in_wf g1, in_wf g2⟩
theorem open_ents {A : Option Addr} {len cap : Nat} {d : DataW H} {p : List MemPlace} (h : DataW.Trod enc Try.prog w base spare held 22 (.slice A len cap) d p) : ∃ l, IsE w A len cap l := by
  obtain ⟨fuel, hf⟩ := h
  rcases open_slice Try.underlying22 hf with ⟨hcs, _⟩ | ⟨a, len', cap', m, n, D, Pl, hcs, _, hl, hm, hmm, _, hi⟩
  · simp [Value.cells] at hcs
    obtain ⟨rfl, rfl, rfl⟩ := hcs
    exact ⟨[], by omega, by omega, ⟨rfl, Rd.nil _ _ _ _⟩, fun e he => by simp at he⟩
  · simp [Value.cells] at hcs
    obtain ⟨rfl, rfl, rfl⟩ := hcs
    have hlm : len ≤ m := by rw [hmm]; split <;> omega
    have hx : ∀ i, ∃ e : En, i < len → eIn e ∧ w.cell? (a.add (i * 3)) = some (.int .i64 e.k) ∧ w.cell? (a.add (i * 3 + 1)) = some (.int .i64 e.n) ∧ w.cell? (a.add (i * 3 + 2)) = some (.int .i64 e.d) := by
      intro i
      by_cases hil : i < len
      · obtain ⟨cs', hc, ht⟩ := hi i (by omega)
        obtain ⟨e, rfl, he⟩ := open_entry ht
        rw [cells35] at hc
        obtain ⟨_, _, hat⟩ := World.cells?_some hc
        have k0 := hat 0 (by omega)
        have k1 := hat 1 (by omega)
        have k2 := hat 2 (by omega)
        rw [Go.Deep.add_add] at k0 k1 k2
        exact ⟨e, fun _ => ⟨he, k0, k1, k2⟩⟩
      · exact ⟨⟨0, 0, 0⟩, fun h => absurd h hil⟩
    obtain ⟨E, hE⟩ := Classical.axiomOfChoice hx
    refine ⟨(List.range len).map E, hl, by unfold maxLen at hm; omega, ?_, fun e he => ?_⟩
    · rcases Nat.eq_zero_or_pos len with h0 | h0
      · subst h0
        exact ⟨rfl, Rd.nil _ _ _ _⟩
      · obtain ⟨_, k0, _⟩ := hE 0 h0
        rw [Nat.zero_mul] at k0
        obtain ⟨b, off, rfl, hb⟩ : ∃ b off, a = ⟨b, off, none⟩ ∧ b < w.heap.size := by
          have h9 : a.add 0 = a := by unfold Addr.add; simp
          rw [h9] at k0
          exact plain_of k0
        refine RdE.mk (by simp) hb fun i e he => ?_
        have hil : i < len := by
          have := (List.getElem?_eq_some_iff.1 he).1
          simpa using this
        have he' : e = E i := by
          rw [List.getElem?_map, List.getElem?_range hil] at he
          simpa using he.symm
        subst he'
        obtain ⟨_, q0, q1, q2⟩ := hE i hil
        rw [add_plain] at q0 q1 q2
        exact ⟨q0, q1, q2⟩
    · obtain ⟨i, hi', rfl⟩ := List.mem_map.1 he
      exact (hE i (List.mem_range.1 hi')).1
theorem open_byt {A : Option Addr} {len cap : Nat} {d : DataW H} {p : List MemPlace} (h : DataW.Trod enc Try.prog w base spare held 24 (.slice A len cap) d p) : ∃ l, IsY w A len cap l := by
  obtain ⟨fuel, hf⟩ := h
  rcases open_ints Try.underlying24 Try.underlying5 (by kernel_rfl) hf with ⟨hcs, _⟩ | ⟨a, l, c, zs, hcs, _, hl, hm, hz, _, hcell, hwz⟩
  · simp [Value.cells] at hcs
    obtain ⟨rfl, rfl, rfl⟩ := hcs
    exact ⟨[], by omega, by omega, rfl, fun b hb => by simp at hb, fun h => absurd h (by omega)⟩
  · simp [Value.cells] at hcs
    obtain ⟨rfl, rfl, rfl⟩ := hcs
    have hlz : len ≤ zs.length := by rw [hz]; split <;> omega
    refine ⟨zs.take len, hl, by unfold maxLen at hm; omega, by rw [List.length_take]; omega, fun x hx => ?_, fun h0 => ?_⟩
    · have h9 := hwz x (List.mem_of_mem_take hx)
      have h8 : 0 ≤ x ∧ x ≤ 255 := by simpa [Lit.wf, IntKind.min, IntKind.max, IntKind.signed, IntKind.bits] using h9
      omega
    · have k0 := hcell 0 (by omega)
      have h9 : a.add 0 = a := by unfold Addr.add; simp
      rw [h9] at k0
      obtain ⟨b, off, rfl, hb⟩ := plain_of k0
      refine ⟨b, off, rfl, hb, fun j x hx => ?_⟩
      rw [List.getElem?_take] at hx
      split at hx
      · have hj : j < zs.length := (List.getElem?_eq_some_iff.1 hx).1
        have h7 := hcell j hj
        rw [add_plain, List.getD_eq_getElem?_getD, hx] at h7
        exact h7
      · cases hx
end
end Go.Proofs.Ytfjphbljdijceaa
