/- Arguments opened: a slice of acts. No condition. -/
import Derived.Test.YtdpapnfjpefhkaaGreatCRow
import Derived.Test.YtdpapnfjpefhkaaGreatCChnm
import Derived.Deep.Slices
import Derived.ChangeSame
import Derived.ChangeSlices
import Derived.ProofKit
import Derived.OpenShut
namespace Go.Proofs.YtdpapnfjpefhkaaGreat
open Go.RowKit Ch Go.ChangeShapes Go.WideShapes Go.Deep
set_option linter.unusedVariables false
set_option maxRecDepth 100000
structure Ac where
 k : Int
 id : Int
 w : Int
def aV (a : Ac) : List Value := [.int .i64 a.k, .int .i64 a.id, .int .i64 a.w]
theorem aV_len (a : Ac) : (aV a).length = 3 := rfl
def RdA (w : World) (A : Option Addr) (n : Nat) (l : List Ac) : Prop := l.length = n ∧ Rd w w.heap.size A n 3 (l.flatMap aV)
theorem RdA.cells {W w : World} {A : Option Addr} {n k : Nat} {l : List Ac} (h : RdA W A n l) (hb : Below W.heap.size W w) (hk : k < n) : ∃ b off a, A = some ⟨b, off, none⟩ ∧ b < W.heap.size ∧ l[k]? = some a ∧
  w.cell? ⟨b, off + k * 3, none⟩ = some (.int .i64 a.k) ∧ w.cell? ⟨b, off + k * 3 + 1, none⟩ = some (.int .i64 a.id) ∧ w.cell? ⟨b, off + k * 3 + 2, none⟩ = some (.int .i64 a.w) := by
 obtain ⟨b, off, e, hl, hc⟩ := Rd.at aV_len h.2 (by omega)
 have hx : l[k]? = some (l[k]'(by rw [h.1]; exact hk)) := List.getElem?_eq_getElem _
 have q : ∀ i, w.cell? ⟨b, i, none⟩ = W.cell? ⟨b, i, none⟩ := cell_blk (hb.block b hl)
 exact ⟨b, off, _, e, hl, hx, (q _).trans (hc k _ hx 0 (by omega) _ rfl), (q _).trans (hc k _ hx 1 (by omega) _ rfl), (q _).trans (hc k _ hx 2 (by omega) _ rfl)⟩
theorem cells29 : Tryz.prog.cellsOf 29 = 3 := by kernel_rfl
theorem cells3 : Tryz.prog.cellsOf 3 = 1 := by kernel_rfl
theorem plain_of {w : World} {a : Addr} {v : Value} (h : w.cell? a = some v) : ∃ b off, a = ⟨b, off, none⟩ ∧ b < w.heap.size := by
 obtain ⟨b, off, spot⟩ := a
 have hs : spot = none := World.cell?_spot h
 subst hs
 exact ⟨b, off, rfl, World.block_lt_of_cell? _ _ h⟩
theorem add_plain (b off i : Nat) : (⟨b, off, none⟩ : Addr).add i = ⟨b, off + i, none⟩ := by
 unfold Addr.add
 by_cases h : i = 0
 · subst h; simp
 · simp [h]
def IsA (w : World) (A : Option Addr) (n cap : Nat) (l : List Ac) : Prop := n ≤ cap ∧ cap ≤ 9223372036854775807 ∧ RdA w A n l ∧ ∀ a ∈ l, Ch.Wf a.w
section
variable {H : Type} {enc : TypeId × Value → H} {w : World} {base : Nat} {spare : Nat → Bool} {held : Bool}
theorem open_act {n : Nat} {cs : List Value} {x : DataW H × List MemPlace} (h : DataW.trod enc Tryz.prog w base spare held n 29 cs = some x) : ∃ a : Ac, cs = aV a ∧ Ch.Wf a.w := by
 obtain ⟨xs, m, _, _, hl, hlen, hf⟩ := DataW.trod_struct Tryz.underlying29 h
 rw [cells29] at hl
 match cs, hl with
 | [c0, c1, c2], _ =>
  have h0 : DataW.trod enc Tryz.prog w base spare held m 3 (List.take (Tryz.prog.cellsOf 3) (List.drop 0 [c0, c1, c2])) = xs[0]? := hf 0 _ rfl
  have h1 : DataW.trod enc Tryz.prog w base spare held m 3 (List.take (Tryz.prog.cellsOf 3) (List.drop 1 [c0, c1, c2])) = xs[1]? := hf 1 _ rfl
  have h2 : DataW.trod enc Tryz.prog w base spare held m 3 (List.take (Tryz.prog.cellsOf 3) (List.drop 2 [c0, c1, c2])) = xs[2]? := hf 2 _ rfl
  rw [cells3] at h0 h1 h2
  match xs, hlen with
  | [y0, y1, y2], _ =>
   obtain ⟨z0, e0, _, _⟩ := DataW.trod_int Tryz.underlying3 h0
   obtain ⟨z1, e1, _, _⟩ := DataW.trod_int Tryz.underlying3 h1
   obtain ⟨z2, e2, _, hw1⟩ := DataW.trod_int Tryz.underlying3 h2
   cases e0; cases e1; cases e2
   exact ⟨⟨z0, z1, z2⟩, rfl, hw1⟩
theorem open_acts {A : Option Addr} {len cap : Nat} {d : DataW H} {p : List MemPlace} (h : DataW.Trod enc Tryz.prog w base spare held 22 (.slice A len cap) d p) : ∃ l, IsA w A len cap l := by
 obtain ⟨fuel, hf⟩ := h
 rcases open_slice Tryz.underlying22 hf with ⟨hcs, _⟩ | ⟨a, len', cap', m, n, D, Pl, hcs, _, hl, hm, hmm, _, hi⟩
 · simp [Value.cells] at hcs
   obtain ⟨rfl, rfl, rfl⟩ := hcs
   exact ⟨[], by omega, by omega, ⟨rfl, Rd.nil _ _ _ _⟩, fun a h => by cases h⟩
 · simp [Value.cells] at hcs
   obtain ⟨rfl, rfl, rfl⟩ := hcs
   have hlm : len ≤ m := by rw [hmm]; split <;> omega
   have hx : ∀ i, ∃ e : Ac, i < len → Ch.Wf e.w ∧ ∀ j u, (aV e)[j]? = some u → w.cell? (a.add (i * 3 + j)) = some u := by
    intro i
    by_cases hil : i < len
    · obtain ⟨cs', hc, ht⟩ := hi i (by omega)
      obtain ⟨e, rfl, hwf⟩ := open_act ht
      rw [cells29] at hc
      obtain ⟨_, _, hat⟩ := World.cells?_some hc
      refine ⟨e, fun _ => ⟨hwf, fun j u hu => ?_⟩⟩
      have hj : j < 3 := by have := (List.getElem?_eq_some_iff.1 hu).1; rwa [aV_len] at this
      have k0 := hat j (by omega)
      rw [Go.Deep.add_add] at k0
      rw [k0]
      simpa using hu
    · exact ⟨⟨0, 0, 0⟩, fun h => absurd h hil⟩
   obtain ⟨E, hE⟩ := Classical.axiomOfChoice hx
   refine ⟨(List.range len).map E, hl, by unfold maxLen at hm; omega, ⟨by simp, ?_⟩, fun e he => ?_⟩
   · rcases Nat.eq_zero_or_pos len with h0 | h0
     · subst h0
       exact Rd.nil _ _ _ _
     · have k0 := (hE 0 h0).2 0 _ rfl
       obtain ⟨b, off, rfl, hb⟩ : ∃ b off, a = ⟨b, off, none⟩ ∧ b < w.heap.size := by
        have h9 : a.add (0 * 3 + 0) = a := by unfold Addr.add; simp
        rw [h9] at k0
        exact plain_of k0
       refine Rd.mk aV_len (by omega) (by simp) hb fun i e he k u hu => ?_
       have hil : i < len := by
        have := (List.getElem?_eq_some_iff.1 he).1
        simpa using this
       have he' : e = E i := by
        rw [List.getElem?_map, List.getElem?_range hil] at he
        simpa using he.symm
       subst he'
       have q0 := (hE i hil).2 k u hu
       rw [add_plain, ← Nat.add_assoc] at q0
       exact q0
   · obtain ⟨i, hi, rfl⟩ := List.mem_map.1 he
     exact (hE i (List.mem_range.1 hi)).1
end
end Go.Proofs.YtdpapnfjpefhkaaGreat
