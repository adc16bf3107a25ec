/- Arguments opened: slices of numbers, of bools, of acts. No condition. -/
import Derived.Test.YtmcacmbllpphiaaRow
import Derived.Deep.Slices
import Derived.ChangeSame
import Derived.ChangeSlices
import Derived.ProofKit
import Derived.OpenShut
namespace Go.Proofs.Ytmcacmbllpphiaa
open Go.RowKit Go.ChangeShapes Go.WideShapes Go.Deep
set_option linter.unusedVariables false

theorem cells32 : Try.prog.cellsOf 37 = 6 := by kernel_rfl
theorem cells30 : Try.prog.cellsOf 35 = 3 := by kernel_rfl
theorem cells3 : Try.prog.cellsOf 3 = 1 := by kernel_rfl
theorem cells4 : Try.prog.cellsOf 4 = 1 := by kernel_rfl
theorem plain_of {w : World} {a : Addr} {v : Value} (h : w.cell? a = some v) : ∃ b off, a = ⟨b, off, none⟩ ∧ b < w.heap.size := by
  obtain ⟨b, off, spot⟩ := a
  have hs : spot = none := World.cell?_spot h
  subst hs
  exact ⟨b, off, rfl, World.block_lt_of_cell? _ _ h⟩
theorem add_plain (b off i : Nat) : (⟨b, off, none⟩ : Addr).add i = ⟨b, off + i, none⟩ := by
  unfold Addr.add
  by_cases h : i = 0
  · subst h; simp
  · simp [h]

/-- One act. -/
structure Ac where
  k : Int
  v : Int
  x : Wt
  s : Bool
def aV (a : Ac) : List Value := [.int .i64 a.k, .int .i64 a.v, .int .i64 a.x.t, .int .i64 a.x.c, .int .i64 a.x.v, .bool a.s]
theorem aV_len (a : Ac) : (aV a).length = 6 := rfl
def nV (x : Int) : List Value := [.int .i64 x]
theorem nV_len (x : Int) : (nV x).length = 1 := rfl
def bV (x : Bool) : List Value := [.bool x]
theorem bV_len (x : Bool) : (bV x).length = 1 := rfl

/-- What is told of a slice that came in. -/
def IsS {α : Type} (f : α → List Value) (s : Nat) (good : α → Prop) (w : World) (A : Option Addr) (n cap : Nat) (l : List α) : Prop :=
  n ≤ cap ∧ cap ≤ 9223372036854775807 ∧ l.length = n ∧ Rd w w.heap.size A n s (l.flatMap f) ∧ ∀ a ∈ l, good a
/-- Its cells, later on. -/
theorem IsS.cell {α : Type} {f : α → List Value} {s : Nat} {good : α → Prop} {W w : World} {A : Option Addr} {n cap i : Nat} {l : List α} {x : α} (h : IsS f s good W A n cap l) (hs : ∀ x, (f x).length = s) (hb : Below W.heap.size W w) (hx : l[i]? = some x) :
    good x ∧ ∃ b off, A = some ⟨b, off, none⟩ ∧ b < W.heap.size ∧ ∀ j, j < s → ∀ u, (f x)[j]? = some u → w.cell? ⟨b, off + i * s + j, none⟩ = some u := by
  obtain ⟨_, _, hl, hr, hg⟩ := h
  refine ⟨hg x (List.mem_of_getElem? hx), ?_⟩
  have hi : i < n := by rw [← hl]; exact (List.getElem?_eq_some_iff.1 hx).1
  obtain ⟨b, off, e, hlt, hc⟩ := Rd.at hs hr (by omega)
  exact ⟨b, off, e, hlt, fun j hj u hu => (cell_blk (hb.block b hlt) _).trans (hc i x hx j hj u hu)⟩

section
variable {H : Type} {enc : TypeId × Value → H} {w : World} {base : Nat} {spare : Nat → Bool} {held : Bool}
theorem open_any {α : Type} (f : α → List Value) (s : Nat) (good : α → Prop) (dflt : α) (hs : ∀ x, (f x).length = s) (h0 : 0 < s) (t e : TypeId) (ht : Try.prog.underlying t = some (.slice e)) (hc : Try.prog.cellsOf e = s)
    (ho : ∀ n cs x, DataW.trod enc Try.prog w base spare held n e cs = some x → ∃ a, cs = f a ∧ good a)
    {A : Option Addr} {len cap : Nat} {d : DataW H} {p : List MemPlace} (h : DataW.Trod enc Try.prog w base spare held t (.slice A len cap) d p) : ∃ l, IsS f s good w A len cap l := by
  obtain ⟨fuel, hf⟩ := h
  rcases open_slice ht hf with ⟨hcs, _⟩ | ⟨a, len', cap', m, n, D, Pl, hcs, _, hl, hm, hmm, _, hi⟩
  · simp [Value.cells] at hcs
    obtain ⟨rfl, rfl, rfl⟩ := hcs
    exact ⟨[], by omega, by omega, rfl, Rd.nil _ _ _ _, fun _ h => by simp at h⟩
  · simp [Value.cells] at hcs
    obtain ⟨rfl, rfl, rfl⟩ := hcs
    have hlm : len ≤ m := by rw [hmm]; split <;> omega
    have hx : ∀ i, ∃ x : α, i < len → good x ∧ ∀ j u, (f x)[j]? = some u → w.cell? (a.add (i * s + j)) = some u := by
      intro i
      by_cases hil : i < len
      · obtain ⟨cs', hc', ht'⟩ := hi i (by omega)
        obtain ⟨x, rfl, hg⟩ := ho _ _ _ ht'
        rw [hc] at hc'
        obtain ⟨_, _, hat⟩ := World.cells?_some hc'
        refine ⟨x, fun _ => ⟨hg, fun j u hu => ?_⟩⟩
        have hj : j < s := by have := (List.getElem?_eq_some_iff.1 hu).1; rwa [hs] at this
        have k0 := hat j hj
        rw [Go.Deep.add_add] at k0
        rw [k0]
        simpa using hu
      · exact ⟨dflt, fun h => absurd h hil⟩
    obtain ⟨E, hE⟩ := Classical.axiomOfChoice hx
    have hgood : ∀ x ∈ (List.range len).map E, good x := fun x hx => by
      obtain ⟨i, hi, rfl⟩ := List.mem_map.1 hx
      exact (hE i (List.mem_range.1 hi)).1
    refine ⟨(List.range len).map E, hl, by unfold maxLen at hm; omega, by simp, ?_, hgood⟩
    rcases Nat.eq_zero_or_pos len with h1 | h1
    · subst h1
      exact Rd.nil _ _ _ _
    · have hu : ∃ u, (f (E 0))[0]? = some u := ⟨_, List.getElem?_eq_getElem (by rw [hs]; exact h0)⟩
      obtain ⟨u, hu⟩ := hu
      have k0 := (hE 0 h1).2 0 _ hu
      obtain ⟨b, off, rfl, hb⟩ : ∃ b off, a = ⟨b, off, none⟩ ∧ b < w.heap.size := by
        have h9 : a.add (0 * s + 0) = a := by unfold Addr.add; simp
        rw [h9] at k0
        exact plain_of k0
      refine Rd.mk hs h0 (by simp) hb fun i e he k u hu => ?_
      have hil : i < len := by
        have := (List.getElem?_eq_some_iff.1 he).1
        simpa using this
      have he' : e = E i := by
        rw [List.getElem?_map, List.getElem?_range hil] at he
        simpa using he.symm
      subst he'
      have q0 := (hE i hil).2 k u hu
      rw [add_plain, ← Nat.add_assoc] at q0
      exact q0
theorem open_num {n : Nat} {cs : List Value} {x : DataW H × List MemPlace} (h : DataW.trod enc Try.prog w base spare held n 3 cs = some x) : ∃ a : Int, cs = nV a ∧ Wf a := by
  obtain ⟨z0, e0, q1, q2⟩ := DataW.trod_int Try.underlying3 h
  exact ⟨z0, e0, by first | exact q1 | exact q2⟩
theorem open_boo {n : Nat} {cs : List Value} {x : DataW H × List MemPlace} (h : DataW.trod enc Try.prog w base spare held n 4 cs = some x) : ∃ a : Bool, cs = bV a ∧ True := by
  obtain ⟨z0, e0, _⟩ := DataW.trod_bool Try.underlying4 h
  exact ⟨z0, e0, trivial⟩
set_option maxRecDepth 100000 in
theorem open_wt {n : Nat} {cs : List Value} {x : DataW H × List MemPlace} (h : DataW.trod enc Try.prog w base spare held n 35 cs = some x) : ∃ e : Wt, cs = wV e ∧ Wf e.t := by
  obtain ⟨xs, m, _, _, hl, hlen, hf⟩ := DataW.trod_struct Try.underlying35 h
  rw [cells30] at hl
  match cs, hl with
  | [c0, c1, c2], _ =>
    have h0 : DataW.trod enc Try.prog w base spare held m 3 (List.take (Try.prog.cellsOf 3) (List.drop 0 [c0, c1, c2])) = xs[0]? := hf 0 _ rfl
    have h1 : DataW.trod enc Try.prog w base spare held m 3 (List.take (Try.prog.cellsOf 3) (List.drop 1 [c0, c1, c2])) = xs[1]? := hf 1 _ rfl
    have h2 : DataW.trod enc Try.prog w base spare held m 3 (List.take (Try.prog.cellsOf 3) (List.drop 2 [c0, c1, c2])) = xs[2]? := hf 2 _ rfl
    rw [cells3] at h0 h1 h2
    match xs, hlen with
    | [y0, y1, y2], _ =>
      obtain ⟨z0, e0, q0⟩ := open_num h0
      obtain ⟨z1, e1, _⟩ := open_num h1
      obtain ⟨z2, e2, _⟩ := open_num h2
      cases e0; cases e1; cases e2
      exact ⟨⟨z0, z1, z2⟩, rfl, q0⟩
set_option maxRecDepth 100000 in
theorem open_act {n : Nat} {cs : List Value} {x : DataW H × List MemPlace} (h : DataW.trod enc Try.prog w base spare held n 37 cs = some x) : ∃ a : Ac, cs = aV a ∧ Wf a.x.t := by
  obtain ⟨xs, m, _, _, hl, hlen, hf⟩ := DataW.trod_struct Try.underlying37 h
  rw [cells32] at hl
  match cs, hl with
  | [c0, c1, c2, c3, c4, c5], _ =>
    have h0 : DataW.trod enc Try.prog w base spare held m 3 (List.take (Try.prog.cellsOf 3) (List.drop 0 [c0, c1, c2, c3, c4, c5])) = xs[0]? := hf 0 _ rfl
    have h1 : DataW.trod enc Try.prog w base spare held m 3 (List.take (Try.prog.cellsOf 3) (List.drop 1 [c0, c1, c2, c3, c4, c5])) = xs[1]? := hf 1 _ rfl
    have h2 : DataW.trod enc Try.prog w base spare held m 35 (List.take (Try.prog.cellsOf 35) (List.drop 2 [c0, c1, c2, c3, c4, c5])) = xs[2]? := hf 2 _ rfl
    have h3 : DataW.trod enc Try.prog w base spare held m 4 (List.take (Try.prog.cellsOf 4) (List.drop 5 [c0, c1, c2, c3, c4, c5])) = xs[3]? := hf 3 _ rfl
    rw [cells3] at h0 h1
    rw [cells30] at h2
    rw [cells4] at h3
    match xs, hlen with
    | [y0, y1, y2, y3], _ =>
      obtain ⟨z0, e0, _⟩ := open_num h0
      obtain ⟨z1, e1, _⟩ := open_num h1
      obtain ⟨e, e2, q⟩ := open_wt h2
      obtain ⟨z3, e3, _⟩ := open_boo h3
      cases e0; cases e1; cases e3
      simp only [List.drop_succ_cons, List.drop_zero, List.take_succ_cons, List.take_zero, wV, List.cons.injEq, and_true] at e2
      obtain ⟨rfl, rfl, rfl⟩ := e2
      exact ⟨⟨z0, z1, e, z3⟩, rfl, q⟩
abbrev IsN := IsS nV 1 Wf
abbrev IsB := IsS bV 1 (fun _ => True)
abbrev IsA := IsS aV 6 (fun a => Wf a.x.t)
theorem open_numbers {A : Option Addr} {len cap : Nat} {d : DataW H} {p : List MemPlace} (h : DataW.Trod enc Try.prog w base spare held 22 (.slice A len cap) d p) : ∃ l, IsN w A len cap l :=
  open_any nV 1 Wf 0 nV_len (by omega) 22 3 Try.underlying22 cells3 (fun _ _ _ h => open_num h) h
theorem open_boos {A : Option Addr} {len cap : Nat} {d : DataW H} {p : List MemPlace} (h : DataW.Trod enc Try.prog w base spare held 59 (.slice A len cap) d p) : ∃ l, IsB w A len cap l :=
  open_any bV 1 (fun _ => True) false bV_len (by omega) 59 4 Try.underlying59 cells4 (fun _ _ _ h => open_boo h) h
theorem open_acts {A : Option Addr} {len cap : Nat} {d : DataW H} {p : List MemPlace} (h : DataW.Trod enc Try.prog w base spare held 32 (.slice A len cap) d p) : ∃ l, IsA w A len cap l :=
  open_any aV 6 (fun a => Wf a.x.t) ⟨0, 0, ⟨0, 0, 0⟩, false⟩ aV_len (by omega) 32 37 Try.underlying32 cells32 (fun _ _ _ h => open_act h) h
end
theorem IsN.at {W w : World} {A : Option Addr} {n cap i : Nat} {l : List Int} {x : Int} (h : IsN W A n cap l) (hb : Below W.heap.size W w) (hx : l[i]? = some x) : Wf x ∧ ∃ b off, A = some ⟨b, off, none⟩ ∧ b < W.heap.size ∧ w.cell? ⟨b, off + i, none⟩ = some (.int .i64 x) := by
  obtain ⟨q, b, off, e, hl, hc⟩ := IsS.cell h nV_len hb hx
  refine ⟨q, b, off, e, hl, ?_⟩
  simpa using hc 0 (by omega) _ rfl
theorem IsB.at {W w : World} {A : Option Addr} {n cap i : Nat} {l : List Bool} {x : Bool} (h : IsB W A n cap l) (hb : Below W.heap.size W w) (hx : l[i]? = some x) : ∃ b off, A = some ⟨b, off, none⟩ ∧ b < W.heap.size ∧ w.cell? ⟨b, off + i, none⟩ = some (.bool x) := by
  obtain ⟨q, b, off, e, hl, hc⟩ := IsS.cell h bV_len hb hx
  refine ⟨b, off, e, hl, ?_⟩
  simpa using hc 0 (by omega) _ rfl
theorem IsA.at {W w : World} {A : Option Addr} {n cap i : Nat} {l : List Ac} {x : Ac} (h : IsA W A n cap l) (hb : Below W.heap.size W w) (hx : l[i]? = some x) : Wf x.x.t ∧ ∃ b off, A = some ⟨b, off, none⟩ ∧ b < W.heap.size ∧
    w.cell? ⟨b, off + i * 6, none⟩ = some (.int .i64 x.k) ∧ w.cell? ⟨b, off + i * 6 + 1, none⟩ = some (.int .i64 x.v) ∧ w.cell? ⟨b, off + i * 6 + 2, none⟩ = some (.int .i64 x.x.t) ∧ w.cell? ⟨b, off + i * 6 + 3, none⟩ = some (.int .i64 x.x.c) ∧ w.cell? ⟨b, off + i * 6 + 4, none⟩ = some (.int .i64 x.x.v) ∧ w.cell? ⟨b, off + i * 6 + 5, none⟩ = some (.bool x.s) := by
  obtain ⟨q, b, off, e, hl, hc⟩ := IsS.cell h aV_len hb hx
  exact ⟨q, b, off, e, hl, hc 0 (by omega) _ rfl, hc 1 (by omega) _ rfl, hc 2 (by omega) _ rfl, hc 3 (by omega) _ rfl, hc 4 (by omega) _ rfl, hc 5 (by omega) _ rfl⟩
end Go.Proofs.Ytmcacmbllpphiaa
