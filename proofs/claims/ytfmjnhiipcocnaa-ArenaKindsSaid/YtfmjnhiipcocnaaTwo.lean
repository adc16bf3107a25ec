/- An arena and a slice of the call's own beside it; a slice of pairs that came in. No condition. -/
import Derived.Test.YtfmjnhiipcocnaaFlW
import Derived.Deep.Slices
import Derived.ChangeSame
import Derived.ChangeSlices
import Derived.SliceStrings
import Derived.ProofKit
import Derived.OpenShut
namespace Go.Proofs.Ytfmjnhiipcocnaa
open Go.RowKit Go.ChangeShapes Go.WideShapes Go.Deep
set_option linter.unusedVariables false

def iV (l : List Int) : List Value := l.map (Value.int .i64)
theorem iV_snoc (l : List Int) (x : Int) : iV l ++ [.int .i64 x] = iV (l ++ [x]) := by simp [iV]
theorem iV_set (l : List Int) (j : Nat) (x : Int) : (iV l).set j (.int .i64 x) = iV (l.set j x) := by simp [iV, List.map_set]
theorem iV_at {l : List Int} {j : Nat} (h : j < l.length) : (iV l)[j]? = some (.int .i64 (l.getD j 0)) := by simp [iV, h]

/-- An arena of numbers holds l1, a slice of the call's own holds l2; they share no block. -/
structure AS (W : World) (m : Nat) (P1 : Option Addr) (c1 : Nat) (l1 : List Int) (n1 : Nat) (P2 : Option Addr) (c2 : Nat) (l2 : List Int) (n2 : Nat) (w : World) : Prop where
  bel : Below W.heap.size W w
  ar : AR 3 54 1 W.heap.size w W.heap.size m n1 P1 c1 (iV l1)
  row : w.ownsRow W.heap.size 3 1 (.slice P2 n2 c2) n2 (iV l2)
  ap : ∀ k, blk P2 = some k → blk P1 ≠ some k
section
variable {W w w' wx w1 : World} {m c1 c2 n1 n2 n1' c1' : Nat} {P1 P2 P1' : Option Addr} {l1 l2 l1' : List Int}
theorem AS.ne2 (h : AS W m P1 c1 l1 n1 P2 c2 l2 n2 w) {k : Nat} (hk : blk P2 = some k) : k ≠ W.heap.size := by
  obtain ⟨cs, fr, ht⟩ := row_tag h.row hk
  intro e
  rw [e, h.ar.ha] at ht
  injection ht with ht
  injection ht with _ ht
  cases ht
theorem AS.start (h : ST 3 54 1 W W.heap.size m 0 none 0 [] w) : AS W m none 0 [] 0 none 0 [] 0 w := ⟨h.bel, h.ar, World.ownsRow_nil _ _ _ _, fun k hk => by cases hk⟩
theorem AS.later (h : AS W m P1 c1 l1 n1 P2 c2 l2 n2 w) (hb : Below w.heap.size w w') : AS W m P1 c1 l1 n1 P2 c2 l2 n2 w' := ⟨h.bel.trans (hb.mono h.bel.size), h.ar.later hb, row_later h.row hb, h.ap⟩
theorem AS.drewN (h : AS W m P1 c1 l1 n1 P2 c2 l2 n2 w) (q : Nat) : AS W m P1 c1 l1 n1 P2 c2 l2 n2 (w.drewN q) := h.later (below_drewN w q)
theorem AS.go (h : AS W m P1 c1 l1 n1 P2 c2 l2 n2 w) (h1 : AR 3 54 1 W.heap.size w' W.heap.size m n1' P1' c1' (iV l1') ∧ Chg W.heap.size (blk P1) (blk P1') w w') : AS W m P1' c1' l1' n1' P2 c2 l2 n2 w' := by
  obtain ⟨ha, hc⟩ := h1
  refine ⟨h.bel.trans (hc.below (Nat.le_refl _) (fun k hk => (row_lt h.ar.own hk).1) h.bel.size), ha, ?_, ?_⟩
  · exact row_keep h.row fun k hk => hc.block k (row_lt h.row hk).2 (h.ne2 hk) (h.ap k hk)
  · intro k hk e
    rcases hc.new with h2 | h2
    · exact h.ap k hk (h2.symm.trans e)
    · have := h2 k e; have := (row_lt h.row hk).2; omega
theorem AS.app {g cap : Nat} {x : Int} (h : AS W m P1 c1 l1 n1 P2 c2 l2 n2 w) (hx : Below w.heap.size w wx) (hown : w1.ownsRow W.heap.size 3 1 (.slice (some ⟨g, 0, none⟩) (n2 + 1) cap) (n2 + 1) (iV l2 ++ [.int .i64 x])) (hg : wx.grownBy w1 (Value.slice P2 n2 c2).ownBlock) (hat : (Value.slice P2 n2 c2).ownBlock = some g ∨ w.heap.size ≤ g) :
    AS W m P1 c1 l1 n1 (some ⟨g, 0, none⟩) cap (l2 ++ [x]) (n2 + 1) w1 := by
  rw [own_blk] at hg hat
  have hs := hx.size
  have key : ∀ k, k < w.heap.size → blk P2 ≠ some k → w1.heap[k]? = w.heap[k]? := fun k hk hne => (hg.block k (by omega) (fun e => hne e.symm)).trans (hx.block k hk)
  refine ⟨?_, ?_, by rw [← iV_snoc]; exact hown, ?_⟩
  · exact (h.bel.trans (hx.mono h.bel.size)).grown hg (by have := h.bel.size; omega) (fun k hk => (row_lt h.row hk).1)
  · refine h.ar.keep (key _ h.ar.lt (fun e => h.ne2 e rfl)) fun k hk => key k (row_lt h.ar.own hk).2 (fun e => h.ap k e hk)
  · intro k hk e
    injection hk with hk; subst hk
    rcases hat with h1 | h1
    · exact h.ap g h1 e
    · have h9 : g < w.heap.size := (row_lt h.ar.own e).2
      omega
theorem AS.set {g j : Nat} (x : Int) (h : AS W m P1 c1 l1 n1 (some ⟨g, 0, none⟩) c2 l2 n2 w) : AS W m P1 c1 l1 n1 (some ⟨g, 0, none⟩) c2 (l2.set j x) n2 (w.setCell ⟨g, j, none⟩ (.int .i64 x)) := by
  have hlt := row_lt h.row (k := g) rfl
  refine ⟨h.bel.setCell hlt.1 _, ?_, by rw [← iV_set]; exact (h.row.stored j _).1, h.ap⟩
  refine h.ar.keep (Below.heap_setCell _ _ _ _ (fun e => h.ne2 (k := g) rfl e.symm)) fun k hk => Below.heap_setCell _ _ _ _ (fun e => h.ap g rfl (by rw [hk, e]))
theorem AS.len1 (h : AS W m P1 c1 l1 n1 P2 c2 l2 n2 w) : l1.length = n1 := by have := h.ar.own.1; simp [iV] at this; omega
theorem AS.len2 (h : AS W m P1 c1 l1 n1 P2 c2 l2 n2 w) : l2.length = n2 := by have := h.row.1; simp [iV] at this; omega
end

/-! A slice of pairs that came in. -/
def RdP (w : World) (A : Option Addr) (n : Nat) (k v : Nat → Int) : Prop :=
  0 < n → ∃ b off, A = some ⟨b, off, none⟩ ∧ b < w.heap.size ∧ ∀ i, i < n → w.cell? ⟨b, off + i * 2, none⟩ = some (.int .i64 (k i)) ∧ w.cell? ⟨b, off + i * 2 + 1, none⟩ = some (.int .i64 (v i))
theorem RdP.cell {W w : World} {A : Option Addr} {n i : Nat} {k v : Nat → Int} (h : RdP W A n k v) (hb : Below W.heap.size W w) (hi : i < n) : ∃ b off, A = some ⟨b, off, none⟩ ∧ b < W.heap.size ∧ w.cell? ⟨b, off + i * 2, none⟩ = some (.int .i64 (k i)) ∧ w.cell? ⟨b, off + i * 2 + 1, none⟩ = some (.int .i64 (v i)) := by
  obtain ⟨b, off, e, hl, hc⟩ := h (by omega)
  exact ⟨b, off, e, hl, (cell_blk (hb.block b hl) _).trans (hc i hi).1, (cell_blk (hb.block b hl) _).trans (hc i hi).2⟩

theorem cells29 : Try.prog.cellsOf 29 = 2 := by kernel_rfl
theorem cells3 : Try.prog.cellsOf 3 = 1 := by kernel_rfl
theorem cells9 : Try.prog.cellsOf 9 = 1 := by kernel_rfl
theorem plain_of {w : World} {a : Addr} {v : Value} (h : w.cell? a = some v) : ∃ b off, a = ⟨b, off, none⟩ ∧ b < w.heap.size := by
  obtain ⟨b, off, spot⟩ := a
  have hs : spot = none := World.cell?_spot h
  subst hs
  exact ⟨b, off, rfl, World.block_lt_of_cell? _ _ h⟩
theorem add_plain (b off i : Nat) : (⟨b, off, none⟩ : Addr).add i = ⟨b, off + i, none⟩ := by
  unfold Addr.add
  by_cases h : i = 0
  · subst h; simp
  · simp [h]
section
variable {H : Type} {enc : TypeId × Value → H} {w : World} {base : Nat} {spare : Nat → Bool} {held : Bool}
theorem open_pair {n : Nat} {cs : List Value} {x : DataW H × List MemPlace} (h : DataW.trod enc Try.prog w base spare held n 29 cs = some x) : ∃ a b : Int, cs = [.int .i64 a, .int .i64 b] := by
  obtain ⟨xs, m, _, _, hl, hlen, hf⟩ := DataW.trod_array Try.underlying29 h
  rw [cells29] at hl
  match cs, hl with
  | [c0, c1], _ =>
    have h0 := hf 0 (by omega)
    have h1 := hf 1 (by omega)
    rw [cells3] at h0 h1
    match xs, hlen with
    | [y0, y1], _ =>
      obtain ⟨z0, e0, _, _⟩ := DataW.trod_int Try.underlying3 h0
      obtain ⟨z1, e1, _, _⟩ := DataW.trod_int Try.underlying3 h1
      cases e0; cases e1
      exact ⟨z0, z1, rfl⟩
theorem open_pairs {A : Option Addr} {len cap : Nat} {d : DataW H} {p : List MemPlace} (h : DataW.Trod enc Try.prog w base spare held 22 (.slice A len cap) d p) : ∃ k v, RdP w A len k v := by
  obtain ⟨fuel, hf⟩ := h
  rcases open_slice Try.underlying22 hf with ⟨hcs, _⟩ | ⟨a, len', cap', m, n, D, Pl, hcs, _, hl, hm, hmm, _, hi⟩
  · simp [Value.cells] at hcs
    obtain ⟨rfl, rfl, rfl⟩ := hcs
    exact ⟨fun _ => 0, fun _ => 0, fun h => absurd h (by omega)⟩
  · simp [Value.cells] at hcs
    obtain ⟨rfl, rfl, rfl⟩ := hcs
    have hlm : len ≤ m := by rw [hmm]; split <;> omega
    have hx : ∀ i, ∃ e : Int × Int, i < len → w.cell? (a.add (i * 2)) = some (.int .i64 e.1) ∧ w.cell? (a.add (i * 2 + 1)) = some (.int .i64 e.2) := by
      intro i
      by_cases hil : i < len
      · obtain ⟨cs', hc, ht⟩ := hi i (by omega)
        obtain ⟨y, z, rfl⟩ := open_pair ht
        rw [cells29] at hc
        obtain ⟨_, _, hat⟩ := World.cells?_some hc
        refine ⟨(y, z), fun _ => ⟨?_, ?_⟩⟩
        · have k0 := hat 0 (by omega)
          rw [Go.Deep.add_add] at k0
          simpa using k0
        · have k0 := hat 1 (by omega)
          rw [Go.Deep.add_add] at k0
          rw [k0]; rfl
      · exact ⟨(0, 0), fun h => absurd h hil⟩
    obtain ⟨E, hE⟩ := Classical.axiomOfChoice hx
    refine ⟨fun i => (E i).1, fun i => (E i).2, fun h0 => ?_⟩
    have k0 := (hE 0 h0).1
    obtain ⟨b, off, rfl, hb⟩ : ∃ b off, a = ⟨b, off, none⟩ ∧ b < w.heap.size := by
      have h9 : a.add (0 * 2) = a := by unfold Addr.add; simp
      rw [h9] at k0
      exact plain_of k0
    refine ⟨b, off, rfl, hb, fun i hil => ?_⟩
    obtain ⟨q1, q2⟩ := hE i hil
    rw [add_plain] at q1 q2
    exact ⟨q1, q2⟩
/-- A slice of texts that came in. -/
def RdS (w : World) (A : Option Addr) (n : Nat) (f : Nat → ByteArray) : Prop :=
  0 < n → ∃ b off, A = some ⟨b, off, none⟩ ∧ b < w.heap.size ∧ ∀ i, i < n → w.cell? ⟨b, off + i, none⟩ = some (.string (f i))
theorem open_texts {A : Option Addr} {len cap : Nat} {d : DataW H} {p : List MemPlace} (h : DataW.Trod enc Try.prog w base spare held 37 (.slice A len cap) d p) : ∃ f, RdS w A len f ∧ ∀ i, i < len → (f i).size ≤ maxLen := by
  obtain ⟨fuel, hf⟩ := h
  rcases open_strings Try.underlying37 Try.underlying9 cells9 hf with ⟨hcs, hx⟩ | ⟨a, len', cap', ss, hcs, _, hl, hm, hz, hx, hcell, hsz⟩
  · simp [Value.cells] at hcs
    obtain ⟨rfl, rfl, rfl⟩ := hcs
    exact ⟨fun _ => ByteArray.empty, fun h => absurd h (by omega), fun i hi => absurd hi (by omega)⟩
  · simp [Value.cells] at hcs
    obtain ⟨rfl, rfl, rfl⟩ := hcs
    have hlm : len ≤ ss.length := by rw [hz]; split <;> omega
    refine ⟨fun i => ss.getD i ByteArray.empty, fun h0 => ?_, fun i hi => ?_⟩
    · have k0 := hcell 0 (by omega)
      obtain ⟨b, off, rfl, hb⟩ : ∃ b off, a = ⟨b, off, none⟩ ∧ b < w.heap.size := by
        have h9 : a.add 0 = a := by unfold Addr.add; simp
        rw [h9] at k0
        exact plain_of k0
      refine ⟨b, off, rfl, hb, fun i hil => ?_⟩
      have q := hcell i (by omega)
      rw [add_plain] at q
      exact q
    · have hil : i < ss.length := by omega
      show (ss.getD i ByteArray.empty).size ≤ maxLen
      rw [List.getD, List.getElem?_eq_getElem hil]
      exact hsz _ (List.getElem_mem hil)
end
theorem RdS.cell {W w : World} {A : Option Addr} {n i : Nat} {f : Nat → ByteArray} (h : RdS W A n f) (hb : Below W.heap.size W w) (hi : i < n) : ∃ b off, A = some ⟨b, off, none⟩ ∧ b < W.heap.size ∧ w.cell? ⟨b, off + i, none⟩ = some (.string (f i)) := by
  obtain ⟨b, off, e, hl, hc⟩ := h (by omega)
  exact ⟨b, off, e, hl, (cell_blk (hb.block b hl) _).trans (hc i hi)⟩
end Go.Proofs.Ytfmjnhiipcocnaa
