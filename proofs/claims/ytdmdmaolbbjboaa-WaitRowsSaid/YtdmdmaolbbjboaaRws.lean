/- Rows of waits by their numbers, those that are gone left out; flags in a row of the call's own. No condition. -/
import Derived.Test.YtdmdmaolbbjboaaTkW
namespace Go.Proofs.Ytdmdmaolbbjboaa
open Go.RowKit
set_option linter.unusedVariables false

def mkw (i : Nat) : Wt := ⟨(i : Int), 0, 10 * (i : Int)⟩
def gone (gs : List Bool) (i : Nat) : Bool := gs.getD i false
/-- From i on, m of them, those that are gone left out. -/
def lefts (gs : List Bool) (i m : Nat) : List Nat := (List.range' i m).filter fun j => !gone gs j
theorem lefts_zero (gs : List Bool) (i : Nat) : lefts gs i 0 = [] := rfl
theorem lefts_in {gs : List Bool} {i : Nat} (h : gone gs i = false) (m : Nat) : lefts gs i (m + 1) = i :: lefts gs (i + 1) m := by
  unfold lefts; rw [List.range'_succ, List.filter_cons, h]; rfl
theorem lefts_out {gs : List Bool} {i : Nat} (h : gone gs i = true) (m : Nat) : lefts gs i (m + 1) = lefts gs (i + 1) m := by
  unfold lefts; rw [List.range'_succ, List.filter_cons, h]; rfl
theorem lefts_start (n : Nat) : (lefts (List.replicate (n + 1) false) 0 n).map mkw = (List.range n).map mkw := by
  unfold lefts
  rw [List.filter_eq_self.2, List.range_eq_range']
  intro j _
  unfold gone
  rw [List.getD_eq_getElem?_getD, List.getElem?_replicate]
  split <;> rfl
theorem gone_set {gs : List Bool} {k : Nat} (hk : k < gs.length) (j : Nat) : gone (gs.set k true) j = (gone gs j || (j == k)) := by
  unfold gone
  rw [List.getD_eq_getElem?_getD, List.getD_eq_getElem?_getD, List.getElem?_set]
  by_cases h : k = j
  · subst h; simp [hk]
  · rw [if_neg h]
    have : (j == k) = false := by simp; omega
    rw [this, Bool.or_false]
theorem isT_mkw (k j : Nat) : isT (k : Int) (mkw j) = (j == k) := by
  unfold isT mkw
  simp only
  by_cases h : j = k
  · subst h; simp
  · have h1 : (j == k) = false := by simpa using h
    rw [h1]; simp; omega
theorem lefts_set {gs : List Bool} {k : Nat} (hk : k < gs.length) (i m : Nat) : (lefts (gs.set k true) i m).map mkw = ((lefts gs i m).map mkw).filter fun x => !isT (k : Int) x := by
  rw [List.filter_map]
  congr 1
  unfold lefts
  rw [List.filter_filter]
  congr 1
  funext j
  simp only [Function.comp, isT_mkw, gone_set hk]
  cases gone gs j <;> cases (j == k) <;> rfl
theorem lefts_nodup (gs : List Bool) (i m : Nat) : (lefts gs i m).Nodup := List.Nodup.sublist List.filter_sublist List.nodup_range'
theorem lefts_ct (gs : List Bool) (k n : Nat) : ((lefts gs 0 n).map mkw).countP (isT (k : Int)) = if k < n ∧ gone gs k = false then 1 else 0 := by
  rw [List.countP_map]
  have e : (isT (k : Int) ∘ mkw) = fun j => j == k := by funext j; exact isT_mkw k j
  rw [e]
  show (lefts gs 0 n).count k = _
  rw [(lefts_nodup gs 0 n).count]
  have hm : k ∈ lefts gs 0 n ↔ (k < n ∧ gone gs k = false) := by
    unfold lefts
    rw [List.mem_filter, List.mem_range'_1]
    simp
  by_cases h : k < n ∧ gone gs k = false
  · rw [if_pos h, if_pos (hm.2 h)]
  · rw [if_neg h, if_neg (fun h2 => h (hm.1 h2))]
theorem lefts_le (gs : List Bool) (i m : Nat) : (lefts gs i m).length ≤ m := by
  have := List.length_filter_le (fun j => !gone gs j) (List.range' i m)
  rw [List.length_range'] at this; exact this

/-- A slice of n numbers reads as l. -/
def Rn (w : World) (B : Nat) (A : Option Addr) (n : Nat) (l : List Int) : Prop :=
  l.length = n ∧ (0 < n → ∃ b off, A = some ⟨b, off, none⟩ ∧ b < B ∧ ∀ j x, l[j]? = some x → w.cell? ⟨b, off + j, none⟩ = some (.int .i64 x))
theorem Rn.nil (w : World) (B : Nat) (A : Option Addr) : Rn w B A 0 [] := ⟨rfl, fun h => absurd h (by omega)⟩
theorem row_at {k : IntKind} {w : World} {x : Addr} {zs : List Int} (hcell : ∀ i, i < zs.length → w.cell? (x.add i) = some (.int k (zs.getD i 0))) (h0 : 0 < zs.length) :
    ∃ b off, x = ⟨b, off, none⟩ ∧ b < w.heap.size ∧ ∀ i, i < zs.length → w.cell? ⟨b, off + i, none⟩ = some (.int k (zs.getD i 0)) := by
  have hc := hcell 0 h0
  obtain ⟨b, off, spot⟩ := x
  have hspot : spot = none := by simpa [Addr.add] using World.cell?_spot hc
  subst hspot
  have e : ∀ i, (⟨b, off, none⟩ : Addr).add i = ⟨b, off + i, none⟩ := by
    intro i; unfold Addr.add
    by_cases h : i = 0
    · subst h; simp
    · simp [h]
  exact ⟨b, off, rfl, by simpa [e] using World.block_lt_of_cell? _ _ hc, fun i hi => by rw [← e]; exact hcell i hi⟩
theorem rn_of {w : World} {a : Option Addr} {len cap : Nat} {zs : List Int}
    (h : (a = none ∧ len = 0 ∧ cap = 0 ∧ zs = []) ∨ ∃ x, a = some x ∧ len ≤ cap ∧ cap ≤ maxLen ∧ zs.length = cap ∧ (∀ i, i < zs.length → w.cell? (x.add i) = some (.int .i64 (zs.getD i 0))) ∧ ∀ n ∈ zs, (Lit.int .i64 n).wf = true) : Rn w w.heap.size a len (zs.take len) := by
  rcases h with ⟨rfl, rfl, rfl, rfl⟩ | ⟨x, rfl, h1, h2, h3, h4, _⟩
  · exact Rn.nil _ _ _
  · refine ⟨by rw [List.length_take]; omega, fun h0 => ?_⟩
    obtain ⟨b, off, rfl, hb, hc⟩ := row_at h4 (by omega)
    refine ⟨b, off, rfl, hb, fun j y hy => ?_⟩
    have hj : j < (zs.take len).length := (List.getElem?_eq_some_iff.1 hy).1
    rw [List.length_take] at hj
    rw [hc j (by omega)]
    rw [List.getElem?_take, if_pos (by omega)] at hy
    simp [List.getD_eq_getElem?_getD, hy]
/-- Its element k, later on. -/
theorem Rn.cell {W w : World} {A : Option Addr} {n k : Nat} {l : List Int} (h : Rn W W.heap.size A n l) (hb : Below W.heap.size W w) (hk : k < n) : ∃ b off x, A = some ⟨b, off, none⟩ ∧ b < W.heap.size ∧ l[k]? = some x ∧ w.cell? ⟨b, off + k, none⟩ = some (.int .i64 x) := by
  obtain ⟨b, off, e, h1, h2⟩ := h.2 (by omega)
  have hx : l[k]? = some (l[k]'(by rw [h.1]; exact hk)) := List.getElem?_eq_getElem _
  exact ⟨b, off, _, e, h1, hx, (cell_blk (hb.block b h1) _).trans (h2 k _ hx)⟩

/-- Flags in a block of the call's own. -/
def gA (gs : List Bool) : Array Value := (gs.map Value.bool).toArray
theorem gA_at (gs : List Bool) (k : Nat) (hk : k < gs.length) : (gA gs)[k]? = some (.bool (gone gs k)) := by
  unfold gA gone
  simp [List.getD_eq_getElem?_getD, List.getElem?_eq_getElem hk]
theorem gA_set (gs : List Bool) (k : Nat) : (gA gs).setIfInBounds k (.bool true) = gA (gs.set k true) := by simp [gA, List.map_set]
theorem inf4 : (Try.prog.info? 4).map (fun i => (i.zero, i.size, i.bytes)) = some (some (.bool false), 1, 1) := by kernel_rfl
theorem mk_b (w : World) (n : Nat) (hn : n ≤ 64) : (Instr.makeSlice 42 (.int .i64 (n : Int)) (.int .i64 (n : Int))).run Try.prog w = .ok (.slice (some ⟨w.heap.size, 0, none⟩) n n) (w.alloc (.cells (gA (List.replicate n false)) 4)) := by
  obtain ⟨i0, hi, hz0, hz1, hz2⟩ := info_parts inf4
  have h := run_make (P := Try.prog) w 42 4 i0 _ Try.underlying42 hi hz0 .i64 .i64 (n : Int) (n : Int) (by omega) (Int.le_refl _) (by rw [hz2]; omega) (by omega)
  rw [h, hz1]
  have e : madeCells (Value.bool false).cells ((n : Int).toNat * 1) = gA (List.replicate n false) := by
    rw [Int.toNat_natCast, Nat.mul_one]
    apply Array.ext'
    show (madeCells #[_] n).toList = _
    rw [toList_madeCells_one]; simp [gA]
  rw [e]; simp

/-- A Queue of the call's own, of those from i on that are not gone; and the flags. -/
structure RwS (W : World) (G n : Nat) (gs : List Bool) (i : Nat) (w : World) : Prop where
  st : ST W ((lefts gs i (n - i)).map mkw) w
  gh : w.heap[G]? = some (.cells (gA gs) 4 (0, 0))
  gl : gs.length = n + 1
  gW : W.heap.size ≤ G
theorem RwS.go {W w w' : World} {G n i j : Nat} {gs : List Bool} (h : RwS W G n gs i w) (f : Fr W.heap.size w w') (q : QL w' W.heap.size W.heap.size ((lefts gs j (n - j)).map mkw)) : RwS W G n gs j w' :=
  ⟨h.st.go f q, f.at h.gh (not_isq h.gh (by decide)), h.gl, h.gW⟩
theorem RwS.later {W w w' : World} {G n i : Nat} {gs : List Bool} (h : RwS W G n gs i w) (hb : Below w.heap.size w w') : RwS W G n gs i w' :=
  ⟨h.st.later hb, (hb.block _ (lt_of_blk h.gh)).trans h.gh, h.gl, h.gW⟩
theorem RwS.cell {W w : World} {G n i : Nat} {gs : List Bool} (h : RwS W G n gs i w) (k : Nat) (hk : k ≤ n) : w.cell? ⟨G, k, none⟩ = some (.bool (gone gs k)) := by
  rw [cell_of_row w G k _ _ _ h.gh]; exact gA_at gs k (by rw [h.gl]; omega)
theorem RwS.fz {W w : World} {G n i : Nat} {gs : List Bool} (h : RwS W G n gs i w) (k : Nat) : w.frozen? ⟨G, k, none⟩ = false := frozen_of_row w G k _ _ h.gh
theorem QL.setN {w : World} {B q : Nat} {l : List Wt} {g i : Nat} (h : QL w B q l) (hg : ¬ IsQ w g) (v : Value) : QL (w.setCell ⟨g, i, none⟩ v) B q l := by
  obtain ⟨ns, h, e⟩ := h; exact ⟨ns, h.setN hg v, e⟩
/-- Behind Remove, and the flag set. -/
theorem RwS.mark {W w w' : World} {G n k : Nat} {gs : List Bool} (h : RwS W G n gs 0 w) (hk : k ≤ n) (f : Fr W.heap.size w w') (q : QL w' W.heap.size W.heap.size (((lefts gs 0 (n - 0)).map mkw).filter fun x => !isT (k : Int) x)) :
    RwS W G n (gs.set k true) 0 (w'.setCell ⟨G, k, none⟩ (.bool true)) ∧ w'.heap[G]? = some (.cells (gA gs) 4 (0, 0)) := by
  have hg := f.at h.gh (not_isq h.gh (by decide))
  refine ⟨⟨⟨(h.st.bel.trans (f.below h.st.bel.size)).setCell (p := ⟨G, k, none⟩) h.gW _, ?_⟩, ?_, by rw [List.length_set]; exact h.gl, h.gW⟩, hg⟩
  · rw [lefts_set (by rw [h.gl]; omega)]
    exact q.setN (not_isq hg (by decide)) _
  · rw [heap_setCell_same w' G k _ _ _ hg, gA_set]
end Go.Proofs.Ytdmdmaolbbjboaa
