/- Timers, and rows of numbers and of bools beside them. No condition. -/
import Derived.Test.YtbpoippgioincaaAwt
import Derived.Test.YtbpoippgioincaaRnt
import Derived.Deep.RegionHeld3
namespace Go.Proofs.Ytbpoippgioincaa
open Go.RowKit
set_option linter.unusedVariables false
set_option maxRecDepth 100000
/-! Rows of numbers. -/
def nV (l : List Int) : List Value := l.map (Value.int .i64)
theorem nV_len (l : List Int) : (nV l).length = l.length := by simp [nV]
theorem nV_snoc (l : List Int) (x : Int) : nV l ++ [.int .i64 x] = nV (l ++ [x]) := by simp [nV]
theorem nV_at {l : List Int} {j : Nat} {x : Int} (h : l[j]? = some x) : (nV l)[j]? = some (.int .i64 x) := by simp [nV, h]
theorem one_int {x : Int} : ∀ u ∈ [Value.int .i64 x], u.oneCell' = true := by intro u hu; simp at hu; subst hu; rfl
theorem inf3 : (Try.prog.info? 3).map (fun i => (i.zero, i.size, i.bytes)) = some (some (.int .i64 0), 1, 8) := by kernel_rfl
/-- A row of bools. -/
def SB (n : Nat) (g : Nat → Bool) : List Value := (List.range n).map fun j => .bool (g j)
theorem SB_new (n : Nat) : List.replicate n (Value.bool false) = SB n (fun _ => false) := by
  apply List.ext_getElem?
  intro j
  by_cases h : j < n <;> simp [SB, h]
theorem SB_at {n j : Nat} {g : Nat → Bool} (h : j < n) : (SB n g)[j]? = some (.bool (g j)) := by simp [SB, h]
theorem SB_set {n j : Nat} {g : Nat → Bool} : (SB n g).set j (.bool true) = SB n (fun i => g i || j == i) := by
  apply List.ext_getElem?
  intro i
  rw [List.getElem?_set]
  by_cases h : i < n
  · by_cases e : j = i
    · subst e; simp [SB, h]
    · simp [SB, h, e]
  · by_cases e : j = i
    · subst e; simp [SB, h]
    · simp [SB, h, e]
theorem inf4 : (Try.prog.info? 4).map (fun i => (i.zero, i.size, i.bytes)) = some (some (.bool false), 1, 1) := by kernel_rfl
/-- A row of another kind has grown. -/
theorem TT.grew {B t o b c n N : Nat} {p : Option Nat} {S : List It} {g : Int → Int} {w w' : World} (h : TT B t o b c p n N S g w) {row : Option Nat} (hg : w.grownBy w' row) (hr : ∀ k, row = some k → B ≤ k ∧ ∃ cs ty fr, w.heap[k]? = some (.cells cs ty fr) ∧ ty ≠ 83 ∧ ty ≠ 36 ∧ ty ≠ 93) : TT B t o b c p n N S g w' := by
  refine ⟨h.hg.keep (hg.block o h.hg.lo fun e => ?_) (hg.block b h.hg.lb fun e => ?_) (fun k hk => hg.block k (h.hg.lp hk).2 fun e => ?_), (hg.block t h.lt fun e => ?_).trans h.ht, h.pm.keep (hg.block c h.pm.lt fun e => ?_), h.ok, h.gt, h.gc, h.ne⟩
  · obtain ⟨_, cs, ty, fr, h4, h5, _⟩ := hr o e.symm
    obtain ⟨cs', fr', h6⟩ := h.hg.to
    rw [h6] at h4; injection h4 with h4; injection h4 with _ h4 _; exact h5 h4.symm
  · obtain ⟨_, cs, ty, fr, h4, h5, _⟩ := hr b e.symm
    obtain ⟨es, cl, h6⟩ := h.hg.tb
    rw [h6] at h4; cases h4
  · obtain ⟨_, cs, ty, fr, h4, _, h5, _⟩ := hr k e.symm
    obtain ⟨cs', fr', h6⟩ := h.hg.tp hk
    rw [h6] at h4; injection h4 with h4; injection h4 with _ h4 _; exact h5 h4.symm
  · obtain ⟨_, cs, ty, fr, h4, _, _, h5⟩ := hr t e.symm
    have h6 := h.ht
    rw [h6] at h4; injection h4 with h4; injection h4 with _ h4 _; exact h5 h4.symm
  · obtain ⟨_, cs, ty, fr, h4, h5, _⟩ := hr c e.symm
    obtain ⟨es, cl, h6⟩ := h.pm.blk
    rw [h6] at h4; cases h4
section
variable {W w w' wx w1 : World} {t o b c n n' c2 n2 : Nat} {S S' : List It} {g g' : Int → Int} {P2 : Option Addr} {l2 : List Int} {e : Ending} {v : Value} {x : Int} {gB cap : Nat}
theorem XS.grew (h : XS W t o b c n S g w) {row : Option Nat} (hg : w.grownBy w' row) (hr : ∀ k, row = some k → W.heap.size ≤ k ∧ ∃ cs ty fr, w.heap[k]? = some (.cells cs ty fr) ∧ ty ≠ 83 ∧ ty ≠ 36 ∧ ty ≠ 93) : XS W t o b c n S g w' := by
  obtain ⟨hb, p, N, hN, ht⟩ := h
  have hs := hb.size
  refine ⟨⟨hg.os.trans hb.os, hg.tape.trans hb.tape, hg.output.trans hb.output, Nat.le_trans hs hg.size, fun k hk => ?_⟩, p, N, hN, ht.grew hg hr⟩
  rw [hg.block k (by omega) fun e => by have := (hr k e.symm).1; omega]
  exact hb.block k hk
/-- Timers, and a row of numbers. -/
structure XI (W : World) (t o b c n : Nat) (S : List It) (g : Int → Int) (P2 : Option Addr) (c2 n2 : Nat) (l2 : List Int) (w : World) : Prop where
  st : XS W t o b c n S g w
  row : w.ownsRow W.heap.size 3 1 (.slice P2 n2 c2) n2 (nV l2)
theorem XI.later (h : XI W t o b c n S g P2 c2 n2 l2 w) (hb : Below w.heap.size w w') : XI W t o b c n S g P2 c2 n2 l2 w' := ⟨h.st.later hb, row_later h.row hb⟩
theorem XI.box (h : XI W t o b c n S g P2 c2 n2 l2 w) (u : Obj) : XI W t o b c n S g P2 c2 n2 l2 (w.alloc u) := h.later (below_al w u)
theorem XI.drewN (h : XI W t o b c n S g P2 c2 n2 l2 w) (q : Nat) : XI W t o b c n S g P2 c2 n2 l2 (w.drewN q) := h.later (below_drewN w q)
theorem XI.go (h : XI W t o b c n S g P2 c2 n2 l2 w) (r : XS W t o b c n' S' g' w' ∧ OX w w') : XI W t o b c n' S' g' P2 c2 n2 l2 w' := ⟨r.1, r.2.row h.row (by decide) (by decide)⟩
theorem XI.len (h : XI W t o b c n S g P2 c2 n2 l2 w) : l2.length = n2 := by have := h.row.1; rw [nV_len] at this; omega
theorem XI.at (h : XI W t o b c n S g P2 c2 n2 l2 w) {j : Nat} {y : Int} (hy : l2[j]? = some y) : ∃ g, P2 = some ⟨g, 0, none⟩ ∧ g < w.heap.size ∧ w.cell? ⟨g, j, none⟩ = some (.int .i64 y) := by
  have hj := at_lt hy
  rw [h.len] at hj
  obtain ⟨g, rfl, hc⟩ := row_form h.row (by omega)
  exact ⟨g, rfl, (row_lt h.row rfl).2, by rw [h.row.cellAt j (by omega)]; exact nV_at hy⟩
theorem XI.app (h : XI W t o b c n S g P2 c2 n2 l2 w) (hx : Below w.heap.size w wx) (hown : w1.ownsRow W.heap.size 3 1 (.slice (some ⟨gB, 0, none⟩) (n2 + 1) cap) (n2 + 1) (nV l2 ++ [.int .i64 x])) (hg : wx.grownBy w1 (Value.slice P2 n2 c2).ownBlock) :
    XI W t o b c n S g (some ⟨gB, 0, none⟩) cap (n2 + 1) (l2 ++ [x]) w1 := by
  refine ⟨?_, by rw [← nV_snoc]; exact hown⟩
  rw [own_blk] at hg
  refine (h.st.later hx).grew hg fun k hk => ⟨(row_lt h.row hk).1, ?_⟩
  obtain ⟨cs, fr, ht⟩ := row_tag (row_later h.row hx) hk
  exact ⟨cs, 3, fr, ht, by decide, by decide, by decide⟩
theorem XI.start (h : XS W t o b c n S g w) : XI W t o b c n S g none 0 0 [] w := ⟨h, World.ownsRow_nil _ _ _ _⟩
end
/-- Timers, and a row of m bools in block s. -/
structure XQ (W : World) (t o b c n : Nat) (S : List It) (g : Int → Int) (s m : Nat) (f : Nat → Bool) (w : World) : Prop where
  st : XS W t o b c n S g w
  row : w.ownsRow W.heap.size 4 1 (.slice (some ⟨s, 0, none⟩) m m) m (SB m f)
section
variable {W w w' : World} {t o b c n n' s m : Nat} {S S' : List It} {g g' : Int → Int} {f : Nat → Bool} {e : Ending} {v : Value}
theorem XQ.later (h : XQ W t o b c n S g s m f w) (hb : Below w.heap.size w w') : XQ W t o b c n S g s m f w' := ⟨h.st.later hb, row_later h.row hb⟩
theorem XQ.box (h : XQ W t o b c n S g s m f w) (u : Obj) : XQ W t o b c n S g s m f (w.alloc u) := h.later (below_al w u)
theorem XQ.drewN (h : XQ W t o b c n S g s m f w) (q : Nat) : XQ W t o b c n S g s m f (w.drewN q) := h.later (below_drewN w q)
theorem XQ.go (h : XQ W t o b c n S g s m f w) (r : XS W t o b c n' S' g' w' ∧ OX w w') : XQ W t o b c n' S' g' s m f w' := ⟨r.1, r.2.row h.row (by decide) (by decide)⟩
theorem XQ.set (h : XQ W t o b c n S g s m f w) (j : Nat) : XQ W t o b c n S g s m (fun i => f i || j == i) (w.setCell ⟨s, j, none⟩ (.bool true)) := by
  obtain ⟨cs, fr, ht⟩ := row_tag h.row (k := s) rfl
  exact ⟨h.st.cell (row_lt h.row (k := s) rfl).1 ht (by decide) (by decide) (by decide) _, by rw [← SB_set]; exact (h.row.stored j _).1⟩
theorem XQ.at (h : XQ W t o b c n S g s m f w) {j : Nat} (hj : j < m) : w.cell? ⟨s, j, none⟩ = some (.bool (f j)) ∧ w.frozen? ⟨s, j, none⟩ = false := ⟨by rw [h.row.cellAt j (by omega)]; exact SB_at hj, h.row.frozenAt j⟩
theorem XQ.ls (h : XQ W t o b c n S g s m f w) : W.heap.size ≤ s ∧ s < w.heap.size := row_lt h.row rfl
end
/-! All of one time. -/
def One (t : Int) (S : List It) : Prop := ∀ x ∈ S, x.w = t
theorem ins_end {t : Int} {x : It} : ∀ {S : List It}, One t S → x.w = t → ins x S = S ++ [x]
  | [], _, _ => rfl
  | y :: S, h, e => by
    have hy := h y (by simp)
    have : ¬ x.w < y.w := by omega
    rw [ins, if_neg this, ins_end (fun z hz => h z (by simp [hz])) e]; rfl
theorem One.ins {t : Int} {x : It} {S : List It} (h : One t S) (e : x.w = t) : One t (ins x S) := fun y hy => by
  rcases ins_mem.1 hy with rfl | h1
  · exact e
  · exact h y h1
theorem One.del {t k : Int} {S : List It} (h : One t S) : One t (del k S) := fun y hy => h y (del_mem.1 hy).1
/-- Those that are not x. -/
def fl (x : Int) (l : List Int) : List Int := l.filter fun y => !(y == x)
theorem fl_yes {x y : Int} (l : List Int) (h : y ≠ x) : fl x (l ++ [y]) = fl x l ++ [y] := by simp [fl, List.filter_append, h]
theorem fl_no {x : Int} (l : List Int) : fl x (l ++ [x]) = fl x l := by simp [fl, List.filter_append]
theorem ids_fl (k : Int) (S : List It) : ids (del k S) = fl k (ids S) := by
  rw [ids_del]; unfold fl; congr 1; funext y
  by_cases e : y = k <;> simp [e]
theorem take_one {l : List Int} {q : Nat} {y : Int} (h : l[q]? = some y) : l.take (q + 1) = l.take q ++ [y] := by
  rw [List.take_add_one, h]; rfl
/-- The first numbers, each once. -/
def Full (n : Nat) (l : List Int) : Prop := ∀ j : Int, j ∈ l ↔ 0 ≤ j ∧ j < n
theorem ids_snoc (S : List It) (x : It) : ids (S ++ [x]) = ids S ++ [x.id] := by simp [ids]
theorem Full.move {n : Nat} {l : List Int} {k : Int} (h : Full n l) (hk : 0 ≤ k ∧ k < n) : Full n (fl k l ++ [k]) := fun j => by
  simp only [fl, List.mem_append, List.mem_filter, List.mem_singleton]
  constructor
  · rintro (⟨h1, _⟩ | rfl)
    · exact (h j).1 h1
    · exact hk
  · intro h1
    by_cases e : j = k
    · exact .inr e
    · exact .inl ⟨(h j).2 h1, by simp [e]⟩
theorem Full.snoc {n : Nat} {l : List Int} (h : Full n l) : Full (n + 1) (l ++ [(n : Int)]) := fun j => by
  simp only [List.mem_append, List.mem_singleton]
  rw [h j]; omega
theorem Full.nil : Full 0 [] := fun j => by simp <;> omega
end Go.Proofs.Ytbpoippgioincaa
