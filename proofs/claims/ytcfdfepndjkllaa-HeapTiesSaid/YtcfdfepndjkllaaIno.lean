/- A heap, and rows of numbers beside it; those of one time. No condition. -/
import Derived.Test.YtcfdfepndjkllaaAds
namespace Go.Proofs.Ytcfdfepndjkllaa
open Go.RowKit
set_option linter.unusedVariables false
/-! Rows of numbers. -/
def nV (l : List Int) : List Value := l.map (Value.int .i64)
theorem nV_len (l : List Int) : (nV l).length = l.length := by simp [nV]
theorem nV_snoc (l : List Int) (x : Int) : nV l ++ [.int .i64 x] = nV (l ++ [x]) := by simp [nV]
theorem nV_at {l : List Int} {j : Nat} {x : Int} (h : l[j]? = some x) : (nV l)[j]? = some (.int .i64 x) := by simp [nV, h]
theorem one_int {x : Int} : ∀ u ∈ [Value.int .i64 x], u.oneCell' = true := by intro u hu; simp at hu; subst hu; rfl
theorem inf3 : (Try.prog.info? 3).map (fun i => (i.zero, i.size, i.bytes)) = some (some (.int .i64 0), 1, 8) := by kernel_rfl
/-- A heap, and a row of numbers. -/
structure SI (W : World) (o b n : Nat) (S : List It) (P2 : Option Addr) (c2 n2 : Nat) (l2 : List Int) (w : World) : Prop where
  st : ST W o b n S [] w
  row : w.ownsRow W.heap.size 3 1 (.slice P2 n2 c2) n2 (nV l2)
/-- .. and one more row, apart from it. -/
structure SJ (W : World) (o b n : Nat) (S : List It) (P2 : Option Addr) (c2 n2 : Nat) (l2 : List Int) (P3 : Option Addr) (c3 n3 : Nat) (l3 : List Int) (w : World) : Prop where
  a : SI W o b n S P2 c2 n2 l2 w
  row3 : w.ownsRow W.heap.size 3 1 (.slice P3 n3 c3) n3 (nV l3)
  ap : ∀ k, blk P3 = some k → blk P2 ≠ some k
section
variable {W w w' wx w1 : World} {o b n n' c2 n2 c3 n3 : Nat} {S S' : List It} {P2 P3 : Option Addr} {l2 l3 : List Int} {e : Ending} {v : Value} {x : Int} {g cap : Nat}
theorem SI.later (h : SI W o b n S P2 c2 n2 l2 w) (hb : Below w.heap.size w w') : SI W o b n S P2 c2 n2 l2 w' := ⟨h.st.later hb, row_later h.row hb⟩
theorem SI.drewN (h : SI W o b n S P2 c2 n2 l2 w) (q : Nat) : SI W o b n S P2 c2 n2 l2 (w.drewN q) := h.later (below_drewN w q)
theorem SI.go (h : SI W o b n S P2 c2 n2 l2 w) (r : SR W o b n' S' [] v w e w') : SI W o b n' S' P2 c2 n2 l2 w' := ⟨r.2.1, r.2.2.row h.row (by decide) (by decide)⟩
theorem SI.len (h : SI W o b n S P2 c2 n2 l2 w) : l2.length = n2 := by have := h.row.1; rw [nV_len] at this; omega
theorem SI.at (h : SI W o b n S P2 c2 n2 l2 w) {j : Nat} {y : Int} (hy : l2[j]? = some y) : ∃ g, P2 = some ⟨g, 0, none⟩ ∧ g < w.heap.size ∧ w.cell? ⟨g, j, none⟩ = some (.int .i64 y) := by
  have hj := at_lt hy
  rw [h.len] at hj
  obtain ⟨g, rfl, hc⟩ := row_form h.row (by omega)
  exact ⟨g, rfl, (row_lt h.row rfl).2, by rw [h.row.cellAt j (by omega)]; exact nV_at hy⟩
theorem st_app {B : Nat} {P : Option Addr} {c m : Nat} {xs : List Value} (h : ST W o b n S [] w) (hx : Below w.heap.size w wx) (hr : w.ownsRow W.heap.size 3 1 (.slice P m c) m xs) (hg : wx.grownBy w1 (Value.slice P m c).ownBlock) : ST W o b n S [] w1 := by
  rw [own_blk] at hg
  refine (h.later hx).grew hg fun k hk => ⟨(row_lt hr hk).1, ?_⟩
  obtain ⟨cs, fr, ht⟩ := row_tag (row_later hr hx) hk
  exact ⟨cs, 3, fr, ht, by decide, by decide⟩
theorem SI.app (h : SI W o b n S P2 c2 n2 l2 w) (hx : Below w.heap.size w wx) (hown : w1.ownsRow W.heap.size 3 1 (.slice (some ⟨g, 0, none⟩) (n2 + 1) cap) (n2 + 1) (nV l2 ++ [.int .i64 x])) (hg : wx.grownBy w1 (Value.slice P2 n2 c2).ownBlock) :
    SI W o b n S (some ⟨g, 0, none⟩) cap (n2 + 1) (l2 ++ [x]) w1 := ⟨st_app (B := 0) h.st hx h.row hg, by rw [← nV_snoc]; exact hown⟩
theorem SI.start (h : ST W o b n S [] w) : SI W o b n S none 0 0 [] w := ⟨h, World.ownsRow_nil _ _ _ _⟩
theorem SJ.start (h : SI W o b n S P2 c2 n2 l2 w) : SJ W o b n S P2 c2 n2 l2 none 0 0 [] w := ⟨h, World.ownsRow_nil _ _ _ _, fun k hk => by cases hk⟩
theorem SJ.last (h : SJ W o b n S P2 c2 n2 l2 P3 c3 n3 l3 w) : SI W o b n S P3 c3 n3 l3 w := ⟨h.a.st, h.row3⟩
theorem SJ.app (h : SJ W o b n S P2 c2 n2 l2 P3 c3 n3 l3 w) (hx : Below w.heap.size w wx) (hown : w1.ownsRow W.heap.size 3 1 (.slice (some ⟨g, 0, none⟩) (n3 + 1) cap) (n3 + 1) (nV l3 ++ [.int .i64 x])) (hg : wx.grownBy w1 (Value.slice P3 n3 c3).ownBlock) (hat : (Value.slice P3 n3 c3).ownBlock = some g ∨ w.heap.size ≤ g) :
    SJ W o b n S P2 c2 n2 l2 (some ⟨g, 0, none⟩) cap (n3 + 1) (l3 ++ [x]) w1 := by
  have st1 := st_app (B := 0) h.a.st hx h.row3 hg
  rw [own_blk] at hat hg
  refine ⟨⟨st1, row_keep h.a.row fun k hk => ?_⟩, by rw [← nV_snoc]; exact hown, ?_⟩
  · have h9 := (row_lt h.a.row hk).2
    have hs := hx.size
    exact (hg.block k (by omega) (fun e => h.ap k e.symm hk)).trans (hx.block k h9)
  · intro k hk
    injection hk with hk; subst hk
    rcases hat with h1 | h1
    · exact h.ap g h1
    · intro e
      have h9 : g < w.heap.size := (row_lt h.a.row e).2
      omega
end
/-! All of one time. -/
def One (t : Int) (S : List It) : Prop := ∀ x ∈ S, x.w = t
theorem ins_one {t : Int} {x : It} : ∀ {S : List It}, One t S → x.w = t → ins x S = S ++ [x]
  | [], _, _ => rfl
  | y :: S, h, e => by
    have hy := h y (by simp)
    have : ¬ x.w < y.w := by omega
    rw [ins, if_neg this, ins_one (fun z hz => h z (by simp [hz])) e]; rfl
theorem One.ins {t : Int} {x : It} {S : List It} (h : One t S) (e : x.w = t) : One t (ins x S) := fun y hy => by
  rcases ins_mem.1 hy with rfl | h1
  · exact e
  · exact h y h1
theorem One.del {t k : Int} {S : List It} (h : One t S) : One t (del k S) := fun y hy => h y (del_mem.1 hy).1
/-- Those that are not x. -/
def fl (x : Int) (l : List Int) : List Int := l.filter fun y => !(y == x)
theorem fl_yes {x y : Int} (l : List Int) (h : y ≠ x) : fl x (l ++ [y]) = fl x l ++ [y] := by simp [fl, List.filter_append, h]
theorem fl_no {x : Int} (l : List Int) : fl x (l ++ [x]) = fl x l := by simp [fl, List.filter_append]
theorem ids_fl (k : Int) (S : List It) : ids (del k S) = fl k (ids S) := by
  rw [ids_del]; unfold fl; congr 1; funext y
  by_cases e : y = k <;> simp [e]
theorem take_one {l : List Int} {q : Nat} {y : Int} (h : l[q]? = some y) : l.take (q + 1) = l.take q ++ [y] := by
  rw [List.take_add_one, h]; rfl
/-- The first numbers, each once. -/
def Full (n : Nat) (l : List Int) : Prop := ∀ j : Int, j ∈ l ↔ 0 ≤ j ∧ j < n
theorem ids_snoc (S : List It) (x : It) : ids (S ++ [x]) = ids S ++ [x.id] := by simp [ids]
theorem Full.move {n : Nat} {l : List Int} {k : Int} (h : Full n l) (hk : 0 ≤ k ∧ k < n) : Full n (fl k l ++ [k]) := fun j => by
  simp only [fl, List.mem_append, List.mem_filter, List.mem_singleton]
  constructor
  · rintro (⟨h1, _⟩ | rfl)
    · exact (h j).1 h1
    · exact hk
  · intro h1
    by_cases e : j = k
    · exact .inr e
    · exact .inl ⟨(h j).2 h1, by simp [e]⟩
theorem Full.snoc {n : Nat} {l : List Int} (h : Full n l) : Full (n + 1) (l ++ [(n : Int)]) := fun j => by
  simp only [List.mem_append, List.mem_singleton]
  rw [h j]; omega
theorem Full.nil : Full 0 [] := fun j => by simp <;> omega
end Go.Proofs.Ytcfdfepndjkllaa
