/- A block of the call's own: its cells, and how it carries. No condition. -/
import Derived.Test.YtbefcakakoaieaaFo
namespace Go.Proofs.Ytbefcakakoaieaa
open Go.RowKit

/-- Block K is a row of m cells or more, none frozen. -/
def Own (w : World) (K m : Nat) : Prop := ∃ (cur : Array Value) (e : TypeId), w.heap[K]? = some (.cells cur e (0, 0)) ∧ m ≤ cur.size
theorem Own.lt {w : World} {K m : Nat} (h : Own w K m) : K < w.heap.size := by
  obtain ⟨cur, e, h, _⟩ := h
  exact (Array.getElem?_eq_some_iff.1 h).1
theorem Own.cell {w : World} {K m : Nat} (h : Own w K m) (j : Nat) (hj : j < m) : ∃ v, w.cell? ⟨K, j, none⟩ = some v := by
  obtain ⟨cur, e, h, hm⟩ := h
  exact ⟨cur[j]'(by omega), by rw [cell_of_row w K j cur e (0, 0) h]; exact Array.getElem?_eq_getElem (by omega)⟩
theorem Own.frz {w : World} {K m : Nat} (h : Own w K m) (j : Nat) : w.frozen? ⟨K, j, none⟩ = false := by
  obtain ⟨cur, e, h, hm⟩ := h
  exact frozen_of_row w K j cur e h
theorem Own.set {w : World} {K m : Nat} (h : Own w K m) (j : Nat) (u : Value) : Own (w.setCell ⟨K, j, none⟩ u) K m := by
  obtain ⟨cur, e, h, hm⟩ := h
  exact ⟨cur.setIfInBounds j u, e, heap_setCell_same w K j cur e u h, by simpa using hm⟩
theorem Own.eq {w w' : World} {K m : Nat} (h : Own w K m) (he : w'.heap[K]? = w.heap[K]?) : Own w' K m := by
  obtain ⟨cur, e, h, hm⟩ := h
  exact ⟨cur, e, by rw [he]; exact h, hm⟩
theorem Own.below {w w' : World} {K m : Nat} (h : Own w K m) (hb : Below w.heap.size w w') : Own w' K m := h.eq (hb.block K h.lt)
theorem Own.of_row {w : World} {base : Nat} {e : TypeId} {size K n cap : Nat} {xs : List Value} (h : w.ownsRow base e size (.slice (some ⟨K, 0, none⟩) n cap) n xs) : Own w K (n * size) := by
  rcases h.2 with ⟨h', _⟩ | ⟨g', cap', cur, h', _, hg, hc, _, hs, htake⟩
  · simp at h'
  · simp only [Value.slice.injEq, Option.some.injEq, Addr.mk.injEq, and_true, true_and] at h'
    obtain ⟨rfl, rfl⟩ := h'
    exact ⟨cur, e, hg, by rw [hs]; exact Nat.mul_le_mul_right _ hc⟩
theorem below_grown {w w' : World} (h : w.grownBy w' none) : Below w.heap.size w w' := (Below.refl _ _).grown h (Nat.le_refl _) (fun k hk => by cases hk)

theorem cell_set_same {w : World} {K m j : Nat} {u : Value} (h : Own w K m) (hj : j < m) : (w.setCell ⟨K, j, none⟩ u).cell? ⟨K, j, none⟩ = some u := by
  obtain ⟨v, hv⟩ := h.cell j hj
  exact World.cell?_setCell_same _ _ _ hv
theorem cell_set_other {w : World} {K j b i : Nat} {u : Value} (h : K ≠ b ∨ j ≠ i) : (w.setCell ⟨K, j, none⟩ u).cell? ⟨b, i, none⟩ = w.cell? ⟨b, i, none⟩ :=
  World.cell?_setCell_other _ _ _ _ (by intro e; injection e with e1 e2; omega)
theorem heap_set_other {w : World} {K j b : Nat} {u : Value} (h : b ≠ K) : (w.setCell ⟨K, j, none⟩ u).heap[b]? = w.heap[b]? := Below.heap_setCell _ _ _ _ h
theorem size_set (w : World) (a : Addr) (u : Value) : (w.setCell a u).heap.size = w.heap.size := by simp [World.setCell]

theorem below_al (w : World) (o : Obj) : Below w.heap.size w (w.alloc o) := (Below.refl _ _).alloc (Nat.le_refl _) _
theorem size_al (w : World) (o : Obj) : (w.alloc o).heap.size = w.heap.size + 1 := by simp

/-- One more error in a row of the call's own. -/
theorem step_err {wr w' : World} {K n k : Nat} {P : Fo} {o : Obj} {c : Int} {op : ByteArray} {ks : Fo} {v : Value}
    (hO : Own wr K n) (hP : ERow wr (Btw (K + 1) wr.heap.size) P K 0) (hk : P.len = k) (hkn : k < n)
    (hb : Below (wr.alloc o).heap.size (wr.alloc o) w') (hE : EIs w' (Btw (wr.alloc o).heap.size w'.heap.size) c op ks v) :
    Below K wr (w'.setCell ⟨K, k, none⟩ v) ∧ Own (w'.setCell ⟨K, k, none⟩ v) K n ∧
      ERow (w'.setCell ⟨K, k, none⟩ v) (Btw (K + 1) (w'.setCell ⟨K, k, none⟩ v).heap.size) (P.app (.cons c op ks .nil)) K 0 := by
  have hKs := hO.lt
  have hb2 : Below wr.heap.size wr w' := (below_al wr o).trans (hb.mono (by simp))
  have hO2 : Own w' K n := hO.below hb2
  have hsz := hb2.size
  refine ⟨(hb2.mono (B' := K) (by omega)).setCell (p := ⟨K, k, none⟩) (Nat.le_refl _) _, hO2.set _ _, ?_⟩
  rw [size_set]
  refine ERow.snoc P 0 (ERow.agr (S := Btw (K + 1) wr.heap.size) (W := wr) ?_ ?_ P K 0 ?_ hP) ?_
  · intro b hB
    rw [heap_set_other (by have := hB.1; omega)]; exact hb2.block b hB.2
  · intro b hB; exact ⟨hB.1, by have := hB.2; omega⟩
  · intro i hi
    rw [cell_set_other (.inr (by omega))]; exact cell_blk (hb2.block K hKs) _
  · refine ⟨⟨v, ?_, ?_⟩, trivial⟩
    · rw [Nat.zero_add, hk]; exact cell_set_same hO2 hkn
    · refine EIs.agr (W := w') hE ?_ ?_
      · intro b hB; exact heap_set_other (by have := hB.1; simp at this; omega)
      · intro b hB; exact ⟨by have := hB.1; simp at this; omega, hB.2⟩

theorem EIs.made {w : World} {S : Nat → Prop} {c : Int} {op : ByteArray} {ks : Fo} {v : Value} (h : EIs w S c op ks v) (hok : okF (.cons c op ks .nil)) : ∃ T u, v = .iface T u := by
  rcases h with ⟨_, _, _, h⟩ | ⟨_, g, h, _⟩ | ⟨h1, h2, h3, _⟩
  · exact ⟨_, _, h⟩
  · exact ⟨_, _, h⟩
  · rcases hok.1 with ⟨h4, _⟩ | ⟨_, h5, _⟩
    · omega
    · exact absurd h2 h5

/-- A row of kids lies where a group names it. -/
theorem grp_mk {w : World} {S : Nat → Prop} {g K n cap : Nat} {op : ByteArray} {ks : Fo} (hg : S g) (hK : S K) (h0 : w.cell? ⟨g, 0, none⟩ = some (.string op)) (h1 : w.cell? ⟨g, 1, none⟩ = some (.slice (some ⟨K, 0, none⟩) n cap))
    (hn : n = ks.len) (hc : n ≤ cap) (hn2 : n < 4611686018427387904) (hR : ERow w S ks K 0) : EIs w S 0 op ks (.iface 63 (.pointer (some ⟨g, 0, none⟩))) := by
  subst hn
  exact .inr (.inl ⟨rfl, g, rfl, hg, h0, _, cap, h1, hc, hn2, K, 0, fun _ => ⟨rfl, hK⟩, hR⟩)
end Go.Proofs.Ytbefcakakoaieaa
