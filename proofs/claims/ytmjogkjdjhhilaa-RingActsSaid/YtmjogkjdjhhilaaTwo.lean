/- Two rings side by side; slices of numbers that came in. No condition. -/
import Derived.Test.YtmjogkjdjhhilaaNnW
namespace Go.Proofs.Ytmjogkjdjhhilaa
open Go.RowKit
set_option linter.unusedVariables false

/-- Two rings of the call's own, of one size, hold la and lb; nothing that was there has turned. -/
structure S2 (W : World) (a p b q sz : Nat) (la lb : List Int) (w : World) : Prop where
  bel : Below W.heap.size W w
  ga : W.heap.size ≤ a
  gp : W.heap.size ≤ p
  gb : W.heap.size ≤ b
  gq : W.heap.size ≤ q
  ne : a ≠ b ∧ a ≠ q ∧ p ≠ b ∧ p ≠ q
  ra : RG w a p sz la
  rb : RG w b q sz lb
section
variable {W w w' : World} {a p b q sz : Nat} {la lb l' : List Int}
theorem S2.goA (h : S2 W a p b q sz la lb w) (r : RG w' a p sz l') (o : Only a p w w') : S2 W a p b q sz l' lb w' :=
  ⟨h.bel.trans (o.below h.ga h.gp), h.ga, h.gp, h.gb, h.gq, h.ne, r, h.rb.other o h.ne.1.symm h.ne.2.2.1.symm h.ne.2.1.symm h.ne.2.2.2.symm⟩
theorem S2.goB (h : S2 W a p b q sz la lb w) (r : RG w' b q sz l') (o : Only b q w w') : S2 W a p b q sz la l' w' :=
  ⟨h.bel.trans (o.below h.gb h.gq), h.ga, h.gp, h.gb, h.gq, h.ne, h.ra.other o h.ne.1 h.ne.2.1 h.ne.2.2.1 h.ne.2.2.2, r⟩
theorem S2.later (h : S2 W a p b q sz la lb w) (hb : Below w.heap.size w w') : S2 W a p b q sz la lb w' := ⟨h.bel.trans (hb.mono h.bel.size), h.ga, h.gp, h.gb, h.gq, h.ne, h.ra.later hb, h.rb.later hb⟩
theorem S2.drew (h : S2 W a p b q sz la lb w) : S2 W a p b q sz la lb w.drew := ⟨h.bel.drew, h.ga, h.gp, h.gb, h.gq, h.ne, h.ra.keep rfl rfl, h.rb.keep rfl rfl⟩
end
theorem S2.start {n : Nat} {W w1 w2 : World} {e e' : Ending} (h : NewR n W e w1) (k : NewR n w1 e' w2) : S2 W (W.heap.size + 1) W.heap.size (W.heap.size + 3) (W.heap.size + 2) n [] [] w2 := by
  obtain ⟨_, h1, h2, h3⟩ := h
  obtain ⟨_, k1, k2, k3⟩ := k
  rw [h3] at k1
  exact ⟨h2.trans (k2.mono h2.size), by omega, by omega, by omega, by omega, ⟨by omega, by omega, by omega, by omega⟩, h1.later k2, k1⟩

theorem row_at {k : IntKind} {w : World} {x : Addr} {zs : List Int} (hcell : ∀ i, i < zs.length → w.cell? (x.add i) = some (.int k (zs.getD i 0))) (h0 : 0 < zs.length) :
    ∃ b off, x = ⟨b, off, none⟩ ∧ b < w.heap.size ∧ ∀ i, i < zs.length → w.cell? ⟨b, off + i, none⟩ = some (.int k (zs.getD i 0)) := by
  have hc := hcell 0 h0
  obtain ⟨b, off, spot⟩ := x
  have hspot : spot = none := by simpa [Addr.add] using World.cell?_spot hc
  subst hspot
  have e : ∀ i, (⟨b, off, none⟩ : Addr).add i = ⟨b, off + i, none⟩ := by
    intro i; unfold Addr.add
    by_cases h : i = 0
    · subst h; simp
    · simp [h]
  exact ⟨b, off, rfl, by simpa [e] using World.block_lt_of_cell? _ _ hc, fun i hi => by rw [← e]; exact hcell i hi⟩
/-- A slice that came in reads as its first elements. -/
theorem rn_of {w : World} {a : Option Addr} {len cap : Nat} {zs : List Int}
    (h : (a = none ∧ len = 0 ∧ cap = 0 ∧ zs = []) ∨ ∃ x, a = some x ∧ len ≤ cap ∧ cap ≤ maxLen ∧ zs.length = cap ∧ (∀ i, i < zs.length → w.cell? (x.add i) = some (.int .i64 (zs.getD i 0))) ∧ ∀ n ∈ zs, (Lit.int .i64 n).wf = true) : Rn w w.heap.size a len (zs.take len) := by
  rcases h with ⟨rfl, rfl, rfl, rfl⟩ | ⟨x, rfl, h1, h2, h3, h4, _⟩
  · exact Rn.nil _ _ _
  · refine ⟨by rw [List.length_take]; omega, fun h0 => ?_⟩
    obtain ⟨b, off, rfl, hb, hc⟩ := row_at h4 (by omega)
    refine ⟨b, off, rfl, hb, fun j y hy => ?_⟩
    have hj : j < (zs.take len).length := (List.getElem?_eq_some_iff.1 hy).1
    rw [List.length_take] at hj
    rw [hc j (by omega)]
    rw [List.getElem?_take, if_pos (by omega)] at hy
    simp [List.getD_eq_getElem?_getD, hy]
/-- Its element k, later on. -/
theorem Rn.cell {W w : World} {A : Option Addr} {n k : Nat} {l : List Int} (h : Rn W W.heap.size A n l) (hb : Below W.heap.size W w) (hk : k < n) : ∃ b off x, A = some ⟨b, off, none⟩ ∧ b < W.heap.size ∧ l[k]? = some x ∧ w.cell? ⟨b, off + k, none⟩ = some (.int .i64 x) := by
  obtain ⟨b, off, e, h1, h2⟩ := h.2 (by omega)
  have hx : l[k]? = some (l[k]'(by rw [h.1]; exact hk)) := List.getElem?_eq_getElem _
  exact ⟨b, off, _, e, h1, hx, (cell_blk (hb.block b h1) _).trans (h2 k _ hx)⟩

/-- Pushed where there is room. -/
def psh (sz : Nat) (l : List Int) (v : Int) : List Int := if l.length < sz then l ++ [v] else l
theorem push_any {a p sz : Nat} {l : List Int} (v : Int) (w : World) (t : Bool) (ht : Hid (t = decide (l.length < sz))) (h : RG w a p sz l) (hz : sz ≤ 64) : Calls Try.prog 11 #[.pointer (some ⟨a, 0, none⟩), .int .i64 v] w (PushR a p sz (psh sz l v) t w) := by
  by_cases hl : l.length < sz
  · have e : t = true := by rw [ht.out]; simpa using hl
    subst e
    rw [psh, if_pos hl]
    exact push_room v w h hz hl
  · have e : t = false := by rw [ht.out]; simpa using hl
    subst e
    rw [psh, if_neg hl]
    exact push_full v w h (by have := h.le; omega)
end Go.Proofs.Ytmjogkjdjhhilaa
