/- A row of cases that a law makes, beside channels. Conditions: each theorem's own premises. -/
import Derived.Test.YtmcacmbllpphiaaZs
namespace Go.Proofs.Ytmcacmbllpphiaa
open Go.RowKit
set_option linter.unusedVariables false
/-- Channels, and a row of cases of the law's own. -/
structure RZ (W : World) (B : List Nat) (S : List CS) (v : Value) (l : List Ca) (w : World) : Prop where
  zs : ZS W B S w
  row : w.ownsRow W.heap.size 65 3 v l.length (caF B l)
section
variable {W w w' : World} {B : List Nat} {S S' : List CS} {v v' : Value} {l l' : List Ca}
theorem ZS.grow {base e sz n : Nat} {u : Value} {xs : List Value} (h : ZS W B S w) (ho : w.ownsRow base e sz u n xs) (hb : W.heap.size ≤ base) (he : Oth e) (hg : w.grownBy w' u.ownBlock) : ZS W B S w' := by
  obtain ⟨F, h⟩ := h
  have hB : Below W.heap.size W w' := below_app h.bel hb h.bel.size ho hg
  obtain ⟨G, g1, g2, g3, g4⟩ := h.ch
  refine ⟨F, hB, h.low, ⟨G, fun i c s e1 e2 => ?_, g2, g3, g4⟩, h.eb, rfl, fun i m t h => by simp at h, List.nodup_nil⟩
  have hd := g1 i c s e1 e2
  refine hd.keep fun b hb => hg.block b (hd.lt hb) fun e9 => ?_
  obtain ⟨cs, h8⟩ := own_tg ho e9.symm
  exact not_isc h8 ⟨he.1, he.2.1, he.2.2.1, he.2.2.2.1⟩ (hd.tag hb)
theorem RZ.later (h : RZ W B S v l w) (hb : Below w.heap.size w w') : RZ W B S v l w' := ⟨h.zs.later hb, own_kept h.row fun b e => hb.block b (h.row.lt b e).2⟩
theorem RZ.to (h : RZ W B S v l w) (z : ZS W B S' w') (k : Ko w w') : RZ W B S' v l w' := ⟨z, own_kept h.row fun b e => by
  obtain ⟨cs, h8⟩ := own_tg h.row e
  exact (k.2 _ _ _ _ h8 o65).trans h8.symm⟩
theorem RZ.grow (h : RZ W B S v l w) (hg : w.grownBy w' v.ownBlock) (row : w'.ownsRow W.heap.size 65 3 v' l'.length (caF B l')) : RZ W B S v' l' w' := ⟨h.zs.grow h.row (Nat.le_refl _) o65 hg, row⟩
theorem RZ.rd (h : RZ W B S v l w) : ∃ A cap, v = .slice A l.length cap ∧ RdX 65 B w A l.length l := RdX.of_own rfl h.row
theorem RZ.size (h : RZ W B S v l w) : W.heap.size ≤ w.heap.size := h.zs.bel.size
/-- More channels. -/
theorem RZ.more {B' : List Nat} (h : RZ W B S v l w) (z : ZS W B' S' w') (k : Ko w w') (hp : ∀ x ∈ l, ptr B' x = ptr B x) : RZ W B' S' v l w' := ⟨z, by
  have e : caF B' l = caF B l := by
    unfold caF
    simp only [List.flatMap]
    congr 1
    exact List.map_congr_left fun x hx => by simp only [caV, hp x hx]
  rw [e]
  exact own_kept h.row fun b e => by
    obtain ⟨cs, h8⟩ := own_tg h.row e
    exact (k.2 _ _ _ _ h8 o65).trans h8.symm⟩
end
/-- One case in a new block. -/
theorem Rd.ca (w : World) (B : List Nat) (x : Ca) (N : Nat) (h : N = w.heap.size) : Rd (w.alloc (.cells (caA B x) 65)) (w.alloc (.cells (caA B x) 65)).heap.size (some ⟨N, 0, none⟩) 1 3 (caF B [x]) := by
  subst h
  exact Rd.new w (caA B x) 1 3 65 rfl
end Go.Proofs.Ytmcacmbllpphiaa
