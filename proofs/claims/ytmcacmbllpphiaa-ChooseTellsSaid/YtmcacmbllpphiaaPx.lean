/- The document's own channels, with blocks that a call keeps apart. No condition. -/
import Derived.Test.YtmcacmbllpphiaaLk
import Derived.Test.YtmcacmbllpphiaaMw
namespace Go.Proofs.Ytmcacmbllpphiaa
open Go.RowKit
set_option linter.unusedVariables false

/-- As PC; none of the document's own lies in the blocks X. -/
structure PX (W : World) (B : List Nat) (S : List CS) (C : List Nat) (T : List CS) (F : Nat → Prop) (X : List Nat) (w : World) : Prop where
  pc : PC W B S C T F w
  low : ∀ b ∈ X, ¬ F b ∧ b ∉ C ∧ b < w.heap.size
  md : ∀ (i m : Nat) (t : CS), C[i]? = some m → T[i]? = some t → MD w (fun b => ¬ F b ∧ b ∉ C ∧ b ∉ X) m t
section
variable {W w w' : World} {B C : List Nat} {S T : List CS} {F : Nat → Prop} {X : List Nat} {i m : Nat} {t : CS}
theorem PX.start (h : PC W B S C T F w) : PX W B S C T F [] w := ⟨h, fun b hb => by simp at hb, fun i m t e1 e2 => (h.md i m t e1 e2).2.mono (fun b _ ho => ⟨ho.1, ho.2, by simp⟩) (fun h9 => h9.2.1 (List.mem_of_getElem? e1))⟩
theorem PX.later (h : PX W B S C T F X w) (hb : Below w.heap.size w w') : PX W B S C T F X w' :=
  ⟨h.pc.later hb, fun b hx => ⟨(h.low b hx).1, (h.low b hx).2.1, by have := (h.low b hx).2.2; have := hb.size; omega⟩, fun i m t e1 e2 => (h.md i m t e1 e2).later hb⟩
/-- One more, new. -/
theorem PX.add (h : PX W B S C T F X w) (o : Obj) : PX W B S C T F (w.heap.size :: X) (w.alloc o) := by
  have hb := below_al w o
  refine ⟨h.pc.later hb, fun b hx => ?_, fun i m t e1 e2 => ?_⟩
  · rcases List.mem_cons.1 hx with rfl | hx
    · exact ⟨fun hf => by have := h.pc.lt hf; omega, fun hc => by obtain ⟨cs, h9⟩ := h.pc.cblk hc; have := lt_of_blk h9; omega, by simp⟩
    · exact ⟨(h.low b hx).1, (h.low b hx).2.1, by have := (h.low b hx).2.2; have := hb.size; omega⟩
  · have hmc := List.mem_of_getElem? e1
    refine ((h.md i m t e1 e2).mono (fun b hbl ho => ⟨ho.1, ho.2.1, fun hx => ?_⟩) (fun h9 => h9.2.1 hmc)).later hb
    rcases List.mem_cons.1 hx with rfl | hx
    · omega
    · exact ho.2.2 hx
theorem PX.model (h : PX W B S C T F X w) (hb : C[i]? = some m) (hi : T[i]? = some t) : ∃ ok, MD w ok m t ∧ ∀ t' w', Mo ok m t' w w' → PX W B S C (T.set i t') F X w' ∧ Kf F C w w' := by
  have hbel := h.pc.bel
  obtain ⟨hm0, hmd0⟩ := h.pc.md i m t hb hi
  have hmd := h.md i m t hb hi
  have hmc : m ∈ C := List.mem_of_getElem? hb
  refine ⟨_, hmd, fun t' w' ⟨g, tn⟩ => ?_⟩
  have hbl : Below W.heap.size W w' := hbel.trans (tn.below hbel.size fun b hb => by rw [hb]; exact hm0)
  obtain ⟨G, g1, g2, g3, g4⟩ := h.pc.ch
  have hnm : ∀ b, F b → b ≠ m := fun b hf e => h.pc.nf hmc (e ▸ hf)
  have key : ∀ (j n : Nat) (u : CS), C[j]? = some n → (T.set i t')[j]? = some u → MD w' (fun b => ¬ F b ∧ b ∉ C ∧ b ∉ X) n u := by
    intro j n u hj hu
    rw [set_at hi] at hu
    have hjc : n ∈ C := List.mem_of_getElem? hj
    by_cases e : j = i
    · subst e
      rw [if_pos rfl] at hu
      cases hu
      rw [hb] at hj
      cases hj
      refine g.mono (fun b _ ho => ?_) (fun h9 => h9.2.1 hmc)
      rcases ho with ho | ho
      · exact ho
      · refine ⟨fun hf => by have := h.pc.lt hf; omega, fun hbc => ?_, fun hx => by have := (h.low b hx).2.2; omega⟩
        obtain ⟨cs, h9⟩ := h.pc.cblk hbc
        have := lt_of_blk h9; omega
    · rw [if_neg e] at hu
      have h2 := h.md j n u hj hu
      have hne : n ≠ m := fun e9 => e (by
        subst e9
        have q1 := (List.getElem?_eq_some_iff.1 hj)
        have q2 := (List.getElem?_eq_some_iff.1 hb)
        exact (List.getElem_inj h.pc.nc).1 (q1.2.trans q2.2.symm))
      exact h2.keep tn.size (tn.block n h2.lt hne) fun b hb ho => tn.block b hb fun e9 => ho.2.1 (by rw [e9]; exact hmc)
  refine ⟨⟨⟨hbl, h.pc.low, ⟨G, fun j c s h1 h2 => ?_, g2, g3, g4⟩, h.pc.eb, by rw [List.length_set]; exact h.pc.ec, fun j n u hj hu => ?_, h.pc.nc⟩, fun b hx => ⟨(h.low b hx).1, (h.low b hx).2.1, by have := (h.low b hx).2.2; have := tn.size; omega⟩, key⟩, ⟨tn.size, fun k hk hn hc => tn.block k hk fun e => hc (by rw [e]; exact hmc)⟩⟩
  · have hd := g1 j c s h1 h2
    exact hd.keep fun b hf => tn.block b (hd.lt hf) (hnm b (g2 j b hf).1)
  · refine ⟨?_, (key j n u hj hu).mono (fun b _ ho => ⟨ho.1, ho.2.1⟩) (fun h9 => h9.2 (List.mem_of_getElem? hj))⟩
    obtain ⟨u', hu'⟩ := get_len hj h.pc.ec
    exact (h.pc.md j n u' hj hu').1
/-- A block that is kept apart is written. -/
theorem PX.set {g k : Nat} (h : PX W B S C T F X w) (hg : g ∈ X) (hW : W.heap.size ≤ g) (v : Value) : PX W B S C T F X (w.setCell ⟨g, k, none⟩ v) := by
  obtain ⟨l1, l2, l3⟩ := h.low g hg
  have hb := h.pc.bel
  obtain ⟨G, g1, g2, g3, g4⟩ := h.pc.ch
  have hne : ∀ b, b ≠ g → (w.setCell ⟨g, k, none⟩ v).heap[b]? = w.heap[b]? := fun b e => Below.heap_setCell _ _ _ _ e
  have key : ∀ (j n : Nat) (u : CS), C[j]? = some n → T[j]? = some u → MD (w.setCell ⟨g, k, none⟩ v) (fun b => ¬ F b ∧ b ∉ C ∧ b ∉ X) n u := by
    intro j n u hj hu
    have h2 := h.md j n u hj hu
    exact h2.keep (by rw [size_set]; exact Nat.le_refl _) (hne n fun e => l2 (e ▸ List.mem_of_getElem? hj)) fun b _ ho => hne b fun e => ho.2.2 (e ▸ hg)
  refine ⟨⟨⟨hb.os, hb.tape, hb.output, by rw [size_set]; exact hb.size, fun b hk => (hne b (by omega)).trans (hb.block b hk)⟩, h.pc.low, ⟨G, fun j c s h1 h2 => ?_, g2, g3, g4⟩, h.pc.eb, h.pc.ec, fun j n u hj hu => ?_, h.pc.nc⟩, fun b hx => ⟨(h.low b hx).1, (h.low b hx).2.1, by rw [size_set]; exact (h.low b hx).2.2⟩, key⟩
  · have hd := g1 j c s h1 h2
    exact hd.keep fun b hf => hne b fun e => l1 (e ▸ (g2 j b hf).1)
  · exact ⟨(h.pc.md j n u hj hu).1, (key j n u hj hu).mono (fun b _ ho => ⟨ho.1, ho.2.1⟩) (fun h9 => h9.2 (List.mem_of_getElem? hj))⟩
theorem PX.nil (h : PC W B S C T F w) : PX W B S C T F [] w := PX.start h
/-- Another block stays. -/
theorem PX.row (h : PX W B S C T F X w) (k : Kf F C w w') {b : Nat} {cs : Array Value} {t : TypeId} {f : Nat × Nat} (hb : w.heap[b]? = some (.cells cs t f)) (ht : Oth t) : w'.heap[b]? = some (.cells cs t f) := h.pc.row k hb ht
/-- Can, on the document's own. -/
theorem px_can (x : Ca) (h : PC W B S C T F w) (hk : ∀ t ∈ T, t.kd ≤ 2) : Calls Try.prog 46 #[.pointer (ptr C x), .bool x.s] w fun e w' => e = .returned (.bool (canO T x)) ∧ ∃ n, w' = w.drewN n := by
  rcases h.caseM x with ⟨h1, h2⟩ | ⟨j, c, s, _, hb, hs, h1, h2⟩
  · rw [h1, show canO T x = false by unfold canO; rw [h2]]
    go_enter Try.func46, Try.ntmps46
    go_wp2
    go_ret
    exact ⟨rfl, 0, rfl⟩
  · rw [h1, show canO T x = can s x.s by unfold canO; rw [h2]]
    obtain ⟨_, hmd⟩ := h.md j c s hb hs
    exact mcan x.s hmd (hk s (List.mem_of_getElem? hs))
end
end Go.Proofs.Ytmcacmbllpphiaa
