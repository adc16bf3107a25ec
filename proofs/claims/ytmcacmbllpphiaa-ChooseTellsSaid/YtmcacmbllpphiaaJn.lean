/- A channel, and the document's own beside it. Conditions: each theorem's own premises. -/
import Derived.Test.YtmcacmbllpphiaaMul
import Derived.Test.YtmcacmbllpphiaaMd
import Derived.Test.YtmcacmbllpphiaaWai
namespace Go.Proofs.Ytmcacmbllpphiaa
open Go.RowKit
set_option linter.unusedVariables false

/-- Block c is a channel that is s, block m the document's own that is t; they share nothing. -/
structure JS (W : World) (c m : Nat) (s t : CS) (w : World) : Prop where
  bel : Below W.heap.size W w
  ch : ∃ F, CH w F c s ∧ (∀ b, F b → W.heap.size ≤ b) ∧ W.heap.size ≤ m ∧ MD w (fun b => W.heap.size ≤ b ∧ ¬ F b ∧ b ≠ m) m t
/-- Nothing has turned but channels' blocks, block m, and new ones. -/
def Km (m : Nat) (w w' : World) : Prop := (∃ cs, w.heap[m]? = some (.cells cs 81 (0, 0))) ∧ w.heap.size ≤ w'.heap.size ∧ ∀ k, k < w.heap.size → ¬ IsC w k → k ≠ m → w'.heap[k]? = w.heap[k]?
theorem Km.at {m : Nat} {w w' : World} (h : Km m w w') {k : Nat} {cs : Array Value} {t : TypeId} {f : Nat × Nat} (hk : w.heap[k]? = some (.cells cs t f)) (ht : t ≠ 113 ∧ t ≠ 129 ∧ t ≠ 3 ∧ t ≠ 132) (h9 : t ≠ 81) : w'.heap[k]? = some (.cells cs t f) := by
  obtain ⟨⟨ds, hm⟩, _, h1⟩ := h
  exact (h1 k (lt_of_blk hk) (not_isc hk ht) (tag_ne hk hm h9)).trans hk
theorem RdK.km {m : Nat} {w w' : World} {A : Option Addr} {n : Nat} {l : List Wk} (h : RdK w A n l) (k : Km m w w') : RdK w' A n l := h.keep fun b cs e => (k.at e (by decide) (by decide)).trans e.symm
section
variable {W w w' : World} {c m : Nat} {s t : CS}
theorem MD.blk {ok : Nat → Prop} (h : MD w ok m s) : ∃ cs, w.heap[m]? = some (.cells cs 81 (0, 0)) := by obtain ⟨b, q, r, hx⟩ := h; exact ⟨_, hx.hb⟩
theorem JS.blk (h : JS W c m s t w) : ∃ cs, w.heap[m]? = some (.cells cs 81 (0, 0)) := by obtain ⟨_, F, _, _, _, h1⟩ := h; exact h1.blk
theorem JS.chan (h : JS W c m s t w) : ∃ F, CH w F c s ∧ ∀ s' w', Go F c s' w w' → JS W c m s' t w' ∧ Km m w w' := by
  obtain ⟨h0, F, h1, h2, h3, h4⟩ := h
  have hnm : ¬ F m := fun hf => by
    obtain ⟨cs, hb⟩ := h4.blk
    exact not_isc hb (by decide) (h1.tag hf)
  refine ⟨F, h1, fun s' w' g => ⟨⟨h0.trans (g.below h0.size h2), ?_⟩, h4.blk, g.tn.size, fun k hk hn _ => g.other h1 hk hn⟩⟩
  obtain ⟨F', hc', hs, tn⟩ := g
  refine ⟨F', hc', fun b hb => ?_, h3, ?_⟩
  · rcases hs b hb with hf | hf
    · exact h2 b hf
    · have := h0.size; omega
  · have e1 : MD w (fun b => (W.heap.size ≤ b ∧ ¬ F b ∧ b ≠ m) ∧ (W.heap.size ≤ b ∧ ¬ F' b ∧ b ≠ m)) m t := h4.mono (fun b hb ho => ⟨ho, ho.1, fun hf => by
      rcases hs b hf with h9 | h9
      · exact ho.2.1 h9
      · omega, ho.2.2⟩) (fun h => h.1.2.2 rfl)
    exact (e1.keep tn.size (tn.block m h4.lt hnm) fun b hb ho => tn.block b hb ho.1.2.1).mono (fun b _ ho => ho.2) (fun h => h.2.2 rfl)
theorem JS.model (h : JS W c m s t w) : ∃ ok, MD w ok m t ∧ ∀ t' w', Mo ok m t' w w' → JS W c m s t' w' ∧ Km m w w' := by
  obtain ⟨h0, F, h1, h2, h3, h4⟩ := h
  have hnm : ¬ F m := fun hf => by
    obtain ⟨cs, hb⟩ := h4.blk
    exact not_isc hb (by decide) (h1.tag hf)
  refine ⟨_, h4, fun t' w' ⟨g, tn⟩ => ⟨⟨h0.trans (tn.below h0.size fun b hb => by rw [hb]; exact h3), F, h1.keep fun b hb => tn.block b (h1.lt hb) fun e => hnm (e ▸ hb), h2, h3, ?_⟩, h4.blk, tn.size, fun k hk _ hne => tn.block k hk hne⟩⟩
  refine g.mono (fun b _ ho => ?_) (fun h => h.2.2 rfl)
  rcases ho with ho | ho
  · exact ho
  · exact ⟨Nat.le_trans h0.size ho, fun hf => by have := h1.lt hf; omega, fun e => by have := h4.lt; omega⟩
theorem JS.later (h : JS W c m s t w) (hb : Below w.heap.size w w') : JS W c m s t w' := by
  obtain ⟨h0, F, h1, h2, h3, h4⟩ := h
  exact ⟨h0.trans (hb.mono h0.size), F, h1.later hb, h2, h3, h4.later hb⟩
theorem JS.draws (h : JS W c m s t w) (hh : w'.heap = w.heap) (h1 : w'.os = w.os) (h2 : w'.tape = w.tape) (h3 : w'.output = w.output) : JS W c m s t w' :=
  h.later ⟨h1, h2, h3, by rw [hh]; exact Nat.le_refl _, fun k _ => by rw [hh]⟩
theorem JS.km (h : JS W c m s t w) (hb : Below w.heap.size w w') : Km m w w' := ⟨h.blk, hb.size, fun k hk _ _ => hb.block k hk⟩
theorem JS.kd (h : JS W c m s t w) : s.kd ≤ 2 := by obtain ⟨_, F, h1, _⟩ := h; exact h1.kd
theorem JS.sz (h : JS W c m s t w) : s.sz ≤ 64 := by obtain ⟨_, F, h1, _⟩ := h; exact h1.sz
theorem JS.le (h : JS W c m s t w) : s.l.length ≤ s.sz := by obtain ⟨_, F, h1, _⟩ := h; exact h1.le
/-- Begun. -/
theorem JS.start {w1 w2 : World} (hb : Below W.heap.size W w) (k : Mk c s w w1) (hm : ∀ ok : Nat → Prop, ¬ ok m → MD w2 ok m t) (hb2 : Below w1.heap.size w1 w2) (h1 : w1.heap.size ≤ m) : JS W c m s t w2 := by
  obtain ⟨⟨F, hc, hF⟩, hbw, _⟩ := k
  have hsz := hb.size
  have hsz2 := hbw.size
  exact ⟨(hb.trans (hbw.mono hsz)).trans (hb2.mono (by omega)), F, hc.later hb2, fun b hf => by have := hF b hf; omega, by omega, hm _ fun h => h.2.2 rfl⟩
/-- How many wait. -/
def nw (s : CS) : Nat := s.ss.length + s.rs.length
theorem nw_gv (s : CS) (v : Int) : nw (gv s v).1 ≤ nw s := by
  unfold gv nw
  split
  · rename_i h; rw [h]; simp
  · split <;> simp
theorem nw_rc (s : CS) : nw (rc s).1 ≤ nw s := by
  unfold rc nw
  split <;> (rename_i h1 h2; simp [h2])
theorem nw_done (s : CS) : nw (done s) ≤ nw s := by unfold nw done; simp
theorem nw_gone (s : CS) (t : Int) : nw (gone s t) ≤ nw s := by
  unfold nw gone
  have h1 := List.length_filter_le (fun x => !isT t x) s.ss
  have h2 := List.length_filter_le (fun x => !isT t x) s.rs
  simp only
  omega
theorem nw_wt (s : CS) (x : Wt) (b : Bool) : nw (wt s x b).1 ≤ nw s + 1 := by
  unfold wt nw
  split
  · simp
  · split
    · simp
    · split
      · simp
      · cases b <;> simp [CS.sq, CS.q] <;> omega
end
end Go.Proofs.Ytmcacmbllpphiaa
