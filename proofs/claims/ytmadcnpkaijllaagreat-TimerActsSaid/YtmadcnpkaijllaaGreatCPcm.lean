/- Several channels, and the document's own beside them, in memory; what carries them. No condition.
The document's own channel: send, Send, Put. Conditions: each theorem's own premises.
The document's own channel: Remove, NewTimed; two rows of who is woken, alike. Conditions: each theorem's own premises. -/
import Derived.Test.YtmadcnpkaijllaaGreatCWaim
import Derived.Test.YtmadcnpkaijllaaGreatCRcvm
import Derived.IntWalk
namespace Go.Proofs.YtmadcnpkaijllaaGreat.Ch
open Go.RowKit
set_option linter.unusedVariables false
set_option maxRecDepth 100000

/-- In the blocks B are channels that are S, in the blocks C the document's own that are T; they share nothing; F are the channels' blocks. -/
structure PC (W : World) (B : List Nat) (S : List CS) (C : List Nat) (T : List CS) (F : Nat → Prop) (w : World) : Prop where
  bel : Below W.heap.size W w
  low : ∀ b, F b → W.heap.size ≤ b
  ch : ∃ G : Nat → Nat → Prop, (∀ (i c : Nat) (s : CS), B[i]? = some c → S[i]? = some s → CH w (G i) c s) ∧ (∀ i b, G i b → F b ∧ i < B.length) ∧ (∀ b, F b → ∃ i, G i b) ∧ ∀ i j b, G i b → G j b → i = j
  eb : B.length = S.length
  ec : C.length = T.length
  md : ∀ (i m : Nat) (t : CS), C[i]? = some m → T[i]? = some t → W.heap.size ≤ m ∧ MD w (fun b => ¬ F b ∧ b ∉ C) m t
  nc : C.Nodup
/-- Nothing has turned but the blocks of F, of C, and new ones. -/
def Kf (F : Nat → Prop) (C : List Nat) (w w' : World) : Prop := w.heap.size ≤ w'.heap.size ∧ ∀ k, k < w.heap.size → ¬ F k → k ∉ C → w'.heap[k]? = w.heap[k]?
/-- They have come to be S and T. -/
def PN (W : World) (B : List Nat) (S : List CS) (C : List Nat) (T : List CS) (F : Nat → Prop) (w w' : World) : Prop :=
  ∃ F', PC W B S C T F' w' ∧ (∀ b, F' b → F b ∨ w.heap.size ≤ b) ∧ Kf F C w w'
/-- Other blocks, by their tags. -/
def Oth (t : TypeId) : Prop := t ≠ 115 ∧ t ≠ 153 ∧ t ≠ 3 ∧ t ≠ 157 ∧ t ≠ 134
section
variable {W w w' w'' : World} {B C : List Nat} {S S' T T' : List CS} {F F' : Nat → Prop} {i c m : Nat} {s t : CS}
theorem get_len {α β : Type} {l : List α} {r : List β} {i : Nat} {x : α} (h : l[i]? = some x) (e : l.length = r.length) : ∃ y, r[i]? = some y :=
  ⟨r[i]'(by rw [← e]; exact (List.getElem?_eq_some_iff.1 h).1), List.getElem?_eq_getElem _⟩
theorem PC.isc (h : PC W B S C T F w) {k : Nat} (hk : F k) : IsC w k := by
  obtain ⟨G, h1, h2, h3, _⟩ := h.ch
  obtain ⟨i, hi⟩ := h3 k hk
  have hl := (h2 i k hi).2
  obtain ⟨s, hs⟩ := get_len (List.getElem?_eq_getElem hl) h.eb
  exact (h1 i _ s (List.getElem?_eq_getElem hl) hs).tag hi
theorem PC.lt (h : PC W B S C T F w) {k : Nat} (hk : F k) : k < w.heap.size := isc_lt (h.isc hk)
theorem PC.mem (h : PC W B S C T F w) (hm : m ∈ C) : ∃ (i : Nat) (t : CS), C[i]? = some m ∧ T[i]? = some t := by
  obtain ⟨i, hi, rfl⟩ := List.mem_iff_getElem.1 hm
  obtain ⟨t, ht⟩ := get_len (List.getElem?_eq_getElem hi) h.ec
  exact ⟨i, t, List.getElem?_eq_getElem hi, ht⟩
theorem PC.cblk (h : PC W B S C T F w) (hm : m ∈ C) : ∃ cs, w.heap[m]? = some (.cells cs 134 (0, 0)) := by
  obtain ⟨i, t, h1, h2⟩ := h.mem hm
  exact (h.md i m t h1 h2).2.blk
theorem PC.nf (h : PC W B S C T F w) (hm : m ∈ C) : ¬ F m := fun hf => by
  obtain ⟨cs, hb⟩ := h.cblk hm
  exact not_isc hb (by decide) (h.isc hf)
theorem Kf.refl (F : Nat → Prop) (C : List Nat) (w : World) : Kf F C w w := ⟨Nat.le_refl _, fun _ _ _ _ => rfl⟩
theorem Kf.trans (h : Kf F C w w') (hs : ∀ b, F' b → F b ∨ w.heap.size ≤ b) (k : Kf F' C w' w'') : Kf F C w w'' :=
  ⟨Nat.le_trans h.1 k.1, fun b hb hf hc => (k.2 b (by have := h.1; omega) (fun hf' => by rcases hs b hf' with h1 | h1; exact hf h1; omega) hc).trans (h.2 b hb hf hc)⟩
theorem Kf.of_below (h : Below w.heap.size w w') : Kf F C w w' := ⟨h.size, fun k hk _ _ => h.block k hk⟩
theorem PN.same (h : PC W B S C T F w) : PN W B S C T F w w := ⟨F, h, fun b hb => .inl hb, Kf.refl _ _ _⟩
theorem PC.later (h : PC W B S C T F w) (hb : Below w.heap.size w w') : PC W B S C T F w' := by
  obtain ⟨h0, h1, ⟨G, g1, g2, g3, g4⟩, h3, h4, h5, h6⟩ := h
  exact ⟨h0.trans (hb.mono h0.size), h1, ⟨G, fun i c s e1 e2 => (g1 i c s e1 e2).later hb, g2, g3, g4⟩, h3, h4, fun i m t e1 e2 => ⟨(h5 i m t e1 e2).1, (h5 i m t e1 e2).2.later hb⟩, h6⟩
theorem PC.pn (h : PC W B S C T F w) (hb : Below w.heap.size w w') : PN W B S C T F w w' := ⟨F, h.later hb, fun b hb => .inl hb, Kf.of_below hb⟩
theorem PN.comp (h : PN W B S C T F w w') (k : ∀ F', PC W B S C T F' w' → PN W B S' C T' F' w' w'') : PN W B S' C T' F w w'' := by
  obtain ⟨F1, h1, h2, h3⟩ := h
  obtain ⟨F2, k1, k2, k3⟩ := k F1 h1
  refine ⟨F2, k1, fun b hb => ?_, h3.trans h2 k3⟩
  rcases k2 b hb with h9 | h9
  · exact h2 b h9
  · exact .inr (Nat.le_trans h3.1 h9)
theorem PN.later (h : PN W B S C T F w w') (hb : Below w'.heap.size w' w'') : PN W B S C T F w w'' := h.comp fun F' h' => h'.pn hb
theorem PN.early (hb : Below w.heap.size w w') (h : PN W B S C T F w' w'') : PN W B S C T F w w'' := by
  obtain ⟨F1, h1, h2, h3⟩ := h
  exact ⟨F1, h1, fun b hf => (h2 b hf).imp id (fun h => Nat.le_trans hb.size h), (Kf.of_below hb).trans (fun b hf => .inl hf) h3⟩
theorem PN.draws (h : PN W B S C T F w w') (hh : w''.heap = w'.heap) (h1 : w''.os = w'.os) (h2 : w''.tape = w'.tape) (h3 : w''.output = w'.output) : PN W B S C T F w w'' :=
  h.later ⟨h1, h2, h3, by rw [hh]; exact Nat.le_refl _, fun k _ => by rw [hh]⟩
theorem PC.draws (h : PC W B S C T F w) (hh : w'.heap = w.heap) (h1 : w'.os = w.os) (h2 : w'.tape = w.tape) (h3 : w'.output = w.output) : PC W B S C T F w' :=
  h.later ⟨h1, h2, h3, by rw [hh]; exact Nat.le_refl _, fun k _ => by rw [hh]⟩
/-- Another block stays. -/
theorem PC.row (h : PC W B S C T F w) (k : Kf F C w w') {b : Nat} {cs : Array Value} {t : TypeId} {f : Nat × Nat} (hb : w.heap[b]? = some (.cells cs t f)) (ht : Oth t) : w'.heap[b]? = some (.cells cs t f) :=
  (k.2 b (lt_of_blk hb) (fun hf => not_isc hb ⟨ht.1, ht.2.1, ht.2.2.1, ht.2.2.2.1⟩ (h.isc hf)) (fun hc => by
    obtain ⟨ds, h9⟩ := h.cblk hc
    exact tag_ne hb h9 ht.2.2.2.2 rfl)).trans hb
theorem set_at {α : Type} {l : List α} {i : Nat} {x y : α} (h : l[i]? = some x) (j : Nat) : (l.set i y)[j]? = if j = i then some y else l[j]? := by
  have hi := (List.getElem?_eq_some_iff.1 h).1
  by_cases e : j = i
  · subst e; rw [List.getElem?_set_self hi, if_pos rfl]
  · rw [List.getElem?_set_ne (fun h => e h.symm), if_neg e]
theorem MD.keepF {ok' : Nat → Prop} {ok : Nat → Prop} (h : MD w ok m t) (hs : w.heap.size ≤ w'.heap.size) (h1 : w'.heap[m]? = w.heap[m]?) (k : ∀ b, b < w.heap.size → ok b → w'.heap[b]? = w.heap[b]?) (k2 : ∀ b, b < w.heap.size → ok b → ok' b) (hn : ¬ ok' m) : MD w' ok' m t :=
  ((h.mono (ok' := fun b => ok b ∧ ok' b) (fun b hb ho => ⟨ho, k2 b hb ho⟩) (fun h => hn h.2)).keep hs h1 fun b hb ho => k b hb ho.1).mono (fun b _ ho => ho.2) hn
/-- One channel, and what it is for all when it turns. -/
theorem PC.chan (h : PC W B S C T F w) (hb : B[i]? = some c) (hi : S[i]? = some s) : ∃ Fi, CH w Fi c s ∧ ∀ s' w', Go Fi c s' w w' → PN W B (S.set i s') C T F w w' := by
  obtain ⟨G, g1, g2, g3, g4⟩ := h.ch
  have hc := g1 i c s hb hi
  have hbel := h.bel
  have hil : i < B.length := (List.getElem?_eq_some_iff.1 hb).1
  refine ⟨G i, hc, fun s' w' g => ?_⟩
  have hbl : Below W.heap.size W w' := hbel.trans (g.below hbel.size fun b hf => h.low b (g2 i b hf).1)
  obtain ⟨F', hc', hs, tn⟩ := g
  have hk : Kf F C w w' := ⟨tn.size, fun k hk hn _ => tn.block k hk fun hf => hn (g2 i k hf).1⟩
  refine ⟨fun b => F' b ∨ ∃ j, j ≠ i ∧ G j b, ⟨hbl, ?_, ⟨fun j b => (j = i ∧ F' b) ∨ (j ≠ i ∧ G j b), ?_, ?_, ?_, ?_⟩, by rw [List.length_set]; exact h.eb, h.ec, ?_, h.nc⟩, ?_, hk⟩
  · rintro b (hf | ⟨j, _, hf⟩)
    · rcases hs b hf with h9 | h9
      · exact h.low b (g2 i b h9).1
      · have := hbel.size; omega
    · exact h.low b (g2 j b hf).1
  · intro j d u hj hu
    rw [set_at hi] at hu
    by_cases e : j = i
    · subst e
      rw [if_pos rfl] at hu
      cases hu
      rw [hb] at hj
      cases hj
      have e9 : (fun b => (j = j ∧ F' b) ∨ (j ≠ j ∧ G j b)) = F' := by funext b; simp
      show CH w' (fun b => (j = j ∧ F' b) ∨ (j ≠ j ∧ G j b)) c s'
      rw [e9]
      exact hc'
    · rw [if_neg e] at hu
      have e9 : (fun b => (j = i ∧ F' b) ∨ (j ≠ i ∧ G j b)) = G j := by funext b; simp [e]
      simp only [e9]
      have hd := g1 j d u hj hu
      exact hd.keep fun b hf => tn.block b (hd.lt hf) fun hf' => e (g4 j i b hf hf')
  · rintro j b (⟨rfl, hf⟩ | ⟨e, hf⟩)
    · exact ⟨.inl hf, hil⟩
    · exact ⟨.inr ⟨j, e, hf⟩, (g2 j b hf).2⟩
  · rintro b (hf | ⟨j, e, hf⟩)
    · exact ⟨i, .inl ⟨rfl, hf⟩⟩
    · exact ⟨j, .inr ⟨e, hf⟩⟩
  · have key : ∀ j b, j ≠ i → G j b → F' b → False := fun j b e hj hk => by
      rcases hs b hk with h9 | h9
      · exact e (g4 j i b hj h9)
      · have := h.lt (g2 j b hj).1; omega
    rintro j k b (⟨rfl, hj⟩ | ⟨ej, hj⟩) (⟨rfl, hk⟩ | ⟨ek, hk⟩)
    · rfl
    · exact (key k b ek hk hj).elim
    · exact (key j b ej hj hk).elim
    · exact g4 j k b hj hk
  · intro j m t hj ht
    obtain ⟨h1, h2⟩ := h.md j m t hj ht
    have hmc : m ∈ C := List.mem_of_getElem? hj
    refine ⟨h1, h2.keepF tn.size (tn.block m h2.lt fun hf => h.nf hmc (g2 i m hf).1) (fun b hb ho => tn.block b hb fun hf => ho.1 (g2 i b hf).1) (fun b hb ho => ⟨?_, ho.2⟩) (fun h9 => h9.2 hmc)⟩
    rintro (hf | ⟨k, _, hf⟩)
    · rcases hs b hf with h9 | h9
      · exact ho.1 (g2 i b h9).1
      · omega
    · exact ho.1 (g2 k b hf).1
  · rintro b (hf | ⟨j, _, hf⟩)
    · rcases hs b hf with h9 | h9
      · exact .inl (g2 i b h9).1
      · exact .inr h9
    · exact .inl (g2 j b hf).1
/-- One of the document's own. -/
theorem PC.model (h : PC W B S C T F w) (hb : C[i]? = some m) (hi : T[i]? = some t) : ∃ ok, MD w ok m t ∧ ∀ t' w', Mo ok m t' w w' → PN W B S C (T.set i t') F w w' := by
  have hbel := h.bel
  obtain ⟨hm0, hmd⟩ := h.md i m t hb hi
  have hmc : m ∈ C := List.mem_of_getElem? hb
  refine ⟨_, hmd, fun t' w' ⟨g, tn⟩ => ?_⟩
  have hbl : Below W.heap.size W w' := hbel.trans (tn.below hbel.size fun b hb => by rw [hb]; exact hm0)
  obtain ⟨G, g1, g2, g3, g4⟩ := h.ch
  have hnm : ∀ b, F b → b ≠ m := fun b hf e => h.nf hmc (e ▸ hf)
  refine ⟨F, ⟨hbl, h.low, ⟨G, fun j c s h1 h2 => ?_, g2, g3, g4⟩, h.eb, by rw [List.length_set]; exact h.ec, fun j n u hj hu => ?_, h.nc⟩, fun b hb => .inl hb, ⟨tn.size, fun k hk hn hc => tn.block k hk fun e => hc (by rw [e]; exact hmc)⟩⟩
  · have hd := g1 j c s h1 h2
    exact hd.keep fun b hf => tn.block b (hd.lt hf) (hnm b (g2 j b hf).1)
  · rw [set_at hi] at hu
    have hjc : n ∈ C := List.mem_of_getElem? hj
    by_cases e : j = i
    · subst e
      rw [if_pos rfl] at hu
      cases hu
      rw [hb] at hj
      cases hj
      refine ⟨hm0, g.mono (fun b _ ho => ?_) (fun h9 => h9.2 hmc)⟩
      rcases ho with ho | ho
      · exact ho
      · refine ⟨fun hf => by have := h.lt hf; omega, fun hbc => ?_⟩
        obtain ⟨cs, h9⟩ := h.cblk hbc
        have := lt_of_blk h9; omega
    · rw [if_neg e] at hu
      obtain ⟨h1, h2⟩ := h.md j n u hj hu
      have hne : n ≠ m := fun e9 => e (by
        subst e9
        have q1 := (List.getElem?_eq_some_iff.1 hj)
        have q2 := (List.getElem?_eq_some_iff.1 hb)
        exact (List.getElem_inj h.nc).1 (q1.2.trans q2.2.symm))
      exact ⟨h1, h2.keep tn.size (tn.block n h2.lt hne) fun b hb ho => tn.block b hb fun e9 => ho.2 (by rw [e9]; exact hmc)⟩
/-- None. -/
theorem PC.nil (W : World) : PC W [] [] [] [] (fun _ => False) W :=
  ⟨Below.refl _ _, fun _ h => h.elim, ⟨fun _ _ => False, fun i c s h => by simp at h, fun _ _ h => h.elim, fun _ h => h.elim, fun _ _ _ h => h.elim⟩, rfl, rfl, fun i m t h => by simp at h, List.nodup_nil⟩
theorem snoc_at {α : Type} {l : List α} {x y : α} {j : Nat} (h : (l ++ [x])[j]? = some y) : (j < l.length ∧ l[j]? = some y) ∨ (j = l.length ∧ y = x) := by
  have hj : j < (l ++ [x]).length := (List.getElem?_eq_some_iff.1 h).1
  rw [List.length_append, List.length_singleton] at hj
  by_cases e : j = l.length
  · subst e; simp at h; exact .inr ⟨rfl, h.symm⟩
  · rw [List.getElem?_append_left (by omega)] at h
    exact .inl ⟨by omega, h⟩
/-- A new channel. -/
theorem PC.addN (h : PC W B S C T F w) {N : Nat → Prop} (hc : CH w' N c s) (hN : ∀ b, N b → w.heap.size ≤ b) (hbw : Below w.heap.size w w') : PC W (B ++ [c]) (S ++ [s]) C T (fun b => F b ∨ N b) w' := by
  have hbel := h.bel
  obtain ⟨G, g1, g2, g3, g4⟩ := h.ch
  refine ⟨hbel.trans (hbw.mono hbel.size), ?_, ⟨fun j b => (j = B.length ∧ N b) ∨ (j < B.length ∧ G j b), ?_, ?_, ?_, ?_⟩, by simp [h.eb], h.ec, ?_, h.nc⟩
  · rintro b (hf | hf)
    · exact h.low b hf
    · have := hN b hf; have := hbel.size; omega
  · intro j d u hj hu
    rcases snoc_at hj with ⟨q1, q2⟩ | ⟨rfl, rfl⟩
    · rcases snoc_at hu with ⟨r1, r2⟩ | ⟨r1, _⟩
      · have e9 : (fun b => (j = B.length ∧ N b) ∨ (j < B.length ∧ G j b)) = G j := by funext b; simp [q1]; omega
        simp only [e9]
        exact (g1 j d u q2 r2).later hbw
      · have := h.eb; omega
    · rcases snoc_at hu with ⟨r1, _⟩ | ⟨_, rfl⟩
      · have := h.eb; omega
      · have e9 : (fun b => (B.length = B.length ∧ N b) ∨ (B.length < B.length ∧ G B.length b)) = N := by funext b; simp
        show CH w' (fun b => (B.length = B.length ∧ N b) ∨ (B.length < B.length ∧ G B.length b)) d u
        rw [e9]
        exact hc
  · rw [List.length_append, List.length_singleton]
    rintro j b (⟨rfl, hf⟩ | ⟨e, hf⟩)
    · exact ⟨.inr hf, by omega⟩
    · exact ⟨.inl (g2 j b hf).1, by omega⟩
  · rintro b (hf | hf)
    · obtain ⟨j, hj⟩ := g3 b hf
      exact ⟨j, .inr ⟨(g2 j b hj).2, hj⟩⟩
    · exact ⟨_, .inl ⟨rfl, hf⟩⟩
  · have key : ∀ j b, G j b → N b → False := fun j b hj hk => by
      have := h.lt (g2 j b hj).1; have := hN b hk; omega
    rintro j k b (⟨rfl, hj⟩ | ⟨ej, hj⟩) (⟨rfl, hk⟩ | ⟨ek, hk⟩)
    · rfl
    · exact (key k b hk hj).elim
    · exact (key j b hj hk).elim
    · exact g4 j k b hj hk
  · intro j m t hj ht
    obtain ⟨h1, h2⟩ := h.md j m t hj ht
    refine ⟨h1, (h2.mono (fun b hb ho => ⟨?_, ho.2⟩) (fun h9 => h9.2 (List.mem_of_getElem? hj))).later hbw⟩
    rintro (hf | hf)
    · exact ho.1 hf
    · have := hN b hf; omega
theorem PC.add (h : PC W B S C T F w) (k : Mk c s w w') : ∃ F', PC W (B ++ [c]) (S ++ [s]) C T F' w' ∧ (∀ b, F' b → F b ∨ w.heap.size ≤ b) ∧ Below w.heap.size w w' := by
  obtain ⟨⟨N, hc, hN⟩, hbw, _⟩ := k
  refine ⟨_, h.addN hc hN hbw, ?_, hbw⟩
  rintro b (hf | hf)
  · exact .inl hf
  · exact .inr (hN b hf)
/-- A pair that was made and acted on since. -/
theorem PC.join (h : PC W B S C T F w) (k : JS w c m s t w') : ∃ F', PC W (B ++ [c]) (S ++ [s]) (C ++ [m]) (T ++ [t]) F' w' := by
  obtain ⟨hbw, N, hc, hN, hmw, hmd⟩ := k
  have hbel := h.bel
  have hCl : ∀ n ∈ C, n < w.heap.size := fun n hn => by obtain ⟨cs, h9⟩ := h.cblk hn; exact lt_of_blk h9
  have h2 := h.addN hc hN hbw
  have hmC : m ∉ C := fun hn => by have := hCl m hn; omega
  refine ⟨_, ⟨h2.bel, h2.low, h2.ch, h2.eb, by simp [h.ec], fun j n u hj hu => ?_, ?_⟩⟩
  · rcases snoc_at hj with ⟨q1, q2⟩ | ⟨rfl, rfl⟩
    · rcases snoc_at hu with ⟨r1, r2⟩ | ⟨r1, _⟩
      · obtain ⟨k1, k2⟩ := h.md j n u q2 r2
        refine ⟨k1, (k2.mono (fun b hb ho => ⟨?_, ?_⟩) (fun h9 => h9.2 (by simp [List.mem_of_getElem? q2]))).later hbw⟩
        · rintro (hf | hf)
          · exact ho.1 hf
          · have := hN b hf; omega
        · intro hb2
          rcases List.mem_append.1 hb2 with hb2 | hb2
          · exact ho.2 hb2
          · simp at hb2; omega
      · have := h.ec; omega
    · rcases snoc_at hu with ⟨r1, _⟩ | ⟨_, rfl⟩
      · have := h.ec; omega
      · refine ⟨Nat.le_trans hbel.size hmw, hmd.mono (fun b hb ho => ⟨?_, ?_⟩) (fun h9 => h9.2 (by simp))⟩
        · rintro (hf | hf)
          · have := h.lt hf; omega
          · exact ho.2.1 hf
        · intro hb2
          rcases List.mem_append.1 hb2 with hb2 | hb2
          · have := hCl b hb2; omega
          · simp at hb2; exact ho.2.2 hb2
  · rw [List.nodup_append]
    exact ⟨h.nc, by simp, fun a ha b hb e => by simp at hb; subst hb; subst e; exact hmC ha⟩
/-- One pair alone. -/
theorem PC.js (h : PC W B S C T F w) {j : Nat} (h1 : B[i]? = some c) (h2 : S[i]? = some s) (h3 : C[j]? = some m) (h4 : T[j]? = some t) : ∃ W0, JS W0 c m s t w := by
  obtain ⟨Fi, hc, _⟩ := h.chan h1 h2
  obtain ⟨G, g1, g2, g3, g4⟩ := h.ch
  obtain ⟨_, hmd⟩ := h.md j m t h3 h4
  refine ⟨{ w with heap := #[] }, ⟨rfl, rfl, rfl, Nat.zero_le _, fun k hk => by simp at hk⟩, G i, g1 i c s h1 h2, fun b _ => Nat.zero_le _, Nat.zero_le _, hmd.mono (fun b hb ho => ⟨Nat.zero_le _, fun hf => ho.1 (g2 i b hf).1, fun e => ho.2 (by rw [e]; exact List.mem_of_getElem? h3)⟩) (fun h9 => h9.2.2 rfl)⟩
end
end Go.Proofs.YtmadcnpkaijllaaGreat.Ch
namespace Go.Proofs.YtmadcnpkaijllaaGreat.Ch
open Go.RowKit
set_option linter.unusedVariables false
set_option maxRecDepth 100000

theorem infI : (Tryz.prog.info? 3).map (fun i => (i.zero, i.size, i.bytes)) = some (some (.int .i64 0), 1, 8) := by kernel_rfl
def MsR (ok : Nat → Prop) (m : Nat) (g : CS × List Wk × Bool) (w : World) (e : Ending) (w' : World) : Prop :=
  ∃ A cap, e = .returned (.tuple #[.bool g.2.2, .slice A g.2.1.length cap]) ∧ RdK w' A g.2.1.length g.2.1 ∧ Mo ok m g.1 w w'
theorem flW_cons (x : Wt) (l : List Wt) : flW (x :: l) = wV x ++ flW l := rfl
/-- The first one, and the rest. -/
theorem Ro.cut {w : World} {ok : Nat → Prop} {a : Option Addr} {c s : Nat} {f xs : List Value} {n : Nat} (h : Ro w ok a (n + 1) c s (f ++ xs)) (hf : f.length = s) : ∃ bk off, a = some ⟨bk, off, none⟩ ∧ bk < w.heap.size ∧ (∀ j u, f[j]? = some u → w.cell? ⟨bk, off + j, none⟩ = some u) ∧
    ((n = 0 ∧ c = 1) ∨ ∃ cp, c = cp + 2 ∧ Ro w ok (some ⟨bk, off + s, none⟩) n (cp + 1) s xs) := by
  obtain ⟨h1, h2, h3, h4⟩ := h
  obtain ⟨bk, off, e, hl, ho, hc⟩ := h4 (by omega)
  refine ⟨bk, off, e, hl, fun j u hu => ?_, ?_⟩
  · have hj : j < f.length := (List.getElem?_eq_some_iff.1 hu).1
    exact hc.2 j u (by rw [List.getElem?_append_left hj]; exact hu)
  · by_cases h0 : c = 1
    · exact .inl ⟨by omega, h0⟩
    · refine .inr ⟨c - 2, by omega, by omega, by omega, ?_, fun _ => ⟨bk, off + s, rfl, hl, ho, hc.1, fun j u hu => ?_⟩⟩
      · rw [List.length_append, hf, Nat.add_mul] at h3; omega
      · rw [Nat.add_assoc]
        exact hc.2 (s + j) u (by rw [List.getElem?_append_right (by omega), hf, Nat.add_sub_cancel_left]; exact hu)
theorem okN_new {ok : Nat → Prop} {N : Nat} : ∀ b, N ≤ b → okN ok N b := fun b h => .inr h
theorem MX.next {w w1 : World} {ok : Nat → Prop} {m : Nat} {s : CS} {b q r : Option Addr × Nat} (h : MX w ok m s b q r) (hb : Below w.heap.size w w1) : MX w1 (okN ok w.heap.size) m s b q r :=
  (h.later hb).mono (fun b _ ho => .inl ho) (fun hn => by rcases hn with hn | hn; exact h.no hn; have := h.lt; omega)
section
variable {w : World} {ok : Nat → Prop} {m : Nat} {s : CS}
set_option maxRecDepth 100000 in
set_option maxHeartbeats 4000000 in
theorem msend_one {x : Wt} {b q r : Option Addr × Nat} (v : Int) (hx : MX w ok m s b q r) (hr : s.rs = [x]) {bk off : Nat} (e6 : r.1 = some ⟨bk, off, none⟩) (hbl : bk < w.heap.size) (hc : ∀ j u, (wV x)[j]? = some u → w.cell? ⟨bk, off + j, none⟩ = some u) (hcp : r.2 = 1) : Calls Tryz.prog 87 #[.pointer (some ⟨m, 0, none⟩), .int .i64 v] w (MsR ok m ({ s with rs := [] }, [⟨x.t, x.c, v, true, false⟩], true) w) := by
  obtain ⟨i0, hi, hz0, hz1, hz2⟩ := info_parts inf30
  have c6 := hx.c6
  have f6 := hx.fz 6
  rw [hr, e6, hcp] at c6
  simp only [List.length_cons, List.length_nil] at c6
  have d0 : w.cell? ⟨bk, off, none⟩ = some (.int .i64 x.t) := hc 0 _ rfl
  have d1 : w.cell? ⟨bk, off + 1, none⟩ = some (.int .i64 x.c) := hc 1 _ rfl
  have d2 : w.cell? ⟨bk, off + 2, none⟩ = some (.int .i64 x.v) := hc 2 _ rfl
  have HX := Lib.hid hx
  have hml := hx.lt
  clear hx hc e6 hr hcp
  go_enter Tryz.func87, Tryz.ntmps87
  go_wp2_with (at_builtin; go_loud (refine app_wp rfl (.tmp 20) (.tmp 25) 132 rfl w.heap.size 87 3 24 i0 (.agg #[.int .i64 0, .int .i64 0, .int .i64 0]) Tryz.underlying132 hi hz0 hz1 hz2 rfl (by decide) (.slice (some ⟨w.heap.size + 1, 0, none⟩) 0 0) 0 [] rfl (own_empty _ 87 3 w.heap.size _ (by simp) (by simp)) _ (some ⟨bk, off, none⟩) 0 0 (flW []) rfl (Rd.nil _ w.heap.size _ _) (flW_one _) (by unfold maxLen; omega) (by omega) (by simp <;> omega) ?_; intro v1 w1 ho1 hg1; rw [Nat.zero_add, List.nil_append] at ho1; have hb1 := below_app (two_al w (.cells #[.int .i64 x.t, .int .i64 x.c, .int .i64 x.v] 87) (.cells #[] 87)) (Nat.le_refl _) (by simp <;> omega) (own_empty (w.alloc (.cells #[.int .i64 x.t, .int .i64 x.c, .int .i64 x.v] 87)) 87 3 w.heap.size (w.heap.size + 1) (by simp) (by simp)) hg1; obtain ⟨A1, k1, hv1, _, _⟩ := own_cap ho1; subst hv1; have hx1 := HX.out.next hb1; have c61 := hx1.c6; have f61 := hx1.fz 6; have hl1 := hx1.lt; have HS := Lib.hid (hx1.setR (l := []) (r' := (A1, k1)) (Ro.of_own ho1 okN_new)); have hk1 : w1.heap[w.heap.size]? = some (.cells #[.int .i64 x.t, .int .i64 x.c, .int .i64 x.v] 87 (0, 0)) := (hg1.block w.heap.size (by simp; omega) (by simp [Value.ownBlock])).trans ((below_al (w.alloc (.cells #[.int .i64 x.t, .int .i64 x.c, .int .i64 x.v] 87)) (.cells #[] 87)).block w.heap.size (by simp) |>.trans (heap_alloc_new _ _)); have HB1 := Lib.hid hb1; clear ho1 hg1 hb1 hx1))
  have hk2 : (w1.setCell ⟨m, 6, none⟩ (.slice A1 0 k1)).heap[w.heap.size]? = some (.cells #[.int .i64 x.t, .int .i64 x.c, .int .i64 x.v] 87 (0, 0)) := (Below.heap_setCell _ _ _ _ (by show w.heap.size ≠ m; omega)).trans hk1
  have T1 : Hid (Mo ok m { s with rs := [] } w (w1.setCell ⟨m, 6, none⟩ (.slice A1 0 k1))) := ⟨⟨_, _, _, HS.out⟩, (Tn.of_below (F := fun k => k = m) HB1.out).set (.inl rfl) _⟩
  have g0 := cell_of_row _ w.heap.size 0 _ _ _ hk2
  have g1 := cell_of_row _ w.heap.size 1 _ _ _ hk2
  simp only [List.getElem?_toArray, List.getElem?_cons_succ, List.getElem?_cons_zero] at g0 g1
  have hgs := lt_of_blk hk2
  clear hk1 hk2 c61 f61 hl1 HS HB1 HX d0 d1 d2 c6 f6
  generalize w1.setCell ⟨m, 6, none⟩ (.slice A1 0 k1) = w2 at *
  go_region
  all_goals
    go_wp2_with fail
    go_ret2
    exact ⟨some ⟨_, 0, none⟩, 1, rfl, (RdK.one _ ⟨x.t, x.c, v, true, false⟩ _ (by simp)).keep (fun _ _ h => rfl), (T1.out.later (below_al _ _)).draws rfl rfl rfl rfl⟩
set_option maxRecDepth 100000 in
set_option maxHeartbeats 4000000 in
theorem msend_more {x : Wt} {rl : List Wt} {b q r : Option Addr × Nat} (v : Int) (hx : MX w ok m s b q r) (hr : s.rs = x :: rl) (hn : rl.length ≤ 1000) {bk off cp : Nat} (e6 : r.1 = some ⟨bk, off, none⟩) (hbl : bk < w.heap.size) (hc : ∀ j u, (wV x)[j]? = some u → w.cell? ⟨bk, off + j, none⟩ = some u) (hcp : r.2 = cp + 2) (hR : Ro w ok (some ⟨bk, off + 3, none⟩) rl.length (cp + 1) 3 (flW rl)) : Calls Tryz.prog 87 #[.pointer (some ⟨m, 0, none⟩), .int .i64 v] w (MsR ok m ({ s with rs := rl }, [⟨x.t, x.c, v, true, false⟩], true) w) := by
  obtain ⟨i0, hi, hz0, hz1, hz2⟩ := info_parts inf30
  have c6 := hx.c6
  have f6 := hx.fz 6
  rw [hr, e6, hcp] at c6
  simp only [List.length_cons] at c6
  have d0 : w.cell? ⟨bk, off, none⟩ = some (.int .i64 x.t) := hc 0 _ rfl
  have d1 : w.cell? ⟨bk, off + 1, none⟩ = some (.int .i64 x.c) := hc 1 _ rfl
  have d2 : w.cell? ⟨bk, off + 2, none⟩ = some (.int .i64 x.v) := hc 2 _ rfl
  have HX := Lib.hid hx
  have hml := hx.lt
  have HRr := Lib.hid hR
  clear hR
  clear hx hc e6 hr hcp
  go_enter Tryz.func87, Tryz.ntmps87
  go_wp2_with (at_builtin; go_loud (refine app_wp rfl (.tmp 20) (.tmp 25) 132 rfl w.heap.size 87 3 24 i0 (.agg #[.int .i64 0, .int .i64 0, .int .i64 0]) Tryz.underlying132 hi hz0 hz1 hz2 rfl (by decide) (.slice (some ⟨w.heap.size + 1, 0, none⟩) 0 0) 0 [] rfl (own_empty _ 87 3 w.heap.size _ (by simp) (by simp)) _ (some ⟨bk, off + 3, none⟩) rl.length (cp + 1) (flW rl) rfl ((HRr.out.later (two_al w _ _)).rd) (flW_one _) (by unfold maxLen; omega) (by omega) (by simp <;> omega) ?_; intro v1 w1 ho1 hg1; rw [Nat.zero_add, List.nil_append] at ho1; have hb1 := below_app (two_al w (.cells #[.int .i64 x.t, .int .i64 x.c, .int .i64 x.v] 87) (.cells #[] 87)) (Nat.le_refl _) (by simp <;> omega) (own_empty (w.alloc (.cells #[.int .i64 x.t, .int .i64 x.c, .int .i64 x.v] 87)) 87 3 w.heap.size (w.heap.size + 1) (by simp) (by simp)) hg1; obtain ⟨A1, k1, hv1, _, _⟩ := own_cap ho1; subst hv1; have hx1 := HX.out.next hb1; have c61 := hx1.c6; have f61 := hx1.fz 6; have hl1 := hx1.lt; have HS := Lib.hid (hx1.setR (l := rl) (r' := (A1, k1)) (Ro.of_own ho1 okN_new)); have hk1 : w1.heap[w.heap.size]? = some (.cells #[.int .i64 x.t, .int .i64 x.c, .int .i64 x.v] 87 (0, 0)) := (hg1.block w.heap.size (by simp; omega) (by simp [Value.ownBlock])).trans ((below_al (w.alloc (.cells #[.int .i64 x.t, .int .i64 x.c, .int .i64 x.v] 87)) (.cells #[] 87)).block w.heap.size (by simp) |>.trans (heap_alloc_new _ _)); have HB1 := Lib.hid hb1; clear ho1 hg1 hb1 hx1))
  have hk2 : (w1.setCell ⟨m, 6, none⟩ (.slice A1 rl.length k1)).heap[w.heap.size]? = some (.cells #[.int .i64 x.t, .int .i64 x.c, .int .i64 x.v] 87 (0, 0)) := (Below.heap_setCell _ _ _ _ (by show w.heap.size ≠ m; omega)).trans hk1
  have T1 : Hid (Mo ok m { s with rs := rl } w (w1.setCell ⟨m, 6, none⟩ (.slice A1 rl.length k1))) := ⟨⟨_, _, _, HS.out⟩, (Tn.of_below (F := fun k => k = m) HB1.out).set (.inl rfl) _⟩
  have g0 := cell_of_row _ w.heap.size 0 _ _ _ hk2
  have g1 := cell_of_row _ w.heap.size 1 _ _ _ hk2
  simp only [List.getElem?_toArray, List.getElem?_cons_succ, List.getElem?_cons_zero] at g0 g1
  have hgs := lt_of_blk hk2
  clear hk1 hk2 c61 f61 hl1 HS HB1 HX d0 d1 d2 c6 f6
  generalize w1.setCell ⟨m, 6, none⟩ (.slice A1 rl.length k1) = w2 at *
  go_region
  all_goals
    go_wp2_with fail
    go_ret2
    exact ⟨some ⟨_, 0, none⟩, 1, rfl, (RdK.one _ ⟨x.t, x.c, v, true, false⟩ _ (by simp)).keep (fun _ _ h => rfl), (T1.out.later (below_al _ _)).draws rfl rfl rfl rfl⟩
set_option maxRecDepth 100000 in
theorem msend_full (v : Int) (h : MD w ok m s) (hr : s.rs = []) (hl : ¬ s.l.length < s.sz) (hz : s.sz ≤ 64) (hn : s.l.length ≤ 1000) : Calls Tryz.prog 87 #[.pointer (some ⟨m, 0, none⟩), .int .i64 v] w (MsR ok m (s, [], false) w) := by
  have HM := Lib.hid (Mo.same h)
  obtain ⟨b, q, r, hx⟩ := h
  have c0 := hx.c0
  have c4 := hx.c4
  have c6 := hx.c6
  rw [hr] at c6
  simp only [List.length_nil] at c6
  have p1 : ¬ (s.l.length : Int) < (s.sz : Int) := by omega
  have p2 : (s.l.length : Int) ≤ 1000 := by omega
  clear hx hr hl
  go_enter Tryz.func87, Tryz.ntmps87
  go_wp2_with fail
  go_quiet (fail)
  go_wp2_with fail
  go_ret2
  exact ⟨none, 0, rfl, RdK.nil _ _, HM.out.draws rfl rfl rfl rfl⟩
set_option maxRecDepth 100000 in
set_option maxHeartbeats 4000000 in
theorem msend_room (v : Int) (h : MD w ok m s) (hr : s.rs = []) (hl : s.l.length < s.sz) (hz : s.sz ≤ 64) : Calls Tryz.prog 87 #[.pointer (some ⟨m, 0, none⟩), .int .i64 v] w (MsR ok m ({ s with l := s.l ++ [v] }, [], true) w) := by
  obtain ⟨b, q, r, hx⟩ := h
  obtain ⟨i0, hi, hz0, hz1, hz2⟩ := info_parts infI
  have c0 := hx.c0
  have c4 := hx.c4
  have c6 := hx.c6
  rw [hr] at c6
  simp only [List.length_nil] at c6
  have p1 : (s.l.length : Int) < (s.sz : Int) := by omega
  have p2 : (s.l.length : Int) ≤ 64 := by omega
  have p3 : s.l.length ≤ 64 := by omega
  have HX := Lib.hid hx
  have HX2 : Hid (∀ n, MX (w.drewN n) ok m s b q r) := fun n => hx.later ⟨rfl, rfl, rfl, Nat.le_refl _, fun _ _ => rfl⟩
  have HB2 : Hid (∀ n, Below w.heap.size w (w.drewN n)) := fun n => below_drewN (Below.refl _ _) n
  clear hx hr hl
  go_enter Tryz.func87, Tryz.ntmps87
  go_wp2_with fail
  go_quiet (fail)
  have hx2 := HX2.out nq
  have hb2 := HB2.out nq
  have hbs := hb2.size
  have HX3 := Lib.hid hx2
  clear c0 c4 c6 HX2 HB2
  generalize w.drewN nq = w2 at *
  have c4 := hx2.c4
  have f4 := hx2.fz 4
  have hml := hx2.lt
  clear hx2
  go_wp2_with (first
    | (at_builtin; (refine app_wp rfl (.tmp 47) (.tmp 51) 131 rfl w.heap.size 3 1 8 i0 (.int .i64 0) Tryz.underlying131 hi hz0 hz1 hz2 rfl (by decide) (.slice (some ⟨w2.heap.size, 0, none⟩) 0 0) 0 [] rfl (own_empty _ 3 1 w.heap.size _ rfl hbs) _ b.1 s.l.length b.2 (iV s.l) rfl ((HX3.out.rb.later (below_al w2 _)).rd) (iV_one _) (by unfold maxLen; omega) (by omega) (by simp; omega) ?_); intro v1 w3 ho1 hg1; rw [Nat.zero_add, List.nil_append] at ho1; have hb3 := below_app (hb2.alloc hbs (.cells #[] 3)) (Nat.le_refl _) (by simp; omega) (own_empty w2 3 1 w.heap.size w2.heap.size rfl hbs) hg1; have HO1 := Lib.hid ho1; have HB3 := Lib.hid hb3; have hbs3 := hb3.size; clear ho1 hg1 hb3)
    | (at_builtin; go_loud (refine app_wp rfl (.tmp 52) (.tmp 54) 131 rfl w.heap.size 3 1 8 i0 (.int .i64 0) Tryz.underlying131 hi hz0 hz1 hz2 rfl (by decide) v1 s.l.length (iV s.l) rfl (HO1.out.alloc _) _ (some ⟨w3.heap.size, 0, none⟩) 1 1 (iV [v]) rfl (Rd.new w3 #[.int .i64 v] 1 1 3 rfl) (iV_one _) (by unfold maxLen; omega) (by omega) (by simp; omega) ?_; intro v2 w4 ho2 hg2; have hb4 := below_app (HB3.out.alloc hbs3 (.cells #[.int .i64 v] 3)) (Nat.le_refl _) (by simp; omega) (HO1.out.alloc _) hg2; rw [← iV_app] at ho2; obtain ⟨A2, k2, hv2, _, _⟩ := own_cap ho2; subst hv2; have hx4 := HX.out.next hb4; have HS : Hid (MX (w4.setCell ⟨m, 4, none⟩ (.slice A2 (s.l.length + 1) k2)) (okN ok w.heap.size) m { s with l := s.l ++ [v] } (A2, k2) q r) := (by have h9 := hx4.setB (l := s.l ++ [v]) (b' := (A2, k2)) (Ro.of_own (by rw [List.length_append]; exact ho2) okN_new); rw [List.length_append] at h9; exact h9); have c4 := hx4.c4; have f4 := hx4.fz 4; have hl4 := hx4.lt; have HB4 := Lib.hid hb4; clear ho2 hg2 hb4 hx4 HO1 HB3)))
  have T1 : Hid (Mo ok m { s with l := s.l ++ [v] } w (w4.setCell ⟨m, 4, none⟩ (.slice A2 (s.l.length + 1) k2))) := ⟨⟨_, _, _, HS.out⟩, (Tn.of_below (F := fun k => k = m) HB4.out).set (.inl rfl) _⟩
  clear HS HB4 c4 f4
  generalize w4.setCell ⟨m, 4, none⟩ (.slice A2 (s.l.length + 1) k2) = w5 at *
  go_ret2
  exact ⟨none, 0, rfl, RdK.nil _ _, T1.out⟩
theorem msend_any (v : Int) (h : MD w ok m s) (hz : s.sz ≤ 64) (hl : s.l.length ≤ 1000) (hr : s.rs.length ≤ 1000) : Calls Tryz.prog 87 #[.pointer (some ⟨m, 0, none⟩), .int .i64 v] w (MsR ok m (gv s v) w) := by
  cases hrs : s.rs with
  | nil =>
    by_cases h0 : s.l.length < s.sz
    · have e : gv s v = ({ s with l := s.l ++ [v] }, [], true) := by unfold gv; rw [hrs]; simp only; rw [if_pos h0]
      rw [e]
      exact msend_room v h hrs h0 hz
    · have e : gv s v = (s, [], false) := by unfold gv; rw [hrs]; simp only; rw [if_neg h0]
      rw [e]
      exact msend_full v h hrs h0 hz hl
  | cons x rl =>
    have e : gv s v = ({ s with rs := rl }, [⟨x.t, x.c, v, true, false⟩], true) := by unfold gv; rw [hrs]
    rw [e]
    obtain ⟨b, q, r, hx⟩ := h
    have hrr := hx.rr
    rw [hrs] at hrr hr
    rw [List.length_cons] at hrr hr
    rw [flW_cons] at hrr
    obtain ⟨bk, off, e6, hbl, hc, hcap⟩ := hrr.cut rfl
    rcases hcap with ⟨h0, h1⟩ | ⟨cp, h1, hR⟩
    · obtain rfl := List.eq_nil_of_length_eq_zero h0
      exact msend_one v hx hrs e6 hbl hc h1
    · exact msend_more v hx hrs (by omega) e6 hbl hc h1 hR
/-! Send, Put. -/
theorem MX.k1 {b q r : Option Addr × Nat} {k : Nat} (h : MX w ok m s b q r) (hk : s.kd = k) : w.cell? ⟨m, 1, none⟩ = some (.bool (k == 1)) := by rw [← hk]; exact h.c1
theorem MX.k2 {b q r : Option Addr × Nat} {k : Nat} (h : MX w ok m s b q r) (hk : s.kd = k) : w.cell? ⟨m, 2, none⟩ = some (.bool (k == 2)) := by rw [← hk]; exact h.c2
theorem MX.k3 {b q r : Option Addr × Nat} {k : Bool} (h : MX w ok m s b q r) (hk : s.cl = k) : w.cell? ⟨m, 3, none⟩ = some (.bool k) := by rw [← hk]; exact h.c3
def MSnR (ok : Nat → Prop) (m : Nat) (g : CS × List Wk × Bool) (w : World) (e : Ending) (w' : World) : Prop :=
  ∃ A cap, e = .returned (.tuple #[.bool g.2.2, .slice A g.2.1.length cap, .int .i64 0]) ∧ RdK w' A g.2.1.length g.2.1 ∧ Mo ok m g.1 w w'
theorem mPut_kind (v : Int) (h : MD w ok m s) (hk : s.kd ≠ 1) : Calls Tryz.prog 63 #[.pointer (some ⟨m, 0, none⟩), .int .i64 v] w fun e w' => e = .returned (.tuple #[.slice none 0 0, .bool false]) ∧ w = w' := by
  obtain ⟨b, q, r, hx⟩ := h
  have c1 : w.cell? ⟨m, 1, none⟩ = some (.bool false) := by have h9 := hx.c1; rw [show (s.kd == 1) = false by simpa using hk] at h9; exact h9
  clear hx
  go_enter Tryz.func63, Tryz.ntmps63
  go_wp2
  go_ret2
  exact ⟨rfl, rfl⟩
def MPtR (ok : Nat → Prop) (m : Nat) (g : CS × List Wk × Bool) (w : World) (e : Ending) (w' : World) : Prop :=
  ∃ A cap, e = .returned (.tuple #[.slice A g.2.1.length cap, .bool g.2.2]) ∧ RdK w' A g.2.1.length g.2.1 ∧ Mo ok m g.1 w w'
theorem mPut_go (v : Int) (h : MD w ok m s) (hk : s.kd = 1) (hz : s.sz ≤ 64) (hl : s.l.length ≤ 1000) (hr : s.rs.length ≤ 1000) : Calls Tryz.prog 63 #[.pointer (some ⟨m, 0, none⟩), .int .i64 v] w (MPtR ok m (gv s v) w) := by
  have HC := Lib.hid (msend_any v h hz hl hr)
  obtain ⟨b, q, r, hx⟩ := h
  have c1 : w.cell? ⟨m, 1, none⟩ = some (.bool true) := hx.k1 hk
  clear hx
  generalize gv s v = g at *
  go_enter Tryz.func63, Tryz.ntmps63
  go_wp2_with fail
  refine HC.out.mono ?_
  rintro e w' ⟨A, cap, rfl, hK, hG⟩
  have HP : Hid (RdK w' A g.2.1.length g.2.1 ∧ Mo ok m g.1 w w') := ⟨hK, hG⟩
  clear hK hG HC
  go_wp2
  go_ret2
  exact ⟨A, cap, rfl, HP.out.1, HP.out.2⟩
theorem mPut_nil (v : Int) (w : World) : Calls Tryz.prog 63 #[.pointer none, .int .i64 v] w fun e w' => e = .returned (.tuple #[.slice none 0 0, .bool false]) ∧ w = w' := by
  go_enter Tryz.func63, Tryz.ntmps63
  go_wp2
  go_ret2
  exact ⟨rfl, rfl⟩
end
end Go.Proofs.YtmadcnpkaijllaaGreat.Ch
namespace Go.Proofs.YtmadcnpkaijllaaGreat.Ch
open Go.RowKit
set_option linter.unusedVariables false
set_option maxRecDepth 100000

section
variable {w : World} {ok : Nat → Prop} {m : Nat} {s : CS}
theorem okN_n2 {ok : Nat → Prop} {N m : Nat} (h : ¬ ok m) (hm : m < N) : ¬ okN ok N m := fun hn => by rcases hn with hn | hn; exact h hn; omega
theorem newtimed_any (w : World) : Calls Tryz.prog 82 #[] w fun e w' => e = .returned (.pointer (some ⟨w.heap.size, 0, none⟩)) ∧ w' = w.alloc (.cells (mB ⟨1, false, 1, [], [], []⟩ (.slice none 0 0) (.slice none 0 0) (.slice none 0 0)) 134) := by
  go_enter Tryz.func82, Tryz.ntmps82
  go_wp2
  go_ret
  exact ⟨rfl, rfl⟩
/-- A new one of the document's own. -/
theorem md_new (w : World) (ok : Nat → Prop) (s : CS) (hl : s.l = []) (hs : s.ss = []) (hr : s.rs = []) (hn : ¬ ok w.heap.size) : MD (w.alloc (.cells (mB s (.slice none 0 0) (.slice none 0 0) (.slice none 0 0)) 134)) ok w.heap.size s := by
  refine ⟨(none, 0), (none, 0), (none, 0), ?_, ?_, ?_, ?_, hn⟩
  · rw [hl, hs, hr]; exact heap_alloc_new _ _
  · rw [hl]; exact Ro.nil _ _ _ _ _ (by omega)
  · rw [hs]; exact Ro.nil _ _ _ _ _ (by omega)
  · rw [hr]; exact Ro.nil _ _ _ _ _ (by omega)
end
theorem wakes_yes (A A' : Option Addr) (n c c' : Nat) (l : List Wk) (w : World) (h : RdK w A n l) (h' : RdK w A' n l) (hn : n ≤ 1000000) :
    Calls Tryz.prog 29 #[.slice A n c, .slice A' n c'] w fun e w' => e = .returned (.bool true) ∧ ∃ m, w' = w.drewN m := by
  replace h := Lib.hid h
  replace h' := Lib.hid h'
  have b1 : (n : Int) ≤ 1000000 := by omega
  go_enter Tryz.func29, Tryz.ntmps29
  go_wp2_with fail
  go_loopw [5] (fun i wr => ∃ k : Nat, k ≤ n ∧ i = .int .i64 k ∧ ∃ m, wr = w.drewN m) (fun i _ => n - (intOf i).toNat)
  case atStart => exact ⟨0, by omega, rfl, 0, rfl⟩
  case round =>
    obtain ⟨k, hk, rfl, m, rfl⟩ := hrel
    by_cases hlt : k < n
    · have hky : k < l.length := by rw [h.out.1]; exact hlt
      obtain ⟨b, cs, e1, hb, hc⟩ := h.out.2 (by omega)
      obtain ⟨b', cs', e2, hb', hc'⟩ := h'.out.2 (by omega)
      subst e1 e2
      obtain ⟨c0, c1, c2, c3, c4⟩ := hc k (l[k]'hky) (List.getElem?_eq_getElem hky)
      obtain ⟨d0, d1, d2, d3, d4⟩ := hc' k (l[k]'hky) (List.getElem?_eq_getElem hky)
      generalize l[k]'hky = x at *
      obtain ⟨xt, xc, xv, xo, xp⟩ := x
      simp only at c0 c1 c2 c3 c4 d0 d1 d2 d3 d4
      have q1 : (k : Int) < (n : Int) := by omega
      have q2 : 0 ≤ (k : Int) := by omega
      clear hc hc' hky hb hb'
      go_wp2_with fail
      go_quiet (fail)
      go_wp2_with fail
      go_roundw
      case rel => exact ⟨k + 1, by omega, by go_num, _, rfl⟩
      case measure => simp [intOf]; omega
    · obtain rfl : k = n := by omega
      go_wp2_with fail
      go_ret
      exact ⟨rfl, _, rfl⟩
end Go.Proofs.YtmadcnpkaijllaaGreat.Ch
