/- Several channels, and the document's own beside them, in memory; what carries them. No condition. -/
import Derived.Test.YtmcacmbllpphiaaJn
namespace Go.Proofs.Ytmcacmbllpphiaa
open Go.RowKit
set_option linter.unusedVariables false

/-- In the blocks B are channels that are S, in the blocks C the document's own that are T; they share nothing; F are the channels' blocks. -/
structure PC (W : World) (B : List Nat) (S : List CS) (C : List Nat) (T : List CS) (F : Nat → Prop) (w : World) : Prop where
  bel : Below W.heap.size W w
  low : ∀ b, F b → W.heap.size ≤ b
  ch : ∃ G : Nat → Nat → Prop, (∀ (i c : Nat) (s : CS), B[i]? = some c → S[i]? = some s → CH w (G i) c s) ∧ (∀ i b, G i b → F b ∧ i < B.length) ∧ (∀ b, F b → ∃ i, G i b) ∧ ∀ i j b, G i b → G j b → i = j
  eb : B.length = S.length
  ec : C.length = T.length
  md : ∀ (i m : Nat) (t : CS), C[i]? = some m → T[i]? = some t → W.heap.size ≤ m ∧ MD w (fun b => ¬ F b ∧ b ∉ C) m t
  nc : C.Nodup
/-- Nothing has turned but the blocks of F, of C, and new ones. -/
def Kf (F : Nat → Prop) (C : List Nat) (w w' : World) : Prop := w.heap.size ≤ w'.heap.size ∧ ∀ k, k < w.heap.size → ¬ F k → k ∉ C → w'.heap[k]? = w.heap[k]?
/-- They have come to be S and T. -/
def PN (W : World) (B : List Nat) (S : List CS) (C : List Nat) (T : List CS) (F : Nat → Prop) (w w' : World) : Prop :=
  ∃ F', PC W B S C T F' w' ∧ (∀ b, F' b → F b ∨ w.heap.size ≤ b) ∧ Kf F C w w'
/-- Other blocks, by their tags. -/
def Oth (t : TypeId) : Prop := t ≠ 113 ∧ t ≠ 129 ∧ t ≠ 3 ∧ t ≠ 132 ∧ t ≠ 81
section
variable {W w w' w'' : World} {B C : List Nat} {S S' T T' : List CS} {F F' : Nat → Prop} {i c m : Nat} {s t : CS}
theorem get_len {α β : Type} {l : List α} {r : List β} {i : Nat} {x : α} (h : l[i]? = some x) (e : l.length = r.length) : ∃ y, r[i]? = some y :=
  ⟨r[i]'(by rw [← e]; exact (List.getElem?_eq_some_iff.1 h).1), List.getElem?_eq_getElem _⟩
theorem PC.isc (h : PC W B S C T F w) {k : Nat} (hk : F k) : IsC w k := by
  obtain ⟨G, h1, h2, h3, _⟩ := h.ch
  obtain ⟨i, hi⟩ := h3 k hk
  have hl := (h2 i k hi).2
  obtain ⟨s, hs⟩ := get_len (List.getElem?_eq_getElem hl) h.eb
  exact (h1 i _ s (List.getElem?_eq_getElem hl) hs).tag hi
theorem PC.lt (h : PC W B S C T F w) {k : Nat} (hk : F k) : k < w.heap.size := isc_lt (h.isc hk)
theorem PC.mem (h : PC W B S C T F w) (hm : m ∈ C) : ∃ (i : Nat) (t : CS), C[i]? = some m ∧ T[i]? = some t := by
  obtain ⟨i, hi, rfl⟩ := List.mem_iff_getElem.1 hm
  obtain ⟨t, ht⟩ := get_len (List.getElem?_eq_getElem hi) h.ec
  exact ⟨i, t, List.getElem?_eq_getElem hi, ht⟩
theorem PC.cblk (h : PC W B S C T F w) (hm : m ∈ C) : ∃ cs, w.heap[m]? = some (.cells cs 81 (0, 0)) := by
  obtain ⟨i, t, h1, h2⟩ := h.mem hm
  exact (h.md i m t h1 h2).2.blk
theorem PC.nf (h : PC W B S C T F w) (hm : m ∈ C) : ¬ F m := fun hf => by
  obtain ⟨cs, hb⟩ := h.cblk hm
  exact not_isc hb (by decide) (h.isc hf)
theorem Kf.refl (F : Nat → Prop) (C : List Nat) (w : World) : Kf F C w w := ⟨Nat.le_refl _, fun _ _ _ _ => rfl⟩
theorem Kf.trans (h : Kf F C w w') (hs : ∀ b, F' b → F b ∨ w.heap.size ≤ b) (k : Kf F' C w' w'') : Kf F C w w'' :=
  ⟨Nat.le_trans h.1 k.1, fun b hb hf hc => (k.2 b (by have := h.1; omega) (fun hf' => by rcases hs b hf' with h1 | h1; exact hf h1; omega) hc).trans (h.2 b hb hf hc)⟩
theorem Kf.of_below (h : Below w.heap.size w w') : Kf F C w w' := ⟨h.size, fun k hk _ _ => h.block k hk⟩
theorem PN.same (h : PC W B S C T F w) : PN W B S C T F w w := ⟨F, h, fun b hb => .inl hb, Kf.refl _ _ _⟩
theorem PC.later (h : PC W B S C T F w) (hb : Below w.heap.size w w') : PC W B S C T F w' := by
  obtain ⟨h0, h1, ⟨G, g1, g2, g3, g4⟩, h3, h4, h5, h6⟩ := h
  exact ⟨h0.trans (hb.mono h0.size), h1, ⟨G, fun i c s e1 e2 => (g1 i c s e1 e2).later hb, g2, g3, g4⟩, h3, h4, fun i m t e1 e2 => ⟨(h5 i m t e1 e2).1, (h5 i m t e1 e2).2.later hb⟩, h6⟩
theorem PC.pn (h : PC W B S C T F w) (hb : Below w.heap.size w w') : PN W B S C T F w w' := ⟨F, h.later hb, fun b hb => .inl hb, Kf.of_below hb⟩
theorem PN.comp (h : PN W B S C T F w w') (k : ∀ F', PC W B S C T F' w' → PN W B S' C T' F' w' w'') : PN W B S' C T' F w w'' := by
  obtain ⟨F1, h1, h2, h3⟩ := h
  obtain ⟨F2, k1, k2, k3⟩ := k F1 h1
  refine ⟨F2, k1, fun b hb => ?_, h3.trans h2 k3⟩
  rcases k2 b hb with h9 | h9
  · exact h2 b h9
  · exact .inr (Nat.le_trans h3.1 h9)
theorem PN.later (h : PN W B S C T F w w') (hb : Below w'.heap.size w' w'') : PN W B S C T F w w'' := h.comp fun F' h' => h'.pn hb
theorem PN.early (hb : Below w.heap.size w w') (h : PN W B S C T F w' w'') : PN W B S C T F w w'' := by
  obtain ⟨F1, h1, h2, h3⟩ := h
  exact ⟨F1, h1, fun b hf => (h2 b hf).imp id (fun h => Nat.le_trans hb.size h), (Kf.of_below hb).trans (fun b hf => .inl hf) h3⟩
theorem PN.draws (h : PN W B S C T F w w') (hh : w''.heap = w'.heap) (h1 : w''.os = w'.os) (h2 : w''.tape = w'.tape) (h3 : w''.output = w'.output) : PN W B S C T F w w'' :=
  h.later ⟨h1, h2, h3, by rw [hh]; exact Nat.le_refl _, fun k _ => by rw [hh]⟩
theorem PC.draws (h : PC W B S C T F w) (hh : w'.heap = w.heap) (h1 : w'.os = w.os) (h2 : w'.tape = w.tape) (h3 : w'.output = w.output) : PC W B S C T F w' :=
  h.later ⟨h1, h2, h3, by rw [hh]; exact Nat.le_refl _, fun k _ => by rw [hh]⟩
/-- Another block stays. -/
theorem PC.row (h : PC W B S C T F w) (k : Kf F C w w') {b : Nat} {cs : Array Value} {t : TypeId} {f : Nat × Nat} (hb : w.heap[b]? = some (.cells cs t f)) (ht : Oth t) : w'.heap[b]? = some (.cells cs t f) :=
  (k.2 b (lt_of_blk hb) (fun hf => not_isc hb ⟨ht.1, ht.2.1, ht.2.2.1, ht.2.2.2.1⟩ (h.isc hf)) (fun hc => by
    obtain ⟨ds, h9⟩ := h.cblk hc
    exact tag_ne hb h9 ht.2.2.2.2 rfl)).trans hb
theorem set_at {α : Type} {l : List α} {i : Nat} {x y : α} (h : l[i]? = some x) (j : Nat) : (l.set i y)[j]? = if j = i then some y else l[j]? := by
  have hi := (List.getElem?_eq_some_iff.1 h).1
  by_cases e : j = i
  · subst e; rw [List.getElem?_set_self hi, if_pos rfl]
  · rw [List.getElem?_set_ne (fun h => e h.symm), if_neg e]
theorem MD.keepF {ok' : Nat → Prop} {ok : Nat → Prop} (h : MD w ok m t) (hs : w.heap.size ≤ w'.heap.size) (h1 : w'.heap[m]? = w.heap[m]?) (k : ∀ b, b < w.heap.size → ok b → w'.heap[b]? = w.heap[b]?) (k2 : ∀ b, b < w.heap.size → ok b → ok' b) (hn : ¬ ok' m) : MD w' ok' m t :=
  ((h.mono (ok' := fun b => ok b ∧ ok' b) (fun b hb ho => ⟨ho, k2 b hb ho⟩) (fun h => hn h.2)).keep hs h1 fun b hb ho => k b hb ho.1).mono (fun b _ ho => ho.2) hn
/-- One channel, and what it is for all when it turns. -/
theorem PC.chan (h : PC W B S C T F w) (hb : B[i]? = some c) (hi : S[i]? = some s) : ∃ Fi, CH w Fi c s ∧ ∀ s' w', Go Fi c s' w w' → PN W B (S.set i s') C T F w w' := by
  obtain ⟨G, g1, g2, g3, g4⟩ := h.ch
  have hc := g1 i c s hb hi
  have hbel := h.bel
  have hil : i < B.length := (List.getElem?_eq_some_iff.1 hb).1
  refine ⟨G i, hc, fun s' w' g => ?_⟩
  have hbl : Below W.heap.size W w' := hbel.trans (g.below hbel.size fun b hf => h.low b (g2 i b hf).1)
  obtain ⟨F', hc', hs, tn⟩ := g
  have hk : Kf F C w w' := ⟨tn.size, fun k hk hn _ => tn.block k hk fun hf => hn (g2 i k hf).1⟩
  refine ⟨fun b => F' b ∨ ∃ j, j ≠ i ∧ G j b, ⟨hbl, ?_, ⟨fun j b => (j = i ∧ F' b) ∨ (j ≠ i ∧ G j b), ?_, ?_, ?_, ?_⟩, by rw [List.length_set]; exact h.eb, h.ec, ?_, h.nc⟩, ?_, hk⟩
  · rintro b (hf | ⟨j, _, hf⟩)
    · rcases hs b hf with h9 | h9
      · exact h.low b (g2 i b h9).1
      · have := hbel.size; omega
    · exact h.low b (g2 j b hf).1
  · intro j d u hj hu
    rw [set_at hi] at hu
    by_cases e : j = i
    · subst e
      rw [if_pos rfl] at hu
      cases hu
      rw [hb] at hj
      cases hj
      have e9 : (fun b => (j = j ∧ F' b) ∨ (j ≠ j ∧ G j b)) = F' := by funext b; simp
      show CH w' (fun b => (j = j ∧ F' b) ∨ (j ≠ j ∧ G j b)) c s'
      rw [e9]
      exact hc'
    · rw [if_neg e] at hu
      have e9 : (fun b => (j = i ∧ F' b) ∨ (j ≠ i ∧ G j b)) = G j := by funext b; simp [e]
      simp only [e9]
      have hd := g1 j d u hj hu
      exact hd.keep fun b hf => tn.block b (hd.lt hf) fun hf' => e (g4 j i b hf hf')
  · rintro j b (⟨rfl, hf⟩ | ⟨e, hf⟩)
    · exact ⟨.inl hf, hil⟩
    · exact ⟨.inr ⟨j, e, hf⟩, (g2 j b hf).2⟩
  · rintro b (hf | ⟨j, e, hf⟩)
    · exact ⟨i, .inl ⟨rfl, hf⟩⟩
    · exact ⟨j, .inr ⟨e, hf⟩⟩
  · have key : ∀ j b, j ≠ i → G j b → F' b → False := fun j b e hj hk => by
      rcases hs b hk with h9 | h9
      · exact e (g4 j i b hj h9)
      · have := h.lt (g2 j b hj).1; omega
    rintro j k b (⟨rfl, hj⟩ | ⟨ej, hj⟩) (⟨rfl, hk⟩ | ⟨ek, hk⟩)
    · rfl
    · exact (key k b ek hk hj).elim
    · exact (key j b ej hj hk).elim
    · exact g4 j k b hj hk
  · intro j m t hj ht
    obtain ⟨h1, h2⟩ := h.md j m t hj ht
    have hmc : m ∈ C := List.mem_of_getElem? hj
    refine ⟨h1, h2.keepF tn.size (tn.block m h2.lt fun hf => h.nf hmc (g2 i m hf).1) (fun b hb ho => tn.block b hb fun hf => ho.1 (g2 i b hf).1) (fun b hb ho => ⟨?_, ho.2⟩) (fun h9 => h9.2 hmc)⟩
    rintro (hf | ⟨k, _, hf⟩)
    · rcases hs b hf with h9 | h9
      · exact ho.1 (g2 i b h9).1
      · omega
    · exact ho.1 (g2 k b hf).1
  · rintro b (hf | ⟨j, _, hf⟩)
    · rcases hs b hf with h9 | h9
      · exact .inl (g2 i b h9).1
      · exact .inr h9
    · exact .inl (g2 j b hf).1
/-- One of the document's own. -/
theorem PC.model (h : PC W B S C T F w) (hb : C[i]? = some m) (hi : T[i]? = some t) : ∃ ok, MD w ok m t ∧ ∀ t' w', Mo ok m t' w w' → PN W B S C (T.set i t') F w w' := by
  have hbel := h.bel
  obtain ⟨hm0, hmd⟩ := h.md i m t hb hi
  have hmc : m ∈ C := List.mem_of_getElem? hb
  refine ⟨_, hmd, fun t' w' ⟨g, tn⟩ => ?_⟩
  have hbl : Below W.heap.size W w' := hbel.trans (tn.below hbel.size fun b hb => by rw [hb]; exact hm0)
  obtain ⟨G, g1, g2, g3, g4⟩ := h.ch
  have hnm : ∀ b, F b → b ≠ m := fun b hf e => h.nf hmc (e ▸ hf)
  refine ⟨F, ⟨hbl, h.low, ⟨G, fun j c s h1 h2 => ?_, g2, g3, g4⟩, h.eb, by rw [List.length_set]; exact h.ec, fun j n u hj hu => ?_, h.nc⟩, fun b hb => .inl hb, ⟨tn.size, fun k hk hn hc => tn.block k hk fun e => hc (by rw [e]; exact hmc)⟩⟩
  · have hd := g1 j c s h1 h2
    exact hd.keep fun b hf => tn.block b (hd.lt hf) (hnm b (g2 j b hf).1)
  · rw [set_at hi] at hu
    have hjc : n ∈ C := List.mem_of_getElem? hj
    by_cases e : j = i
    · subst e
      rw [if_pos rfl] at hu
      cases hu
      rw [hb] at hj
      cases hj
      refine ⟨hm0, g.mono (fun b _ ho => ?_) (fun h9 => h9.2 hmc)⟩
      rcases ho with ho | ho
      · exact ho
      · refine ⟨fun hf => by have := h.lt hf; omega, fun hbc => ?_⟩
        obtain ⟨cs, h9⟩ := h.cblk hbc
        have := lt_of_blk h9; omega
    · rw [if_neg e] at hu
      obtain ⟨h1, h2⟩ := h.md j n u hj hu
      have hne : n ≠ m := fun e9 => e (by
        subst e9
        have q1 := (List.getElem?_eq_some_iff.1 hj)
        have q2 := (List.getElem?_eq_some_iff.1 hb)
        exact (List.getElem_inj h.nc).1 (q1.2.trans q2.2.symm))
      exact ⟨h1, h2.keep tn.size (tn.block n h2.lt hne) fun b hb ho => tn.block b hb fun e9 => ho.2 (by rw [e9]; exact hmc)⟩
/-- None. -/
theorem PC.nil (W : World) : PC W [] [] [] [] (fun _ => False) W :=
  ⟨Below.refl _ _, fun _ h => h.elim, ⟨fun _ _ => False, fun i c s h => by simp at h, fun _ _ h => h.elim, fun _ h => h.elim, fun _ _ _ h => h.elim⟩, rfl, rfl, fun i m t h => by simp at h, List.nodup_nil⟩
theorem snoc_at {α : Type} {l : List α} {x y : α} {j : Nat} (h : (l ++ [x])[j]? = some y) : (j < l.length ∧ l[j]? = some y) ∨ (j = l.length ∧ y = x) := by
  have hj : j < (l ++ [x]).length := (List.getElem?_eq_some_iff.1 h).1
  rw [List.length_append, List.length_singleton] at hj
  by_cases e : j = l.length
  · subst e; simp at h; exact .inr ⟨rfl, h.symm⟩
  · rw [List.getElem?_append_left (by omega)] at h
    exact .inl ⟨by omega, h⟩
/-- A new channel. -/
theorem PC.addN (h : PC W B S C T F w) {N : Nat → Prop} (hc : CH w' N c s) (hN : ∀ b, N b → w.heap.size ≤ b) (hbw : Below w.heap.size w w') : PC W (B ++ [c]) (S ++ [s]) C T (fun b => F b ∨ N b) w' := by
  have hbel := h.bel
  obtain ⟨G, g1, g2, g3, g4⟩ := h.ch
  refine ⟨hbel.trans (hbw.mono hbel.size), ?_, ⟨fun j b => (j = B.length ∧ N b) ∨ (j < B.length ∧ G j b), ?_, ?_, ?_, ?_⟩, by simp [h.eb], h.ec, ?_, h.nc⟩
  · rintro b (hf | hf)
    · exact h.low b hf
    · have := hN b hf; have := hbel.size; omega
  · intro j d u hj hu
    rcases snoc_at hj with ⟨q1, q2⟩ | ⟨rfl, rfl⟩
    · rcases snoc_at hu with ⟨r1, r2⟩ | ⟨r1, _⟩
      · have e9 : (fun b => (j = B.length ∧ N b) ∨ (j < B.length ∧ G j b)) = G j := by funext b; simp [q1]; omega
        simp only [e9]
        exact (g1 j d u q2 r2).later hbw
      · have := h.eb; omega
    · rcases snoc_at hu with ⟨r1, _⟩ | ⟨_, rfl⟩
      · have := h.eb; omega
      · have e9 : (fun b => (B.length = B.length ∧ N b) ∨ (B.length < B.length ∧ G B.length b)) = N := by funext b; simp
        show CH w' (fun b => (B.length = B.length ∧ N b) ∨ (B.length < B.length ∧ G B.length b)) d u
        rw [e9]
        exact hc
  · rw [List.length_append, List.length_singleton]
    rintro j b (⟨rfl, hf⟩ | ⟨e, hf⟩)
    · exact ⟨.inr hf, by omega⟩
    · exact ⟨.inl (g2 j b hf).1, by omega⟩
  · rintro b (hf | hf)
    · obtain ⟨j, hj⟩ := g3 b hf
      exact ⟨j, .inr ⟨(g2 j b hj).2, hj⟩⟩
    · exact ⟨_, .inl ⟨rfl, hf⟩⟩
  · have key : ∀ j b, G j b → N b → False := fun j b hj hk => by
      have := h.lt (g2 j b hj).1; have := hN b hk; omega
    rintro j k b (⟨rfl, hj⟩ | ⟨ej, hj⟩) (⟨rfl, hk⟩ | ⟨ek, hk⟩)
    · rfl
    · exact (key k b hk hj).elim
    · exact (key j b hj hk).elim
    · exact g4 j k b hj hk
  · intro j m t hj ht
    obtain ⟨h1, h2⟩ := h.md j m t hj ht
    refine ⟨h1, (h2.mono (fun b hb ho => ⟨?_, ho.2⟩) (fun h9 => h9.2 (List.mem_of_getElem? hj))).later hbw⟩
    rintro (hf | hf)
    · exact ho.1 hf
    · have := hN b hf; omega
theorem PC.add (h : PC W B S C T F w) (k : Mk c s w w') : ∃ F', PC W (B ++ [c]) (S ++ [s]) C T F' w' ∧ (∀ b, F' b → F b ∨ w.heap.size ≤ b) ∧ Below w.heap.size w w' := by
  obtain ⟨⟨N, hc, hN⟩, hbw, _⟩ := k
  refine ⟨_, h.addN hc hN hbw, ?_, hbw⟩
  rintro b (hf | hf)
  · exact .inl hf
  · exact .inr (hN b hf)
/-- A pair that was made and acted on since. -/
theorem PC.join (h : PC W B S C T F w) (k : JS w c m s t w') : ∃ F', PC W (B ++ [c]) (S ++ [s]) (C ++ [m]) (T ++ [t]) F' w' := by
  obtain ⟨hbw, N, hc, hN, hmw, hmd⟩ := k
  have hbel := h.bel
  have hCl : ∀ n ∈ C, n < w.heap.size := fun n hn => by obtain ⟨cs, h9⟩ := h.cblk hn; exact lt_of_blk h9
  have h2 := h.addN hc hN hbw
  have hmC : m ∉ C := fun hn => by have := hCl m hn; omega
  refine ⟨_, ⟨h2.bel, h2.low, h2.ch, h2.eb, by simp [h.ec], fun j n u hj hu => ?_, ?_⟩⟩
  · rcases snoc_at hj with ⟨q1, q2⟩ | ⟨rfl, rfl⟩
    · rcases snoc_at hu with ⟨r1, r2⟩ | ⟨r1, _⟩
      · obtain ⟨k1, k2⟩ := h.md j n u q2 r2
        refine ⟨k1, (k2.mono (fun b hb ho => ⟨?_, ?_⟩) (fun h9 => h9.2 (by simp [List.mem_of_getElem? q2]))).later hbw⟩
        · rintro (hf | hf)
          · exact ho.1 hf
          · have := hN b hf; omega
        · intro hb2
          rcases List.mem_append.1 hb2 with hb2 | hb2
          · exact ho.2 hb2
          · simp at hb2; omega
      · have := h.ec; omega
    · rcases snoc_at hu with ⟨r1, _⟩ | ⟨_, rfl⟩
      · have := h.ec; omega
      · refine ⟨Nat.le_trans hbel.size hmw, hmd.mono (fun b hb ho => ⟨?_, ?_⟩) (fun h9 => h9.2 (by simp))⟩
        · rintro (hf | hf)
          · have := h.lt hf; omega
          · exact ho.2.1 hf
        · intro hb2
          rcases List.mem_append.1 hb2 with hb2 | hb2
          · have := hCl b hb2; omega
          · simp at hb2; exact ho.2.2 hb2
  · rw [List.nodup_append]
    exact ⟨h.nc, by simp, fun a ha b hb e => by simp at hb; subst hb; subst e; exact hmC ha⟩
/-- One pair alone. -/
theorem PC.js (h : PC W B S C T F w) {j : Nat} (h1 : B[i]? = some c) (h2 : S[i]? = some s) (h3 : C[j]? = some m) (h4 : T[j]? = some t) : ∃ W0, JS W0 c m s t w := by
  obtain ⟨Fi, hc, _⟩ := h.chan h1 h2
  obtain ⟨G, g1, g2, g3, g4⟩ := h.ch
  obtain ⟨_, hmd⟩ := h.md j m t h3 h4
  refine ⟨{ w with heap := #[] }, ⟨rfl, rfl, rfl, Nat.zero_le _, fun k hk => by simp at hk⟩, G i, g1 i c s h1 h2, fun b _ => Nat.zero_le _, Nat.zero_le _, hmd.mono (fun b hb ho => ⟨Nat.zero_le _, fun hf => ho.1 (g2 i b hf).1, fun e => ho.2 (by rw [e]; exact List.mem_of_getElem? h3)⟩) (fun h9 => h9.2.2 rfl)⟩
end
end Go.Proofs.Ytmcacmbllpphiaa
