/- Several channels of a law's own, side by side, and what each call does among them. Conditions: each theorem's own premises. -/
import Derived.Test.YtmadcnpkaijllaaCWai
import Derived.Test.YtmadcnpkaijllaaCRcv
namespace Go.Proofs.Ytmadcnpkaijllaa.Ch
open Go.RowKit
set_option linter.unusedVariables false
set_option maxRecDepth 100000

/-- Nothing has turned but channels' blocks, and new ones. -/
def Kp (w w' : World) : Prop := w.heap.size ≤ w'.heap.size ∧ ∀ k, k < w.heap.size → ¬ IsC w k → w'.heap[k]? = w.heap[k]?
theorem Kp.refl (w : World) : Kp w w := ⟨Nat.le_refl _, fun _ _ _ => rfl⟩
theorem Kp.of_below {w w' : World} (h : Below w.heap.size w w') : Kp w w' := ⟨h.size, fun k hk _ => h.block k hk⟩
theorem Kp.at {w w' : World} (h : Kp w w') {k : Nat} {cs : Array Value} {t : TypeId} {f : Nat × Nat} (hk : w.heap[k]? = some (.cells cs t f)) (ht : t ≠ 89 ∧ t ≠ 111 ∧ t ≠ 3 ∧ t ≠ 115) : w'.heap[k]? = some (.cells cs t f) :=
  (h.2 k (lt_of_blk hk) (not_isc hk ht)).trans hk
theorem RdK.kp {w w' : World} {A : Option Addr} {n : Nat} {l : List Wk} (h : RdK w A n l) (k : Kp w w') : RdK w' A n l := h.keep fun b cs e => k.2 b (lt_of_blk e) (not_isc e (by decide))

/-- Channels of the call's own, each with what it is. -/
structure MS (W : World) (L : List (Nat × CS)) (w : World) : Prop where
  bel : Below W.heap.size W w
  ch : ∃ F : Nat → Nat → Prop, (∀ i c s, L[i]? = some (c, s) → CH w (F i) c s) ∧ (∀ i b, F i b → W.heap.size ≤ b ∧ i < L.length) ∧ ∀ i j b, F i b → F j b → i = j
section
variable {W w w' : World} {L : List (Nat × CS)} {i c : Nat} {s s' : CS}
theorem MS.nil (W : World) : MS W [] W := ⟨Below.refl _ _, fun _ _ => False, fun i c s h => by simp at h, fun _ _ h => h.elim, fun _ _ _ h => h.elim⟩
theorem MS.at (h : MS W L w) (hi : L[i]? = some (c, s)) : ∃ F, CH w F c s ∧ ∀ s' w', Go F c s' w w' → MS W (L.set i (c, s')) w' ∧ Kp w w' := by
  obtain ⟨hb, F, h1, h2, h3⟩ := h
  have hc := h1 i c s hi
  have hil : i < L.length := (List.getElem?_eq_some_iff.1 hi).1
  refine ⟨F i, hc, fun s' w' g => ⟨⟨hb.trans (g.below hb.size fun b hf => (h2 i b hf).1), ?_⟩, g.tn.size, fun k hk hn => g.other hc hk hn⟩⟩
  obtain ⟨F', hc', hs, t⟩ := g
  refine ⟨fun j => if j = i then F' else F j, fun j d u hj => ?_, fun j b hf => ?_, fun j k b hj hk => ?_⟩
  · by_cases e : j = i
    · subst e
      rw [List.getElem?_set_self hil] at hj
      cases hj
      simpa using hc'
    · rw [List.getElem?_set_ne (fun h => e h.symm)] at hj
      simp only [if_neg e]
      have hd := h1 j d u hj
      exact hd.keep fun b hf => t.block b (hd.lt hf) fun hf' => e (h3 j i b hf hf')
  · rw [List.length_set]
    by_cases e : j = i
    · subst e
      simp only at hf
      rcases hs b hf with hf | hf
      · exact h2 j b hf
      · exact ⟨by have := hb.size; omega, hil⟩
    · simp only [if_neg e] at hf
      exact h2 j b hf
  · have key : ∀ j k, j ≠ i → k = i → F j b → F' b → False := fun j k e e2 hj hk => by
      have hjl := (h2 j b hj).2
      have hd := h1 j (L[j]).1 (L[j]).2 (by rw [List.getElem?_eq_getElem hjl])
      rcases hs b hk with hf | hf
      · exact e (h3 j i b hj hf)
      · have := hd.lt hj; omega
    by_cases e : j = i
    · by_cases e2 : k = i
      · rw [e, e2]
      · simp only [if_pos e] at hj; simp only [if_neg e2] at hk
        exact (key k j e2 e hk hj).elim
    · by_cases e2 : k = i
      · simp only [if_neg e] at hj; simp only [if_pos e2] at hk
        exact (key j k e e2 hj hk).elim
      · simp only [if_neg e] at hj; simp only [if_neg e2] at hk
        exact h3 j k b hj hk
theorem MS.later (h : MS W L w) (hb : Below w.heap.size w w') : MS W L w' := by
  obtain ⟨h0, F, h1, h2, h3⟩ := h
  exact ⟨h0.trans (hb.mono h0.size), F, fun i c s hi => (h1 i c s hi).later hb, h2, h3⟩
theorem MS.alloc (h : MS W L w) (o : Obj) : MS W L (w.alloc o) := h.later (below_al w o)
theorem MS.draws (h : MS W L w) (hh : w'.heap = w.heap) (h1 : w'.os = w.os) (h2 : w'.tape = w.tape) (h3 : w'.output = w.output) : MS W L w' :=
  h.later ⟨h1, h2, h3, by rw [hh]; exact Nat.le_refl _, fun k _ => by rw [hh]⟩
theorem MS.drewN (h : MS W L w) (n : Nat) : MS W L (w.drewN n) := h.draws rfl rfl rfl rfl
theorem MS.add (h : MS W L w) (m : Mk c s w w') : MS W (L ++ [(c, s)]) w' := by
  obtain ⟨h0, F, h1, h2, h3⟩ := h
  obtain ⟨⟨G, hc, hg⟩, hb, _⟩ := m
  have hlt : ∀ j b, F j b → b < w.heap.size := fun j b hf => by
    have hj := (h2 j b hf).2
    exact (h1 j (L[j]).1 (L[j]).2 (by rw [List.getElem?_eq_getElem hj])).lt hf
  refine ⟨h0.trans (hb.mono h0.size), fun j => if j = L.length then G else F j, fun j d u hj => ?_, fun j b hf => ?_, fun j k b hj hk => ?_⟩
  · by_cases e : j = L.length
    · subst e
      simp at hj
      obtain ⟨rfl, rfl⟩ := hj
      simpa using hc
    · have hjl : j < (L ++ [(c, s)]).length := (List.getElem?_eq_some_iff.1 hj).1
      simp at hjl
      rw [List.getElem?_append_left (by omega)] at hj
      simp only [if_neg e]
      exact (h1 j d u hj).later hb
  · rw [List.length_append, List.length_singleton]
    by_cases e : j = L.length
    · simp only [if_pos e] at hf
      exact ⟨by have := hg b hf; have := h0.size; omega, by omega⟩
    · simp only [if_neg e] at hf
      exact ⟨(h2 j b hf).1, by have := (h2 j b hf).2; omega⟩
  · by_cases e : j = L.length
    · by_cases e2 : k = L.length
      · rw [e, e2]
      · simp only [if_pos e] at hj; simp only [if_neg e2] at hk
        have := hg b hj; have := hlt k b hk; omega
    · by_cases e2 : k = L.length
      · simp only [if_neg e] at hj; simp only [if_pos e2] at hk
        have := hg b hk; have := hlt j b hj; omega
      · simp only [if_neg e] at hj; simp only [if_neg e2] at hk
        exact h3 j k b hj hk

/-! The calls. -/
theorem ms_timed (h : MS W L w) : Calls Try.prog 63 #[] w fun e w' => ∃ c, e = .returned (.pointer (some ⟨c, 0, none⟩)) ∧ MS W (L ++ [(c, ⟨1, false, 1, [], [], []⟩)]) w' ∧ Kp w w' := by
  refine (timed_any w).mono ?_
  rintro e w' ⟨c, rfl, m⟩
  exact ⟨c, rfl, h.add m, .of_below m.bel⟩
variable {ws : List Wk} {d : Bool} {n : Nat}
theorem ms_recv {v : Int} {ok : Bool} (h : MS W L w) (hi : L[i]? = some (c, s)) (hn : s.ss.length ≤ 1000000) (hg : rc s = (s', v, ok, d, ws)) (hl : ws.length = n) :
    Calls Try.prog 16 #[.pointer (some ⟨c, 0, none⟩)] w fun e w' => ∃ A cap, e = .returned (.tuple #[.int .i64 v, .bool ok, .bool d, .slice A n cap]) ∧ RdK w' A n ws ∧ MS W (L.set i (c, s')) w' ∧ Kp w w' := by
  subst hl
  obtain ⟨F, hch, bk⟩ := h.at hi
  refine (recv_any hch hn).mono ?_
  rw [hg]
  rintro e w' ⟨A, cap, rfl, hr, g⟩
  exact ⟨A, cap, rfl, hr, bk _ _ g⟩
theorem ms_wait (x : Wt) (b : Bool) {r : Int} (hx : Wf x.t) (h : MS W L w) (hi : L[i]? = some (c, s)) (hn : ∀ b, (s.q b).length ≤ 1000000) (hg : wt s x b = (s', r)) :
    Calls Try.prog 29 #[.pointer (some ⟨c, 0, none⟩), wG x, .bool b] w fun e w' => e = .returned (.int .i64 r) ∧ MS W (L.set i (c, s')) w' ∧ Kp w w' := by
  obtain ⟨F, hch, bk⟩ := h.at hi
  refine (wait_any x b hx hch hn).mono ?_
  rw [hg]
  rintro e w' ⟨rfl, g⟩
  exact ⟨rfl, bk _ _ g⟩
theorem ms_can (b : Bool) (h : MS W L w) (hi : L[i]? = some (c, s)) : Calls Try.prog 18 #[.pointer (some ⟨c, 0, none⟩), .bool b] w fun e w' => e = .returned (.bool (can s b)) ∧ ∃ n, w' = w.drewN n := by
  obtain ⟨F, hch, _⟩ := h.at hi
  exact can_any b hch
theorem ms_put (v : Int) (h : MS W L w) (hi : L[i]? = some (c, s)) (hk : s.kd = 1) (hn : s.rs.length ≤ 1000000) (hg : gv s v = (s', ws, d)) (hl : ws.length = n) :
    Calls Try.prog 33 #[.pointer (some ⟨c, 0, none⟩), .int .i64 v] w fun e w' => ∃ A cap, e = .returned (.tuple #[.slice A n cap, .bool d]) ∧ RdK w' A n ws ∧ MS W (L.set i (c, s')) w' ∧ Kp w w' := by
  subst hl
  obtain ⟨F, hch, bk⟩ := h.at hi
  refine (put_any v hch hk hn).mono ?_
  rw [hg]
  rintro e w' ⟨A, cap, rfl, hr, g⟩
  exact ⟨A, cap, rfl, hr, bk _ _ g⟩
theorem ms_put_kind (v : Int) (h : MS W L w) (hi : L[i]? = some (c, s)) (hk : s.kd ≠ 1) :
    Calls Try.prog 33 #[.pointer (some ⟨c, 0, none⟩), .int .i64 v] w fun e w' => e = .returned (.tuple #[.slice none 0 0, .bool false]) ∧ w = w' := by
  obtain ⟨F, hch, _⟩ := h.at hi
  exact put_kind v hch hk
theorem ms_drop (h : MS W L w) (hi : L[i]? = some (c, s)) (hk : s.kd = 1) :
    Calls Try.prog 60 #[.pointer (some ⟨c, 0, none⟩)] w fun e w' => e = .returned (.bool (decide (0 < s.l.length))) ∧ MS W (L.set i (c, { s with l := [] })) w' ∧ Kp w w' := by
  obtain ⟨F, hch, bk⟩ := h.at hi
  refine (drop_any hch hk).mono ?_
  rintro e w' ⟨rfl, g⟩
  exact ⟨rfl, bk _ _ g⟩
theorem ms_drop_kind (h : MS W L w) (hi : L[i]? = some (c, s)) (hk : s.kd ≠ 1) :
    Calls Try.prog 60 #[.pointer (some ⟨c, 0, none⟩)] w fun e w' => e = .returned (.bool false) ∧ w = w' := by
  obtain ⟨F, hch, _⟩ := h.at hi
  exact drop_kind hch hk
theorem ms_len (h : MS W L w) (hi : L[i]? = some (c, s)) : Calls Try.prog 20 #[.pointer (some ⟨c, 0, none⟩)] w fun e w' => e = .returned (.int .i64 (if s.kd = 1 then 0 else s.l.length)) ∧ w = w' := by
  obtain ⟨F, hch, _⟩ := h.at hi
  exact len_chan hch
theorem ms_cap (h : MS W L w) (hi : L[i]? = some (c, s)) : Calls Try.prog 21 #[.pointer (some ⟨c, 0, none⟩)] w fun e w' => e = .returned (.int .i64 (if s.kd = 1 then 0 else s.sz)) ∧ w = w' := by
  obtain ⟨F, hch, _⟩ := h.at hi
  exact cap_chan hch
theorem ms_waiting (b : Bool) (h : MS W L w) (hi : L[i]? = some (c, s)) (hn : (s.q b).length ≤ 1000000) : Calls Try.prog 30 #[.pointer (some ⟨c, 0, none⟩), .bool b] w (AllR (s.q b) w) := by
  obtain ⟨F, hch, _⟩ := h.at hi
  exact waiting_any b hch hn
end
end Go.Proofs.Ytmadcnpkaijllaa.Ch
