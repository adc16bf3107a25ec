/- Several channels of a law's own, side by side, and what each call does among them. Conditions: each theorem's own premises.
A set of timers in memory; what carries it. No condition.
What Len, get, Kind, Chan, Gen, Next, New of package timer answer, and what the timers and channels of a set do. Conditions: each theorem's own premises. -/
import Derived.Test.YtdpapnfjpefhkaaCShWm
import Derived.Test.YtdpapnfjpefhkaaZerm
namespace Go.Proofs.Ytdpapnfjpefhkaa.Ch
open Go.RowKit
set_option linter.unusedVariables false
set_option maxRecDepth 100000

/-- Nothing has turned but channels' blocks, and new ones. -/
def Kp (w w' : World) : Prop := w.heap.size ≤ w'.heap.size ∧ ∀ k, k < w.heap.size → ¬ IsC w k → w'.heap[k]? = w.heap[k]?
theorem Kp.refl (w : World) : Kp w w := ⟨Nat.le_refl _, fun _ _ _ => rfl⟩
theorem Kp.of_below {w w' : World} (h : Below w.heap.size w w') : Kp w w' := ⟨h.size, fun k hk _ => h.block k hk⟩
theorem Kp.at {w w' : World} (h : Kp w w') {k : Nat} {cs : Array Value} {t : TypeId} {f : Nat × Nat} (hk : w.heap[k]? = some (.cells cs t f)) (ht : t ≠ 128 ∧ t ≠ 186 ∧ t ≠ 3 ∧ t ≠ 161) : w'.heap[k]? = some (.cells cs t f) :=
  (h.2 k (lt_of_blk hk) (not_isc hk ht)).trans hk
theorem RdK.kp {w w' : World} {A : Option Addr} {n : Nat} {l : List Wk} (h : RdK w A n l) (k : Kp w w') : RdK w' A n l := h.keep fun b cs e => k.2 b (lt_of_blk e) (not_isc e (by decide))

/-- Channels of the call's own, each with what it is. -/
structure MS (W : World) (L : List (Nat × CS)) (w : World) : Prop where
  bel : Below W.heap.size W w
  ch : ∃ F : Nat → Nat → Prop, (∀ i c s, L[i]? = some (c, s) → CH w (F i) c s) ∧ (∀ i b, F i b → W.heap.size ≤ b ∧ i < L.length) ∧ ∀ i j b, F i b → F j b → i = j
section
variable {W w w' : World} {L : List (Nat × CS)} {i c : Nat} {s s' : CS}
theorem MS.nil (W : World) : MS W [] W := ⟨Below.refl _ _, fun _ _ => False, fun i c s h => by simp at h, fun _ _ h => h.elim, fun _ _ _ h => h.elim⟩
theorem MS.at (h : MS W L w) (hi : L[i]? = some (c, s)) : ∃ F, CH w F c s ∧ ∀ s' w', Go F c s' w w' → MS W (L.set i (c, s')) w' ∧ Kp w w' := by
  obtain ⟨hb, F, h1, h2, h3⟩ := h
  have hc := h1 i c s hi
  have hil : i < L.length := (List.getElem?_eq_some_iff.1 hi).1
  refine ⟨F i, hc, fun s' w' g => ⟨⟨hb.trans (g.below hb.size fun b hf => (h2 i b hf).1), ?_⟩, g.tn.size, fun k hk hn => g.other hc hk hn⟩⟩
  obtain ⟨F', hc', hs, t⟩ := g
  refine ⟨fun j => if j = i then F' else F j, fun j d u hj => ?_, fun j b hf => ?_, fun j k b hj hk => ?_⟩
  · by_cases e : j = i
    · subst e
      rw [List.getElem?_set_self hil] at hj
      cases hj
      simpa using hc'
    · rw [List.getElem?_set_ne (fun h => e h.symm)] at hj
      simp only [if_neg e]
      have hd := h1 j d u hj
      exact hd.keep fun b hf => t.block b (hd.lt hf) fun hf' => e (h3 j i b hf hf')
  · rw [List.length_set]
    by_cases e : j = i
    · subst e
      simp only at hf
      rcases hs b hf with hf | hf
      · exact h2 j b hf
      · exact ⟨by have := hb.size; omega, hil⟩
    · simp only [if_neg e] at hf
      exact h2 j b hf
  · have key : ∀ j k, j ≠ i → k = i → F j b → F' b → False := fun j k e e2 hj hk => by
      have hjl := (h2 j b hj).2
      have hd := h1 j (L[j]).1 (L[j]).2 (by rw [List.getElem?_eq_getElem hjl])
      rcases hs b hk with hf | hf
      · exact e (h3 j i b hj hf)
      · have := hd.lt hj; omega
    by_cases e : j = i
    · by_cases e2 : k = i
      · rw [e, e2]
      · simp only [if_pos e] at hj; simp only [if_neg e2] at hk
        exact (key k j e2 e hk hj).elim
    · by_cases e2 : k = i
      · simp only [if_neg e] at hj; simp only [if_pos e2] at hk
        exact (key j k e e2 hj hk).elim
      · simp only [if_neg e] at hj; simp only [if_neg e2] at hk
        exact h3 j k b hj hk
theorem MS.later (h : MS W L w) (hb : Below w.heap.size w w') : MS W L w' := by
  obtain ⟨h0, F, h1, h2, h3⟩ := h
  exact ⟨h0.trans (hb.mono h0.size), F, fun i c s hi => (h1 i c s hi).later hb, h2, h3⟩
theorem MS.alloc (h : MS W L w) (o : Obj) : MS W L (w.alloc o) := h.later (below_al w o)
theorem MS.draws (h : MS W L w) (hh : w'.heap = w.heap) (h1 : w'.os = w.os) (h2 : w'.tape = w.tape) (h3 : w'.output = w.output) : MS W L w' :=
  h.later ⟨h1, h2, h3, by rw [hh]; exact Nat.le_refl _, fun k _ => by rw [hh]⟩
theorem MS.drewN (h : MS W L w) (n : Nat) : MS W L (w.drewN n) := h.draws rfl rfl rfl rfl
theorem MS.add (h : MS W L w) (m : Mk c s w w') : MS W (L ++ [(c, s)]) w' := by
  obtain ⟨h0, F, h1, h2, h3⟩ := h
  obtain ⟨⟨G, hc, hg⟩, hb, _⟩ := m
  have hlt : ∀ j b, F j b → b < w.heap.size := fun j b hf => by
    have hj := (h2 j b hf).2
    exact (h1 j (L[j]).1 (L[j]).2 (by rw [List.getElem?_eq_getElem hj])).lt hf
  refine ⟨h0.trans (hb.mono h0.size), fun j => if j = L.length then G else F j, fun j d u hj => ?_, fun j b hf => ?_, fun j k b hj hk => ?_⟩
  · by_cases e : j = L.length
    · subst e
      simp at hj
      obtain ⟨rfl, rfl⟩ := hj
      simpa using hc
    · have hjl : j < (L ++ [(c, s)]).length := (List.getElem?_eq_some_iff.1 hj).1
      simp at hjl
      rw [List.getElem?_append_left (by omega)] at hj
      simp only [if_neg e]
      exact (h1 j d u hj).later hb
  · rw [List.length_append, List.length_singleton]
    by_cases e : j = L.length
    · simp only [if_pos e] at hf
      exact ⟨by have := hg b hf; have := h0.size; omega, by omega⟩
    · simp only [if_neg e] at hf
      exact ⟨(h2 j b hf).1, by have := (h2 j b hf).2; omega⟩
  · by_cases e : j = L.length
    · by_cases e2 : k = L.length
      · rw [e, e2]
      · simp only [if_pos e] at hj; simp only [if_neg e2] at hk
        have := hg b hj; have := hlt k b hk; omega
    · by_cases e2 : k = L.length
      · simp only [if_neg e] at hj; simp only [if_pos e2] at hk
        have := hg b hk; have := hlt j b hj; omega
      · simp only [if_neg e] at hj; simp only [if_neg e2] at hk
        exact h3 j k b hj hk

/-! The calls. -/
theorem ms_signal (h : MS W L w) : Calls Try.prog 34 #[] w fun e w' => ∃ c, e = .returned (.pointer (some ⟨c, 0, none⟩)) ∧ MS W (L ++ [(c, ⟨2, false, 0, [], [], []⟩)]) w' ∧ Kp w w' := by
  refine (signal_any w).mono ?_
  rintro e w' ⟨c, rfl, m⟩
  exact ⟨c, rfl, h.add m, .of_below m.bel⟩
variable {ws : List Wk} {d : Bool} {n : Nat}
theorem ms_end (h : MS W L w) (hi : L[i]? = some (c, s)) (hk : s.kd = 2) (hc : s.cl = false) (hn : s.ss.length ≤ 1000000) (hm : s.rs.length ≤ 1000000) (ht : tot s = ws) (hl : ws.length = n) :
    Calls Try.prog 69 #[.pointer (some ⟨c, 0, none⟩)] w fun e w' => ∃ A cap, e = .returned (.slice A n cap) ∧ RdK w' A n ws ∧ MS W (L.set i (c, done s)) w' ∧ Kp w w' := by
  subst hl
  obtain ⟨F, hch, bk⟩ := h.at hi
  refine (end_any hch hk hc hn hm).mono ?_
  rw [← ht]
  rintro e w' ⟨A, cap, rfl, hr, g⟩
  exact ⟨A, cap, rfl, hr, bk _ _ g⟩
theorem ms_end_not (h : MS W L w) (hi : L[i]? = some (c, s)) (hk : s.kd ≠ 2 ∨ s.cl = true) :
    Calls Try.prog 69 #[.pointer (some ⟨c, 0, none⟩)] w fun e w' => e = .returned (.slice none 0 0) ∧ w = w' := by
  obtain ⟨F, hch, _⟩ := h.at hi
  exact end_not hch hk
theorem ms_wait (x : Wt) (b : Bool) {r : Int} (hx : Wf x.t) (h : MS W L w) (hi : L[i]? = some (c, s)) (hn : ∀ b, (s.q b).length ≤ 1000000) (hg : wt s x b = (s', r)) :
    Calls Try.prog 27 #[.pointer (some ⟨c, 0, none⟩), wG x, .bool b] w fun e w' => e = .returned (.int .i64 r) ∧ MS W (L.set i (c, s')) w' ∧ Kp w w' := by
  obtain ⟨F, hch, bk⟩ := h.at hi
  refine (wait_any x b hx hch hn).mono ?_
  rw [hg]
  rintro e w' ⟨rfl, g⟩
  exact ⟨rfl, bk _ _ g⟩
theorem ms_put (v : Int) (h : MS W L w) (hi : L[i]? = some (c, s)) (hk : s.kd = 1) (hn : s.rs.length ≤ 1000000) (hg : gv s v = (s', ws, d)) (hl : ws.length = n) :
    Calls Try.prog 42 #[.pointer (some ⟨c, 0, none⟩), .int .i64 v] w fun e w' => ∃ A cap, e = .returned (.tuple #[.slice A n cap, .bool d]) ∧ RdK w' A n ws ∧ MS W (L.set i (c, s')) w' ∧ Kp w w' := by
  subst hl
  obtain ⟨F, hch, bk⟩ := h.at hi
  refine (put_any v hch hk hn).mono ?_
  rw [hg]
  rintro e w' ⟨A, cap, rfl, hr, g⟩
  exact ⟨A, cap, rfl, hr, bk _ _ g⟩
theorem ms_put_kind (v : Int) (h : MS W L w) (hi : L[i]? = some (c, s)) (hk : s.kd ≠ 1) :
    Calls Try.prog 42 #[.pointer (some ⟨c, 0, none⟩), .int .i64 v] w fun e w' => e = .returned (.tuple #[.slice none 0 0, .bool false]) ∧ w = w' := by
  obtain ⟨F, hch, _⟩ := h.at hi
  exact put_kind v hch hk
theorem ms_drop (h : MS W L w) (hi : L[i]? = some (c, s)) (hk : s.kd = 1) :
    Calls Try.prog 92 #[.pointer (some ⟨c, 0, none⟩)] w fun e w' => e = .returned (.bool (decide (0 < s.l.length))) ∧ MS W (L.set i (c, { s with l := [] })) w' ∧ Kp w w' := by
  obtain ⟨F, hch, bk⟩ := h.at hi
  refine (drop_any hch hk).mono ?_
  rintro e w' ⟨rfl, g⟩
  exact ⟨rfl, bk _ _ g⟩
theorem ms_drop_kind (h : MS W L w) (hi : L[i]? = some (c, s)) (hk : s.kd ≠ 1) :
    Calls Try.prog 92 #[.pointer (some ⟨c, 0, none⟩)] w fun e w' => e = .returned (.bool false) ∧ w = w' := by
  obtain ⟨F, hch, _⟩ := h.at hi
  exact drop_kind hch hk
theorem ms_closed (h : MS W L w) (hi : L[i]? = some (c, s)) : Calls Try.prog 26 #[.pointer (some ⟨c, 0, none⟩)] w fun e w' => e = .returned (.bool s.cl) ∧ w = w' := by
  obtain ⟨F, hch, _⟩ := h.at hi
  exact closed_chan hch
theorem ms_waiting (b : Bool) (h : MS W L w) (hi : L[i]? = some (c, s)) (hn : (s.q b).length ≤ 1000000) : Calls Try.prog 28 #[.pointer (some ⟨c, 0, none⟩), .bool b] w (AllR (s.q b) w) := by
  obtain ⟨F, hch, _⟩ := h.at hi
  exact waiting_any b hch hn
end
end Go.Proofs.Ytdpapnfjpefhkaa.Ch
namespace Go.Proofs.Ytdpapnfjpefhkaa
open Go.RowKit Ch
set_option linter.unusedVariables false
set_option maxRecDepth 100000

/-- Another block, by its tag. -/
def OthZ (ty : TypeId) : Prop := ty ≠ 179 ∧ ty ≠ 150 ∧ ty ≠ 99 ∧ ty ≠ 114
instance (ty : TypeId) : Decidable (OthZ ty) := inferInstanceAs (Decidable (_ ∧ _))
/-- No other block has turned. -/
def OZ (w w' : World) : Prop := w.heap.size ≤ w'.heap.size ∧ ∀ (k : Nat) (cs : Array Value) (ty : TypeId) (fr : Nat × Nat), w.heap[k]? = some (.cells cs ty fr) → OthZ ty → w'.heap[k]? = some (.cells cs ty fr)
theorem OZ.refl (w : World) : OZ w w := ⟨Nat.le_refl _, fun _ _ _ _ h _ => h⟩
theorem OZ.trans {u v w : World} (h : OZ u v) (k : OZ v w) : OZ u w := ⟨Nat.le_trans h.1 k.1, fun i cs ty fr h1 h2 => k.2 i cs ty fr (h.2 i cs ty fr h1 h2) h2⟩
theorem OZ.of_below {w w' : World} (h : Below w.heap.size w w') : OZ w w' := ⟨h.size, fun k cs ty fr h1 _ => (h.block k (lt_of_blk h1)).trans h1⟩
theorem OY.oz {w w' : World} (h : OY w w') (hl : w.heap.size ≤ w'.heap.size) : OZ w w' := ⟨hl, fun k cs ty fr h1 h2 => h k cs ty fr h1 h2.1 h2.2.1 h2.2.2.1⟩
/-- The timers' own blocks, by what they are. -/
def IsT (w : World) (j : Nat) : Prop := (∃ cs ty fr, w.heap[j]? = some (.cells cs ty fr) ∧ (ty = 179 ∨ ty = 150 ∨ ty = 99)) ∨ ∃ es cl, w.heap[j]? = some (.map es cl)
section
variable {W w w' : World} {B t n : Nat} {vA vL : Value} {S : List It} {g : Int → Int} {L : List (Nat × CS)}
theorem TU.keep (h : TU B t vA vL n S g w) (k : ∀ j, j < w.heap.size → IsT w j → w'.heap[j]? = w.heap[j]?) : TU B t vA vL n S g w' := by
  rcases h with ⟨h, r⟩ | ⟨o, b, c, p, N, hN, h⟩
  · exact .inl ⟨⟨h.1, (k t (lt_of_blk h.2) (.inl ⟨_, _, _, h.2, by simp⟩)).trans h.2⟩, r⟩
  · refine .inr ⟨o, b, c, p, N, hN, ?_⟩
    refine ⟨h.hg.keep (k o h.hg.lo ?_) (k b h.hg.lb (.inr h.hg.tb)) (fun j hj => k j (h.hg.lp hj).2 ?_), (k t h.lt (.inl ⟨_, _, _, h.ht, by simp⟩)).trans h.ht, h.pm.keep (k c h.pm.lt (.inr h.pm.blk)), h.ok, h.gt, h.gc, h.ne⟩
    · obtain ⟨cs, fr, e⟩ := h.hg.to
      exact .inl ⟨_, _, _, e, by simp⟩
    · obtain ⟨cs, fr, e⟩ := h.hg.tp hj
      exact .inl ⟨_, _, _, e, by simp⟩
theorem not_ist_c {j : Nat} (h : IsT w j) : ¬ IsC w j := by
  rcases h with ⟨cs, ty, fr, h1, h2⟩ | ⟨es, cl, h1⟩
  · refine not_isc h1 ?_
    rcases h2 with rfl | rfl | rfl <;> decide
  · rintro ⟨cs, ty, h3, _⟩
    rw [h1] at h3; cases h3
theorem TU.kp (h : TU B t vA vL n S g w) (k : Kp w w') : TU B t vA vL n S g w' := h.keep fun j hj hi => k.2 j hj (not_ist_c hi)
/-- Nothing but rows of one tag has turned. -/
def Ex (ty : TypeId) (w w' : World) : Prop := w.heap.size ≤ w'.heap.size ∧ ∀ j, j < w.heap.size → (∀ cs fr, w.heap[j]? ≠ some (.cells cs ty fr)) → w'.heap[j]? = w.heap[j]?
theorem TU.ex (h : TU B t vA vL n S g w) (k : Ex 114 w w') : TU B t vA vL n S g w' := h.keep fun j hj hi => k.2 j hj fun cs fr e => by
  rcases hi with ⟨cs', ty, fr', h1, h2⟩ | ⟨es, cl, h1⟩
  · rw [e] at h1; injection h1 with h1; injection h1 with _ h1 _; subst h1
    rcases h2 with h2 | h2 | h2 <;> exact absurd h2 (by decide)
  · rw [e] at h1; cases h1
theorem Ch.MS.ex {ty : TypeId} (h : MS W L w) (k : Ex ty w w') (hb : Below W.heap.size W w') (ht : ty ≠ 128 ∧ ty ≠ 186 ∧ ty ≠ 3 ∧ ty ≠ 161) : MS W L w' := by
  obtain ⟨h0, F, h1, h2, h3⟩ := h
  refine ⟨hb, F, fun i c s hi => ?_, h2, h3⟩
  have hc := h1 i c s hi
  exact hc.keep fun b hf => k.2 b (hc.lt hf) fun cs fr e => not_isc e ht (hc.tag hf)
theorem Ch.MS.oy (h : MS W L w) (k : OY w w') (hb : Below W.heap.size W w') : MS W L w' := by
  obtain ⟨h0, F, h1, h2, h3⟩ := h
  refine ⟨hb, F, fun i c s hi => ?_, h2, h3⟩
  have hc := h1 i c s hi
  refine hc.keep fun b hf => ?_
  obtain ⟨cs, ty, e1, e2⟩ := hc.tag hf
  rw [e1]
  refine k b cs ty _ e1 ?_ ?_ ?_ <;> (rcases e2 with rfl | rfl | rfl | rfl <;> decide)
theorem OY.row {B e s n c : Nat} {P : Option Addr} {xs : List Value} (h : OY w w') (r : w.ownsRow B e s (.slice P n c) n xs) (h1 : e ≠ 179) (h2 : e ≠ 150) (h3 : e ≠ 99) : w'.ownsRow B e s (.slice P n c) n xs :=
  row_keep r fun k hk => by
    obtain ⟨cs, fr, ht⟩ := row_tag r hk
    rw [ht]; exact h k cs e fr ht h1 h2 h3
theorem Ch.Kp.rowz {B e s n c : Nat} {P : Option Addr} {xs : List Value} (h : Kp w w') (r : w.ownsRow B e s (.slice P n c) n xs) (he : e ≠ 128 ∧ e ≠ 186 ∧ e ≠ 3 ∧ e ≠ 161) : w'.ownsRow B e s (.slice P n c) n xs :=
  row_keep r fun k hk => by
    obtain ⟨cs, fr, ht⟩ := row_tag r hk
    rw [ht]; exact h.at ht he
/-- The slice of all, and how many are limited, are others. -/
theorem TU.setA (h : TU B t vA vL n S g w) (u : Value) : TU B t u vL n S g (w.setCell ⟨t, 0, none⟩ u) := by
  have key : ∀ k, k ≠ t → (w.setCell ⟨t, 0, none⟩ u).heap[k]? = w.heap[k]? := fun k hk => Below.heap_setCell _ _ _ _ (by exact hk)
  rcases h with ⟨h, r⟩ | ⟨o, b, c, p, N, hN, h⟩
  · exact .inl ⟨⟨h.1, heap_setCell_same w t 0 _ _ u h.2⟩, r⟩
  · obtain ⟨⟨a1, a2, a3⟩, a4, a5, a6⟩ := h.apart
    exact .inr ⟨o, b, c, p, N, hN, ⟨h.hg.keep (key o a1.symm) (key b a2.symm) (fun k hk => key k fun e => a3 (by rw [← e]; exact hk)), heap_setCell_same w t 0 _ _ u h.ht, h.pm.keep (key c a6.symm), h.ok, h.gt, h.gc, h.ne⟩⟩
theorem TU.setL (h : TU B t vA vL n S g w) (u : Value) : TU B t vA u n S g (w.setCell ⟨t, 3, none⟩ u) := by
  have key : ∀ k, k ≠ t → (w.setCell ⟨t, 3, none⟩ u).heap[k]? = w.heap[k]? := fun k hk => Below.heap_setCell _ _ _ _ (by exact hk)
  rcases h with ⟨h, r⟩ | ⟨o, b, c, p, N, hN, h⟩
  · exact .inl ⟨⟨h.1, heap_setCell_same w t 3 _ _ u h.2⟩, r⟩
  · obtain ⟨⟨a1, a2, a3⟩, a4, a5, a6⟩ := h.apart
    exact .inr ⟨o, b, c, p, N, hN, ⟨h.hg.keep (key o a1.symm) (key b a2.symm) (fun k hk => key k fun e => a3 (by rw [← e]; exact hk)), heap_setCell_same w t 3 _ _ u h.ht, h.pm.keep (key c a6.symm), h.ok, h.gt, h.gc, h.ne⟩⟩
end

/-- One that was made: its kind, its data, its channel's block, how often it was armed. -/
structure On where
  kd : Int
  dt : Int
  ch : Option Nat
  gn : Int
abbrev cp (c : Option Nat) : Option Addr := c.map fun k => ⟨k, 0, none⟩
def oE (x : On) : List Value := [.int .i64 x.kd, .int .i64 x.dt, .pointer (cp x.ch), .int .i64 x.gn]
theorem oE_len (x : On) : (oE x).length = 4 := rfl
def oV (l : List On) : List Value := l.flatMap oE
theorem oV_len (l : List On) : (oV l).length = l.length * 4 := flat_len oE 4 oE_len l
theorem oV_at {l : List On} {i : Nat} {x : On} (h : l[i]? = some x) (j : Nat) (hj : j < 4) : (oV l)[i * 4 + j]? = (oE x)[j]? := flat_at oE 4 oE_len l i x h j hj
theorem oV_snoc (l : List On) (x : On) : oV l ++ oE x = oV (l ++ [x]) := by simp [oV]
theorem oE_one (x : On) : ∀ u ∈ oE x, u.oneCell' = true := by intro u hu; simp [oE] at hu; rcases hu with rfl | rfl | rfl | rfl <;> rfl
theorem oV_set {l : List On} {i : Nat} {x : On} (h : l[i]? = some x) (y : Int) : (oV l).set (i * 4 + 3) (.int .i64 y) = oV (l.set i { x with gn := y }) := by
  have hi := (List.getElem?_eq_some_iff.1 h).1
  apply List.ext_getElem?
  intro j
  by_cases hj : j < l.length * 4
  · have e1 : j / 4 < l.length := by omega
    have e2 : j = j / 4 * 4 + j % 4 := by omega
    have e3 : j % 4 < 4 := by omega
    generalize j / 4 = q at *
    generalize j % 4 = r at *
    subst e2
    have hq : l[q]? = some l[q] := List.getElem?_eq_getElem e1
    by_cases e : q = i
    · subst e
      rw [h] at hq
      injection hq with hq
      have hy : (l.set q { x with gn := y })[q]? = some { x with gn := y } := by simp [hi]
      rw [oV_at hy r e3]
      by_cases e4 : r = 3
      · subst e4
        rw [List.getElem?_set_self (by rw [oV_len]; omega)]
        rfl
      · rw [List.getElem?_set_ne (by omega), oV_at h r e3]
        have : r = 0 ∨ r = 1 ∨ r = 2 := by omega
        rcases this with rfl | rfl | rfl <;> rfl
    · have hy : (l.set i { x with gn := y })[q]? = some l[q] := by rw [List.getElem?_set_ne (fun e9 => e e9.symm)]; exact hq
      rw [oV_at hy r e3, List.getElem?_set_ne (by omega), oV_at hq r e3]
  · rw [List.getElem?_eq_none (by rw [List.length_set, oV_len]; omega), List.getElem?_eq_none (by rw [oV_len, List.length_set]; omega)]

/-- Block t is a set: E were made, m of them limited; armed are S, by n armings so far, with periods g; the channels are L. -/
structure SS (W : World) (t : Nat) (E : List On) (m n : Nat) (S : List It) (g : Int → Int) (L : List (Nat × CS)) (w : World) : Prop where
  ms : MS W L w
  tu : ∃ P c, TU W.heap.size t (.slice P E.length c) (.int .i64 m) n S g w ∧ w.ownsRow W.heap.size 114 4 (.slice P E.length c) E.length (oV E)
def SZ (W : World) (t : Nat) (E : List On) (m n : Nat) (S : List It) (g : Int → Int) (L : List (Nat × CS)) (v : Value) (w : World) (e : Ending) (w' : World) : Prop :=
  e = .returned v ∧ SS W t E m n S g L w' ∧ OZ w w'
section
variable {W w w' w'' : World} {t m n n' i j c : Nat} {E E' : List On} {S S' : List It} {g g' : Int → Int} {L L' : List (Nat × CS)} {v : Value} {e : Ending} {x : On} {s s' : CS}
theorem SS.bel (h : SS W t E m n S g L w) : Below W.heap.size W w := h.ms.bel
theorem SS.ok (h : SS W t E m n S g L w) : Ok n S := by obtain ⟨P, c, h1, h2⟩ := h.tu; exact h1.ok
theorem SS.wf (h : SS W t E m n S g L w) {x : It} (hx : x ∈ S) : Wf x.id := by obtain ⟨P, c, h1, h2⟩ := h.tu; exact h1.wf hx
theorem SS.later (h : SS W t E m n S g L w) (hb : Below w.heap.size w w') : SS W t E m n S g L w' := by
  obtain ⟨h0, P, c, h1, h2⟩ := h
  exact ⟨h0.later hb, P, c, h1.later hb, row_later h2 hb⟩
theorem SS.box (h : SS W t E m n S g L w) (u : Obj) : SS W t E m n S g L (w.alloc u) := h.later (below_al w u)
theorem SS.drewN (h : SS W t E m n S g L w) (q : Nat) : SS W t E m n S g L (w.drewN q) := h.later (below_drewN w q)
theorem SS.sz (h : SS W t E m n S g L w) (hr : e = .returned v ∧ Below w.heap.size w w') : SZ W t E m n S g L v w e w' := ⟨hr.1, h.later hr.2, OZ.of_below hr.2⟩
theorem SS.same (h : SS W t E m n S g L w) (hr : e = .returned v ∧ w = w') : SZ W t E m n S g L v w e w' := by obtain ⟨rfl, rfl⟩ := hr; exact ⟨rfl, h, OZ.refl _⟩
theorem SZ.from (hb : Below w.heap.size w w') (h : SZ W t E m n S g L v w' e w'') : SZ W t E m n S g L v w e w'' := ⟨h.1, h.2.1, (OZ.of_below hb).trans h.2.2⟩
theorem SZ.but {u : Value} (h : SZ W t E m n S g L v w e w') : SZ W t E m n S g L u w (.returned u) w' := ⟨rfl, h.2⟩
theorem SZ.after (h : OZ w w') (k : SZ W t E m n S g L v w' e w'') : SZ W t E m n S g L v w e w'' := ⟨k.1, k.2.1, h.trans k.2.2⟩
theorem SZ.then (k : SZ W t E m n S g L v w e w') (hb : Below w'.heap.size w' w'') : SZ W t E m n S g L v w e w'' := ⟨k.1, k.2.1.later hb, k.2.2.trans (OZ.of_below hb)⟩
theorem SS.lt (h : SS W t E m n S g L w) : t < w.heap.size := by
  obtain ⟨h0, P, c, h1, h2⟩ := h
  obtain ⟨hB, u, v, hb⟩ := h1.blk
  exact lt_of_blk hb
/-- Its own cells. -/
theorem SS.cells (h : SS W t E m n S g L w) : ∃ P c, w.cell? ⟨t, 0, none⟩ = some (.slice P E.length c) ∧ w.cell? ⟨t, 3, none⟩ = some (.int .i64 m) ∧ w.frozen? ⟨t, 0, none⟩ = false ∧ w.frozen? ⟨t, 3, none⟩ = false ∧
    ∀ i x, E[i]? = some x → ∃ q, P = some ⟨q, 0, none⟩ ∧ q < w.heap.size ∧ (w.cell? ⟨q, i * 4, none⟩ = some (.int .i64 x.kd) ∧ w.cell? ⟨q, i * 4 + 1, none⟩ = some (.int .i64 x.dt) ∧ w.cell? ⟨q, i * 4 + 2, none⟩ = some (.pointer (cp x.ch)) ∧ w.cell? ⟨q, i * 4 + 3, none⟩ = some (.int .i64 x.gn)) ∧ (∀ k, w.frozen? ⟨q, k, none⟩ = false) ∧
      ∀ y, SS W t (E.set i { x with gn := y }) m n S g L (w.setCell ⟨q, i * 4 + 3, none⟩ (.int .i64 y)) ∧ OZ w (w.setCell ⟨q, i * 4 + 3, none⟩ (.int .i64 y)) := by
  obtain ⟨h0, P, c, h1, h2⟩ := h
  obtain ⟨hB, u, v, hb⟩ := h1.blk
  refine ⟨P, c, by rw [cell_of_row w t 0 _ _ _ hb]; rfl, by rw [cell_of_row w t 3 _ _ _ hb]; rfl, frozen_of_row w t 0 _ _ hb, frozen_of_row w t 3 _ _ hb, fun i x hx => ?_⟩
  have hi := (List.getElem?_eq_some_iff.1 hx).1
  obtain ⟨q, hP, hle⟩ := row_form h2 (by omega)
  subst hP
  have hc : ∀ j, j < 4 → w.cell? ⟨q, i * 4 + j, none⟩ = (oE x)[j]? := fun j hj => by
    rw [h2.cellAt (i * 4 + j) (by omega)]
    exact oV_at hx j hj
  refine ⟨q, rfl, (row_lt h2 rfl).2, ⟨hc 0 (by omega), hc 1 (by omega), hc 2 (by omega), hc 3 (by omega)⟩, fun k => h2.frozenAt k, fun y => ?_⟩
  obtain ⟨cs, fr, hq⟩ := row_tag h2 rfl
  have hqB := (row_lt h2 rfl).1
  have ex : Ex 114 w (w.setCell ⟨q, i * 4 + 3, none⟩ (.int .i64 y)) := ⟨by simp [World.setCell], fun j hj hn => Below.heap_setCell _ _ _ _ (show j ≠ q by rintro rfl; exact hn _ _ hq)⟩
  have r := (h2.stored (i * 4 + 3) (.int .i64 y)).1
  rw [oV_set hx] at r
  refine ⟨⟨h0.ex ex (h0.bel.setCell (show W.heap.size ≤ (⟨q, i * 4 + 3, none⟩ : Addr).block from hqB) _) (by decide), some ⟨q, 0, none⟩, c, ?_, ?_⟩, by simp [World.setCell], fun k cs' ty fr' e1 e2 => ?_⟩
  · rw [List.length_set]; exact h1.ex ex
  · rw [List.length_set]; exact r
  · rw [ex.2 k (lt_of_blk e1) fun cs9 fr9 e9 => ?_]
    · exact e1
    · rw [e1] at e9; injection e9 with e9; injection e9 with _ e9 _; exact e2.2.2.2 e9
/-- One more: what an append and the store behind it leave. -/
theorem SS.added {wy w1 : World} {gB cap cc : Nat} {P : Option Addr} (h : SS W t E m n S g L w) (hc0 : w.cell? ⟨t, 0, none⟩ = some (.slice P E.length cc)) (hy : Below w.heap.size w wy)
    (ho : w1.ownsRow W.heap.size 114 4 (.slice (some ⟨gB, 0, none⟩) (E.length + 1) cap) (E.length + 1) (oV E ++ oE x)) (hg : wy.grownBy w1 (Value.slice P E.length cc).ownBlock) (hat : (Value.slice P E.length cc).ownBlock = some gB ∨ w.heap.size ≤ gB) :
    SS W t (E ++ [x]) m n S g L (w1.setCell ⟨t, 0, none⟩ (.slice (some ⟨gB, 0, none⟩) (E.length + 1) cap)) ∧ OZ w (w1.setCell ⟨t, 0, none⟩ (.slice (some ⟨gB, 0, none⟩) (E.length + 1) cap)) := by
  rw [own_blk] at hg hat
  obtain ⟨h0, P', c', h1, h2⟩ := h
  obtain ⟨hB, u, v, hb⟩ := h1.blk
  have e0 : w.cell? ⟨t, 0, none⟩ = some (.slice P' E.length c') := by rw [cell_of_row w t 0 _ _ _ hb]; rfl
  rw [hc0] at e0
  injection e0 with e0; injection e0 with e0 _ e1
  subst e0; subst e1
  have hs := hy.size
  have hsz : w.heap.size ≤ w1.heap.size := by have := hg.size; omega
  have ex : Ex 114 w w1 := ⟨hsz, fun j hj hn => (hg.block j (by omega) (fun e => by
    obtain ⟨cs, fr, hq⟩ := row_tag h2 e.symm
    exact hn _ _ hq)).trans (hy.block j hj)⟩
  have hW := h0.bel
  have hbel : Below W.heap.size W w1 :=
    ⟨(hg.os.trans hy.os).trans hW.os, (hg.tape.trans hy.tape).trans hW.tape, (hg.output.trans hy.output).trans hW.output, by have := hW.size; omega, fun k hk =>
      ((hg.block k (by have := hW.size; omega) (fun e => by have := (row_lt h2 e.symm).1; omega)).trans (hy.block k (by have := hW.size; omega))).trans (hW.block k hk)⟩
  have hb1 : w1.heap[t]? = some (.cells #[.slice P E.length cc, u, v, .int .i64 m] 99 (0, 0)) := (ex.2 t (lt_of_blk hb) fun cs fr e9 => by
    rw [hb] at e9; injection e9 with e9; injection e9 with _ e9 _; exact absurd e9 (by decide)).trans hb
  obtain ⟨cs, fr, hq⟩ := row_tag ho rfl
  have htg : t ≠ gB := by
    rintro rfl
    rw [hb1] at hq; injection hq with hq; injection hq with _ hq _; exact absurd hq (by decide)
  have key : ∀ k, k ≠ t → (w1.setCell ⟨t, 0, none⟩ (.slice (some ⟨gB, 0, none⟩) (E.length + 1) cap)).heap[k]? = w1.heap[k]? := fun k hk => Below.heap_setCell _ _ _ _ (by exact hk)
  have ex2 : Ex 99 w1 (w1.setCell ⟨t, 0, none⟩ (.slice (some ⟨gB, 0, none⟩) (E.length + 1) cap)) := ⟨by simp [World.setCell], fun j hj hn => key j (by rintro rfl; exact hn _ _ hb1)⟩
  have e5 : (E ++ [x]).length = E.length + 1 := by simp
  refine ⟨⟨((h0.ex ex hbel (by decide)).ex ex2 (hbel.setCell (show W.heap.size ≤ (⟨t, 0, none⟩ : Addr).block from hB) _) (by decide)), some ⟨gB, 0, none⟩, cap, ?_, ?_⟩, by rw [show (w1.setCell ⟨t, 0, none⟩ (.slice (some ⟨gB, 0, none⟩) (E.length + 1) cap)).heap.size = w1.heap.size from by simp [World.setCell]]; exact Nat.le_trans hy.size hg.size, fun k cs' ty fr' a1 a2 => ?_⟩
  · rw [e5]; exact (h1.ex ex).setA _
  · rw [e5, ← oV_snoc]
    refine row_keep ho fun k hk => ?_
    injection hk with hk; subst hk
    exact key _ htg.symm
  · have a3 := ex.2 k (lt_of_blk a1) fun cs9 fr9 e9 => by
      rw [a1] at e9; injection e9 with e9; injection e9 with _ e9 _; exact a2.2.2.2 e9
    rw [key k ?_, a3]
    · exact a1
    · rintro rfl
      rw [a1] at a3; rw [hb1] at a3; injection a3 with a3; injection a3 with _ a3 _; exact a2.2.2.1 a3.symm
/-- The limited ones are others. -/
theorem SS.lim (h : SS W t E m n S g L w) (m' : Nat) : SS W t E m' n S g L (w.setCell ⟨t, 3, none⟩ (.int .i64 m')) ∧ OZ w (w.setCell ⟨t, 3, none⟩ (.int .i64 m')) := by
  obtain ⟨h0, P, c, h1, h2⟩ := h
  obtain ⟨hB, u, v, hb⟩ := h1.blk
  have key : ∀ k, k ≠ t → (w.setCell ⟨t, 3, none⟩ (.int .i64 m')).heap[k]? = w.heap[k]? := fun k hk => Below.heap_setCell _ _ _ _ (by exact hk)
  have ex2 : Ex 99 w (w.setCell ⟨t, 3, none⟩ (.int .i64 m')) := ⟨by simp [World.setCell], fun j hj hn => key j (by rintro rfl; exact hn _ _ hb)⟩
  refine ⟨⟨h0.ex ex2 (h0.bel.setCell (show W.heap.size ≤ (⟨t, 3, none⟩ : Addr).block from hB) _) (by decide), P, c, h1.setL _, row_keep h2 fun k hk => key k ?_⟩, by simp [World.setCell], fun k cs' ty fr' a1 a2 => (key k ?_).trans a1⟩
  · rintro rfl
    obtain ⟨cs, fr, hq⟩ := row_tag h2 hk
    rw [hb] at hq; injection hq with hq; injection hq with _ hq _; exact absurd hq (by decide)
  · rintro rfl
    rw [hb] at a1; injection a1 with a1; injection a1 with _ a1 _; exact a2.2.2.1 a1.symm
/-- A new set. -/
theorem SS.new (hb : Below W.heap.size W w) : SS W w.heap.size [] 0 0 [] (fun _ => 0) [] (w.alloc (.cells #[.slice none 0 0, .pointer none, .map none, .int .i64 0] 99)) := by
  have h1 := heap_alloc_new w (.cells #[.slice none 0 0, .pointer none, .map none, .int .i64 0] 99)
  have hb1 := hb.trans ((below_al w (.cells #[.slice none 0 0, .pointer none, .map none, .int .i64 0] 99)).mono hb.size)
  refine ⟨⟨hb1, fun _ _ => False, fun i c s h => by simp at h, fun _ _ h => h.elim, fun _ _ _ h => h.elim⟩, none, 0, .inl ⟨⟨hb.size, h1⟩, rfl, rfl, rfl⟩, World.ownsRow_nil _ _ _ _⟩
/-- What the timers do. -/
theorem SS.tim (h : SS W t E m n S g L w) {f : Nat} {args : Array Value} (hc : ∀ vA, TU W.heap.size t vA (.int .i64 m) n S g w → Calls Try.prog f args w (XU W.heap.size t vA (.int .i64 m) n' S' g' v w)) : Calls Try.prog f args w (SZ W t E m n' S' g' L v w) := by
  obtain ⟨h0, P, c, h1, h2⟩ := h
  exact (hc _ h1).mono fun e w' r => ⟨r.1, ⟨h0.oy r.2.2.2 (h0.bel.trans r.2.2.1), P, c, r.2.1, r.2.2.2.row h2 (by decide) (by decide) (by decide)⟩, r.2.2.2.oz r.2.2.1.size⟩
end
end Go.Proofs.Ytdpapnfjpefhkaa
namespace Go.Proofs.Ytdpapnfjpefhkaa
open Go.RowKit Ch
set_option linter.unusedVariables false
set_option maxRecDepth 100000
abbrev pS (t : Nat) : Value := .pointer (some ⟨t, 0, none⟩)
abbrev oG (x : On) : Value := .agg #[.int .i64 x.kd, .int .i64 x.dt, .pointer (cp x.ch), .int .i64 x.gn]
def zO : On := ⟨0, 0, none, 0⟩
section
variable {W w w' w'' : World} {t m n n' i j c : Nat} {E E' : List On} {S S' : List It} {g g' : Int → Int} {L L' : List (Nat × CS)} {v : Value} {e : Ending} {x : On} {s s' : CS}
theorem new_set (w : World) : Calls Try.prog 12 #[] w fun e w' => e = .returned (pS w.heap.size) ∧ w' = w.alloc (.cells #[.slice none 0 0, .pointer none, .map none, .int .i64 0] 99) := by
  go_enter Try.func12, Try.ntmps12
  go_wp2
  go_ret
  exact ⟨rfl, rfl⟩
theorem ss_new (hb : Below W.heap.size W w) : Calls Try.prog 12 #[] w fun e w' => e = .returned (pS w.heap.size) ∧ SS W w.heap.size [] 0 0 [] (fun _ => 0) [] w' ∧ Below w.heap.size w w' := by
  refine (new_set w).mono ?_
  rintro e w' ⟨rfl, rfl⟩
  exact ⟨rfl, SS.new hb, below_al _ _⟩
theorem len_set (h : SS W t E m n S g L w) : Calls Try.prog 101 #[pS t] w fun e w' => e = .returned (.int .i64 (E.length : Int)) ∧ w = w' := by
  obtain ⟨P, c, c0, -, -⟩ := h.cells
  clear h
  go_enter Try.func101, Try.ntmps101
  go_wp2_with fail
  go_ret
  exact ⟨rfl, rfl⟩
/-- What get answers. -/
def GtR (x : On) (w : World) (e : Ending) (w' : World) : Prop := e = .returned (.agg #[.int .i64 x.kd, .int .i64 x.dt, .pointer (cp x.ch), .int .i64 x.gn]) ∧ Below w.heap.size w w'
set_option maxHeartbeats 4000000 in
theorem get_yes (h : SS W t E m n S g L w) (hx : E[i]? = some x) : Calls Try.prog 91 #[pS t, .int .i64 (i : Int)] w (GtR x w) := by
  have hi := (List.getElem?_eq_some_iff.1 hx).1
  have b1 : ¬ (i : Int) < 0 := by omega
  have b2 : ¬ (E.length : Int) ≤ (i : Int) := by omega
  have ht := h.lt
  have HA := Lib.hid h
  obtain ⟨P, c, c0, -, -, -, hr⟩ := h.cells
  obtain ⟨q, rfl, hq, ⟨x0, x1, x2, x3⟩, -, -⟩ := hr i x hx
  clear hr h hx
  go_enter Try.func91, Try.ntmps91
  go_wp2_with fail
  refine (len_set (HA.out.box _)).mono ?_
  rintro e w' ⟨rfl, rfl⟩
  go_wp2_with fail
  refine bodyPost_ret (v := oG x) ?_ rfl ⟨rfl, ?_⟩
  · rw [results_cell_row rfl _ _ w.heap.size 114 #[.int .i64 x.kd, .int .i64 x.dt, .pointer (cp x.ch), .int .i64 x.gn] (0, 0) _ rfl (heap_alloc_new w _) Try.underlying114 rfl (by kernel_rfl)]
  · first | exact below_al _ _ | (repeat' (first | exact below_al _ _ | refine Below.alloc ?_ (by omega) _))
set_option maxHeartbeats 4000000 in
theorem get_no {k : Int} (h : SS W t E m n S g L w) (hk : k < 0 ∨ (E.length : Int) ≤ k) : Calls Try.prog 91 #[pS t, .int .i64 k] w (GtR zO w) := by
  have HA := Lib.hid h
  have ht := h.lt
  by_cases b1 : k < 0
  · clear hk h
    go_enter Try.func91, Try.ntmps91
    go_wp2_with fail
    refine bodyPost_ret (v := .agg #[.int .i64 0, .int .i64 0, .pointer none, .int .i64 0]) ?_ rfl ⟨rfl, ?_⟩
    · rw [results_cell_row rfl _ _ w.heap.size 114 #[.int .i64 0, .int .i64 0, .pointer none, .int .i64 0] (0, 0) _ rfl (heap_alloc_new w _) Try.underlying114 rfl (by kernel_rfl)]
    · first | exact below_al _ _ | (repeat' (first | exact below_al _ _ | refine Below.alloc ?_ (by omega) _))
  · have b2 : (E.length : Int) ≤ k := by omega
    clear hk h
    go_enter Try.func91, Try.ntmps91
    go_wp2_with fail
    refine (len_set (HA.out.box _)).mono ?_
    rintro e w' ⟨rfl, rfl⟩
    go_wp2_with fail
    refine bodyPost_ret (v := .agg #[.int .i64 0, .int .i64 0, .pointer none, .int .i64 0]) ?_ rfl ⟨rfl, ?_⟩
    · rw [results_cell_row rfl _ _ w.heap.size 114 #[.int .i64 0, .int .i64 0, .pointer none, .int .i64 0] (0, 0) _ rfl (heap_alloc_new w _) Try.underlying114 rfl (by kernel_rfl)]
    · first | exact below_al _ _ | (repeat' (first | exact below_al _ _ | refine Below.alloc ?_ (by omega) _))
/-- What was made under a number, if anything was. -/
def eA (E : List On) (k : Int) : On := if k < 0 then zO else (E[k.toNat]?).getD zO
theorem eA_at (hx : E[i]? = some x) : eA E i = x := by
  unfold eA
  rw [if_neg (by omega)]
  simp [hx]
theorem eA_no {k : Int} (hk : k < 0 ∨ (E.length : Int) ≤ k) : eA E k = zO := by
  unfold eA
  split
  · rfl
  · rw [List.getElem?_eq_none (by omega)]; rfl
theorem get_any (k : Int) (h : SS W t E m n S g L w) : Calls Try.prog 91 #[pS t, .int .i64 k] w (GtR (eA E k) w) := by
  by_cases hk : k < 0 ∨ (E.length : Int) ≤ k
  · rw [eA_no hk]; exact get_no h hk
  · have hi : k.toNat < E.length := by omega
    have hx : E[k.toNat]? = some E[k.toNat] := List.getElem?_eq_getElem hi
    have ek : k = (k.toNat : Int) := by omega
    rw [ek, eA_at hx]
    exact get_yes h hx
theorem fd0 (x : On) (w : World) : (Instr.field 114 (.agg #[.int .i64 x.kd, .int .i64 x.dt, .pointer (cp x.ch), .int .i64 x.gn]) 0).run Try.prog w = .ok (.int .i64 x.kd) w := by kernel_rfl
theorem fd2 (x : On) (w : World) : (Instr.field 114 (.agg #[.int .i64 x.kd, .int .i64 x.dt, .pointer (cp x.ch), .int .i64 x.gn]) 2).run Try.prog w = .ok (.pointer (cp x.ch)) w := by kernel_rfl
theorem fd3 (x : On) (w : World) : (Instr.field 114 (.agg #[.int .i64 x.kd, .int .i64 x.dt, .pointer (cp x.ch), .int .i64 x.gn]) 3).run Try.prog w = .ok (.int .i64 x.gn) w := by kernel_rfl
theorem kind_any (k : Int) (h : SS W t E m n S g L w) : Calls Try.prog 80 #[pS t, .int .i64 k] w (SZ W t E m n S g L (.int .i64 (eA E k).kd) w) := by
  have HA := Lib.hid h
  clear h
  go_enter Try.func80, Try.ntmps80
  go_wp2_with fail
  refine (get_any k HA.out).mono ?_
  rintro e w' ⟨rfl, hb⟩
  have HB := Lib.hid hb
  clear hb
  generalize eA E k = x at *
  have hfd := fd0 x
  go_wp2_with fail
  go_ret
  exact HA.out.sz ⟨rfl, HB.out⟩
/-! The timers. -/
theorem ss_tarm (k y z : Int) (h : SS W t E m n S g L w) (hk : Wf k) (hy : Fit y) (hz : Fit z) (hn : n ≤ 1000000) (hl : S.length < 1000) : Calls Try.prog 83 #[pT t, .int .i64 k, .int .i64 y, .int .i64 z] w (SZ W t E m (n + 1) (ins ⟨k, y, (n : Int) + 1⟩ (del k S)) (fput g k z) L (.int .i64 0) w) :=
  h.tim fun vA hu => tu_arm k y z hu hk hy hz hn hl
theorem ss_tstop (k : Int) (h : SS W t E m n S g L w) (hk : Wf k) (hl : S.length ≤ 1000) : Calls Try.prog 73 #[pT t, .int .i64 k] w (SZ W t E m n (del k S) (fput g k 0) L (.bool (decide (k ∈ ids S))) w) :=
  h.tim fun vA hu => tu_stop k hu hk hl
theorem ss_tnext (h : SS W t E m n S g L w) (hl : S.length ≤ 1000) : Calls Try.prog 50 #[pT t] w (SZ W t E m n S g L (.tuple #[.int .i64 (nxt S).1, .bool (nxt S).2]) w) :=
  h.tim fun vA hu => tu_next hu hl
/-- What Take makes of all that are armed: who is taken, how many armings, who is armed, and the periods. -/
def tk (now : Int) (n : Nat) (S : List It) (g : Int → Int) : Option It × Nat × List It × (Int → Int) := match S with
  | [] => (none, n, [], g)
  | x :: r => if now < x.w then (none, n, x :: r, g) else if Gon x.w (g x.id) now then (some x, n + 1, ins ⟨x.id, nx x.w (g x.id) now, (n : Int) + 1⟩ r, g) else (some x, n, r, fput g x.id 0)
def tkV (now : Int) : Option It → Value
  | none => .tuple #[vD 0 0 0, .bool false]
  | some x => .tuple #[vD x.id x.w now, .bool true]
theorem ss_ttake (now : Int) (h : SS W t E m n S g L w) (hn : n ≤ 1000000) (hl : S.length ≤ 1000) : Calls Try.prog 41 #[pT t, .int .i64 now] w (SZ W t E m (tk now n S g).2.1 (tk now n S g).2.2.1 (tk now n S g).2.2.2 L (tkV now (tk now n S g).1) w) := by
  cases S with
  | nil => exact h.tim fun vA hu => tu_take_no hu hl trivial
  | cons x r =>
    unfold tk
    by_cases h1 : now < x.w
    · simp only [if_pos h1]
      exact h.tim fun vA hu => tu_take_no hu hl h1
    · by_cases h2 : Gon x.w (g x.id) now
      · simp only [if_neg h1, if_pos h2]
        exact h.tim fun vA hu => tu_take_on hu hn hl (by omega) h2
      · simp only [if_neg h1, if_neg h2]
        exact h.tim fun vA hu => tu_take_end hu hl (by omega) h2
theorem next_set (h : SS W t E m n S g L w) (hl : S.length ≤ 1000) : Calls Try.prog 30 #[pS t] w (SZ W t E m n S g L (.tuple #[.int .i64 (nxt S).1, .bool (nxt S).2]) w) := by
  have HA := Lib.hid h
  clear h
  go_enter Try.func30, Try.ntmps30
  go_wp2_with fail
  refine (ss_tnext HA.out hl).mono ?_
  rintro e w' hz
  have HZ := Lib.hid hz
  obtain rfl := hz.1
  clear hz
  generalize (nxt S).1 = a at *
  generalize (nxt S).2 = b at *
  go_wp2_with fail
  go_ret2
  exact HZ.out
/-! The channels. -/
theorem drop_nil (w : World) : Calls Try.prog 92 #[.pointer none] w fun e w' => e = .returned (.bool false) ∧ w = w' := by
  go_enter Try.func92, Try.ntmps92
  go_wp2_with fail
  go_ret
  exact ⟨rfl, rfl⟩
theorem put_nil (x : Int) (w : World) : Calls Try.prog 42 #[.pointer none, .int .i64 x] w fun e w' => e = .returned (.tuple #[.slice none 0 0, .bool false]) ∧ w = w' := by
  go_enter Try.func42, Try.ntmps42
  go_wp2_with fail
  go_ret2
  exact ⟨rfl, rfl⟩
theorem wait_nil (x : Wt) (b : Bool) (w : World) : Calls Try.prog 27 #[.pointer none, wG x, .bool b] w fun e w' => e = .returned (.int .i64 6) ∧ Below w.heap.size w w' := by
  unfold wG
  go_enter Try.func27, Try.ntmps27
  go_wp2_with fail
  go_ret
  exact ⟨rfl, by first | exact below_al _ _ | exact Below.refl _ _⟩
end
end Go.Proofs.Ytdpapnfjpefhkaa
