/- A table of tasks in memory: its block, the arena, the list of those that are ready, the rows of cases; what a call makes of it. No condition. -/
import Derived.Test.YthiifnbgdajgaaaDoorASet
import Derived.Test.YthiifnbgdajgaaaDoorRTwo
import Derived.Test.YthiifnbgdajgaaaDoorPChk
namespace Go.Proofs.YthiifnbgdajgaaaDoor
open Go.RowKit
set_option linter.unusedVariables false
set_option maxRecDepth 100000

/-! Nothing has turned but new blocks and those of F. -/
structure Tn (F : Nat → Prop) (w w' : World) : Prop where
  os : w'.os = w.os
  tape : w'.tape = w.tape
  output : w'.output = w.output
  size : w.heap.size ≤ w'.heap.size
  block : ∀ k, k < w.heap.size → ¬ F k → w'.heap[k]? = w.heap[k]?
theorem Tn.refl (F : Nat → Prop) (w : World) : Tn F w w := ⟨rfl, rfl, rfl, Nat.le_refl _, fun _ _ _ => rfl⟩
theorem Tn.of_below {F : Nat → Prop} {w w' : World} (h : Below w.heap.size w w') : Tn F w w' := ⟨h.os, h.tape, h.output, h.size, fun k hk _ => h.block k hk⟩
theorem Tn.comp {F G : Nat → Prop} {u v w : World} (h : Tn F u v) (k : Tn G v w) (hs : ∀ b, G b → F b ∨ u.heap.size ≤ b) : Tn F u w :=
  ⟨k.os.trans h.os, k.tape.trans h.tape, k.output.trans h.output, Nat.le_trans h.size k.size, fun i hi hn => by
    rw [← h.block i hi hn]
    exact k.block i (by have := h.size; omega) (fun hg => by rcases hs i hg with h1 | h1; exact hn h1; omega)⟩
theorem Tn.trans {F : Nat → Prop} {u v w : World} (h : Tn F u v) (k : Tn F v w) : Tn F u w := h.comp k fun _ hb => .inl hb
theorem Tn.mono {F G : Nat → Prop} {w w' : World} (h : Tn F w w') (hs : ∀ b, F b → G b ∨ w.heap.size ≤ b) : Tn G w w' := (Tn.refl G w).comp h hs
theorem Tn.below {F : Nat → Prop} {B : Nat} {w w' : World} (h : Tn F w w') (hB : B ≤ w.heap.size) (hF : ∀ b, F b → B ≤ b) : Below B w w' :=
  ⟨h.os, h.tape, h.output, h.size, fun k hk => h.block k (by omega) (fun hf => by have := hF k hf; omega)⟩
/-- What is allowed behind a call: what was, and what is new. -/
def okN (F : Nat → Prop) (N : Nat) (b : Nat) : Prop := F b ∨ N ≤ b
theorem row_low {w : World} {e s B B' n c : Nat} {P : Option Addr} {xs : List Value} (h : w.ownsRow B e s (.slice P n c) n xs) (hB : B' ≤ B) : w.ownsRow B' e s (.slice P n c) n xs := by
  refine ⟨h.1, ?_⟩
  rcases h.2 with h1 | ⟨g, cap, cur, h1, h2, h3⟩
  · exact .inl h1
  · exact .inr ⟨g, cap, cur, h1, Nat.le_trans hB h2, h3⟩
theorem tag_ne {w : World} {k k' T T' : Nat} {u u' : Array Value} {f f' : Nat × Nat} (h : w.heap[k]? = some (.cells u T f)) (h' : w.heap[k']? = some (.cells u' T' f')) (ne : T ≠ T') : k ≠ k' := by
  rintro rfl
  have := h.symm.trans h'
  simp only [Option.some.injEq, Obj.cells.injEq] at this
  exact ne this.2.1
theorem map_ne {w : World} {k k' T cl : Nat} {u : Array Value} {f : Nat × Nat} {es} (h : w.heap[k]? = some (.cells u T f)) (h' : w.heap[k']? = some (.map es cl)) : k ≠ k' := by
  rintro rfl
  have := h.symm.trans h'
  simp at this

/-- The cases of a task in memory. -/
abbrev Cz (B : Nat) (w : World) (cs : List Pg.Ca) (A : Option Addr) (cap : Nat) : Prop := w.ownsRow B 44 3 (.slice A cs.length cap) cs.length (cs.flatMap Pg.cV)
structure TX (F : Nat → Prop) (w : World) (t a : Nat) (P : Option Addr) (c o b : Nat) (Q : Option Addr) (e : Nat) (D : List Tk) (L : List Int) : Prop where
  ht : Bk w t 63 #[.pointer (some ⟨a, 0, none⟩), .pointer (some ⟨o, 0, none⟩)]
  ar : TA 0 w a 64 D.length P c D
  rg : RG 0 w o b Q e L
  cs : ∀ x ∈ D, Cz 0 w x.t.cs x.A x.cap ∧ x.t.cs.length ≤ 1000 ∧ ∀ k, blk x.A = some k → F k
  ft : F t
  fa : F a
  fo : F o
  fb : F b
  fP : ∀ k, blk P = some k → F k
  fQ : ∀ k, blk Q = some k → F k
section
variable {F G : Nat → Prop} {w w' : World} {t a c o b e : Nat} {P Q : Option Addr} {D : List Tk} {L : List Int}
theorem TX.mono (h : TX F w t a P c o b Q e D L) (hs : ∀ k, k < w.heap.size → F k → G k) : TX G w t a P c o b Q e D L := by
  obtain ⟨f, r, _⟩ := h.rg
  exact ⟨h.ht, h.ar, h.rg, fun x hx => ⟨(h.cs x hx).1, (h.cs x hx).2.1, fun k hk => hs k (row_lt (h.cs x hx).1 hk).2 ((h.cs x hx).2.2 k hk)⟩, hs _ h.ht.lt h.ft, hs _ h.ar.lt h.fa, hs _ r.lo h.fo, hs _ r.tm.lt h.fb,
    fun k hk => hs k (row_lt h.ar.own hk).2 (h.fP k hk), fun k hk => hs k (row_lt r.own hk).2 (h.fQ k hk)⟩
theorem TX.keep (h : TX F w t a P c o b Q e D L) (hb : ∀ k, k < w.heap.size → F k → w'.heap[k]? = w.heap[k]?) : TX F w' t a P c o b Q e D L := by
  obtain ⟨f, r, q⟩ := h.rg
  exact ⟨h.ht.keep (hb t h.ht.lt h.ft), h.ar.keep (hb a h.ar.lt h.fa) fun k hk => hb k (row_lt h.ar.own hk).2 (h.fP k hk), ⟨f, r.keep (hb o r.lo h.fo) (hb b r.tm.lt h.fb) fun k hk => hb k (row_lt r.own hk).2 (h.fQ k hk), q⟩,
    fun x hx => ⟨row_keep (h.cs x hx).1 fun k hk => hb k (row_lt (h.cs x hx).1 hk).2 ((h.cs x hx).2.2 k hk), (h.cs x hx).2⟩, h.ft, h.fa, h.fo, h.fb, h.fP, h.fQ⟩
theorem TX.later (h : TX F w t a P c o b Q e D L) (hb : Below w.heap.size w w') : TX F w' t a P c o b Q e D L := h.keep fun k hk _ => hb.block k hk
theorem TX.c0 (h : TX F w t a P c o b Q e D L) : w.cell? ⟨t, 0, none⟩ = some (.pointer (some ⟨a, 0, none⟩)) := h.ht.cell 0
theorem TX.c1 (h : TX F w t a P c o b Q e D L) : w.cell? ⟨t, 1, none⟩ = some (.pointer (some ⟨o, 0, none⟩)) := h.ht.cell 1
/-- The arena has turned. -/
theorem TX.turn {P' : Option Addr} {c' : Nat} {D' : List Tk} (h : TX F w t a P c o b Q e D L) (ch : Ar.Chg a (blk P) (blk P') w w') (hA : TA 0 w' a 64 D'.length P' c' D')
    (hC : ∀ x ∈ D', Cz 0 w x.t.cs x.A x.cap ∧ x.t.cs.length ≤ 1000 ∧ ∀ k, blk x.A = some k → F k) :
    TX (okN F w.heap.size) w' t a P' c' o b Q e D' L ∧ Tn F w w' := by
  obtain ⟨f, r, q⟩ := h.rg
  have ta := h.ar.ha
  obtain ⟨es, cl, tb⟩ := r.tm.blk
  have off : ∀ {k T : Nat} {u : Array Value} {fr : Nat × Nat}, w.heap[k]? = some (.cells u T fr) → T ≠ 76 → T ≠ 47 → w'.heap[k]? = w.heap[k]? := by
    intro k T u fr hk n1 n2
    refine ch.block k (lt_of_blk hk) (tag_ne hk ta n1) fun e => ?_
    obtain ⟨cs, fr', hp⟩ := row_tag h.ar.own e
    exact tag_ne hk hp n2 rfl
  have offb : w'.heap[b]? = w.heap[b]? := by
    refine ch.block b r.tm.lt (map_ne ta tb).symm fun e => ?_
    obtain ⟨cs, fr', hp⟩ := row_tag h.ar.own e
    exact map_ne hp tb rfl
  refine ⟨⟨h.ht.keep (off h.ht (by decide) (by decide)), hA, ⟨f, r.keep (off r.ho (by decide) (by decide)) offb fun k hk => ?_, q⟩, fun x hx => ⟨row_keep (hC x hx).1 fun k hk => ?_, (hC x hx).2.1, fun k hk => .inl ((hC x hx).2.2 k hk)⟩, .inl h.ft, .inl h.fa, .inl h.fo, .inl h.fb, ?_, fun k hk => .inl (h.fQ k hk)⟩,
    ⟨ch.os, ch.tape, ch.output, ch.size, fun k hk hn => ch.block k hk (fun e => hn (e ▸ h.fa)) fun e => hn (h.fP k e)⟩⟩
  · obtain ⟨cs, fr', hp⟩ := row_tag r.own hk
    exact off hp (by decide) (by decide)
  · obtain ⟨cs, fr', hp⟩ := row_tag (hC x hx).1 hk
    exact off hp (by decide) (by decide)
  · intro k hk
    rcases ch.new with e | e
    · exact .inl (h.fP k (e ▸ hk))
    · exact .inr (e k hk)
/-- The list has turned. -/
theorem TX.list {Q' : Option Addr} {e' : Nat} {L' : List Int} (h : TX F w t a P c o b Q e D L) (ch : Chg o b (blk Q) (blk Q') w w') (hG : RG 0 w' o b Q' e' L') : TX (okN F w.heap.size) w' t a P c o b Q' e' D L' ∧ Tn F w w' := by
  obtain ⟨f, r, q⟩ := h.rg
  obtain ⟨es, cl, tb⟩ := r.tm.blk
  have off : ∀ {k T : Nat} {u : Array Value} {fr : Nat × Nat}, w.heap[k]? = some (.cells u T fr) → T ≠ 79 → T ≠ 3 → w'.heap[k]? = w.heap[k]? := by
    intro k T u fr hk n1 n2
    refine ch.block k (lt_of_blk hk) (tag_ne hk r.ho n1) (map_ne hk tb) fun e => ?_
    obtain ⟨cs, fr', hp⟩ := row_tag r.own e
    exact tag_ne hk hp n2 rfl
  refine ⟨⟨h.ht.keep (off h.ht (by decide) (by decide)), h.ar.keep (off h.ar.ha (by decide) (by decide)) fun k hk => ?_, hG, fun x hx => ⟨row_keep (h.cs x hx).1 fun k hk => ?_, (h.cs x hx).2.1, fun k hk => .inl ((h.cs x hx).2.2 k hk)⟩, .inl h.ft, .inl h.fa, .inl h.fo, .inl h.fb, fun k hk => .inl (h.fP k hk), ?_⟩,
    ⟨ch.os, ch.tape, ch.output, ch.size, fun k hk hn => ch.block k hk (fun e => hn (e ▸ h.fo)) (fun e => hn (e ▸ h.fb)) fun e => hn (h.fQ k e)⟩⟩
  · obtain ⟨cs, fr', hp⟩ := row_tag h.ar.own hk
    exact off hp (by decide) (by decide)
  · obtain ⟨cs, fr', hp⟩ := row_tag (h.cs x hx).1 hk
    exact off hp (by decide) (by decide)
  · intro k hk
    rcases ch.new with e | e
    · exact .inl (h.fQ k (e ▸ hk))
    · exact .inr (e k hk)
end
theorem Tn.ok {F : Nat → Prop} {u v w : World} (h : Tn F u v) (k : Tn (okN F u.heap.size) v w) : Tn F u w := h.comp k fun b hb => hb
theorem ok_ok {F : Nat → Prop} {n m i : Nat} (h : n ≤ m) (hi : okN (okN F n) m i) : okN F n i := by
  rcases hi with (hi | hi) | hi
  · exact .inl hi
  · exact .inr hi
  · exact .inr (Nat.le_trans h hi)
/-- One task is written anew. -/
theorem TX.put {F : Nat → Prop} {w w1 w2 : World} {t a c o b e k c' : Nat} {P Q A : Option Addr} {D : List Tk} {L : List Int} {y : T0} (h : TX F w t a P c o b Q e D L) (hb : Below w.heap.size w w1) (hc : Cz w.heap.size w1 y.cs A c') (hl : y.cs.length ≤ 1000)
    (r : TA 0 w2 a 64 D.length P c (D.set k ⟨y, A, c'⟩)) (ch : Ar.Chg a (blk P) (blk P) w1 w2) : TX (okN F w.heap.size) w2 t a P c o b Q e (D.set k ⟨y, A, c'⟩) L ∧ Tn F w w2 := by
  have h1 := (h.later hb).mono (G := okN F w.heap.size) fun k _ hk => .inl hk
  obtain ⟨h2, h3⟩ := h1.turn ch (by rw [List.length_set]; exact r) fun x hx => by
    rcases List.mem_or_eq_of_mem_set hx with hx | rfl
    · exact h1.cs x hx
    · exact ⟨row_low hc (Nat.zero_le _), hl, fun k hk => .inr (row_lt hc hk).1⟩
  exact ⟨h2.mono fun k _ hk => ok_ok hb.size hk, (Tn.of_below hb).ok h3⟩
/-- Who is ready is there, and is. -/
def Ids (S : List T0) (L : List Int) : Prop := ∀ y ∈ L, ∃ (k : Nat) (s : T0), y = (k : Int) ∧ S[k]? = some s ∧ s.st = 0
/-- Block t is a table: its tasks, and those that are ready, in order. -/
def TR (F : Nat → Prop) (S : List T0) (L : List Int) (w : World) (t : Nat) : Prop := ∃ a P c o b Q e D, TX F w t a P c o b Q e D L ∧ D.map Tk.t = S ∧ Ids S L
/-- A call has made it another. -/
def Go (F : Nat → Prop) (t : Nat) (S : List T0) (L : List Int) (w w' : World) : Prop := TR (okN F w.heap.size) S L w' t ∧ Tn F w w'
theorem TR.later {F : Nat → Prop} {S : List T0} {L : List Int} {w w' : World} {t : Nat} (h : TR F S L w t) (hb : Below w.heap.size w w') : TR F S L w' t := by
  obtain ⟨a, P, c, o, b, Q, e, D, h, hD⟩ := h
  exact ⟨a, P, c, o, b, Q, e, D, h.later hb, hD⟩
theorem TR.mono {F G : Nat → Prop} {S : List T0} {L : List Int} {w : World} {t : Nat} (h : TR F S L w t) (hs : ∀ k, k < w.heap.size → F k → G k) : TR G S L w t := by
  obtain ⟨a, P, c, o, b, Q, e, D, h, hD⟩ := h
  exact ⟨a, P, c, o, b, Q, e, D, h.mono hs, hD⟩
theorem TR.keep {F : Nat → Prop} {S : List T0} {L : List Int} {w w' : World} {t : Nat} (h : TR F S L w t) (hb : ∀ k, k < w.heap.size → F k → w'.heap[k]? = w.heap[k]?) : TR F S L w' t := by
  obtain ⟨a, P, c, o, b, Q, e, D, h, hD⟩ := h
  exact ⟨a, P, c, o, b, Q, e, D, h.keep hb, hD⟩
theorem Go.comp {F : Nat → Prop} {t : Nat} {S S' : List T0} {L L' : List Int} {u v w : World} (h : Go F t S L u v) (k : Go (okN F u.heap.size) t S' L' v w) : Go F t S' L' u w :=
  ⟨k.1.mono fun i _ hi => by
    have := h.2.size
    rcases hi with (hi | hi) | hi
    · exact .inl hi
    · exact .inr hi
    · exact .inr (by omega), h.2.comp k.2 fun b hb => hb⟩
theorem Go.of_below {F : Nat → Prop} {t : Nat} {S : List T0} {L : List Int} {w w' : World} (h : TR F S L w t) (hb : Below w.heap.size w w') : Go F t S L w w' := ⟨(h.later hb).mono fun k _ hk => .inl hk, .of_below hb⟩
end Go.Proofs.YthiifnbgdajgaaaDoor
