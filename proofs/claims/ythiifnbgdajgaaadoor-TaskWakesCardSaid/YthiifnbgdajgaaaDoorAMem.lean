/- An arena in memory, and what a task is there: what it holds, how it carries, what an append or a store makes of it. No condition. -/
import Derived.Test.YthiifnbgdajgaaaDoorRMem
import Derived.Test.YthiifnbgdajgaaaDoorBlk
namespace Go.Proofs.YthiifnbgdajgaaaDoor.Ar
open Go.RowKit
set_option linter.unusedVariables false
set_option maxRecDepth 100000

/-- Block a is an arena of at most so many: n are there, their cells are xs; its slice has the type t's element e, of s cells each; all lies from block B on. -/
structure AR (e t s B : Nat) (w : World) (a most n : Nat) (P : Option Addr) (c : Nat) (xs : List Value) : Prop where
  ha : w.heap[a]? = some (.cells #[.slice P n c, .int .i64 (most : Int)] t (0, 0))
  own : w.ownsRow B e s (.slice P n c) n xs
  le : n ≤ most
  ga : B ≤ a
  ne : blk P ≠ some a
/-- Nothing but the arena's two blocks has turned; where its slice lies elsewhere, that is new. -/
structure Chg (a : Nat) (o o' : Option Nat) (w w' : World) : Prop where
  os : w'.os = w.os
  tape : w'.tape = w.tape
  output : w'.output = w.output
  size : w.heap.size ≤ w'.heap.size
  block : ∀ k, k < w.heap.size → k ≠ a → o ≠ some k → w'.heap[k]? = w.heap[k]?
  new : o' = o ∨ ∀ k, o' = some k → w.heap.size ≤ k

section
variable {w w' : World} {e t s B a most n c : Nat} {P : Option Addr} {xs : List Value}
theorem AR.c0 (h : AR e t s B w a most n P c xs) : w.cell? ⟨a, 0, none⟩ = some (.slice P n c) := by rw [cell_of_row w a 0 _ _ _ h.ha]; rfl
theorem AR.c1 (h : AR e t s B w a most n P c xs) : w.cell? ⟨a, 1, none⟩ = some (.int .i64 (most : Int)) := by rw [cell_of_row w a 1 _ _ _ h.ha]; rfl
theorem AR.fa (h : AR e t s B w a most n P c xs) (i : Nat) : w.frozen? ⟨a, i, none⟩ = false := frozen_of_row w a i _ _ h.ha
theorem AR.lt (h : AR e t s B w a most n P c xs) : a < w.heap.size := lt_of_blk h.ha
theorem AR.keep (h : AR e t s B w a most n P c xs) (e1 : w'.heap[a]? = w.heap[a]?) (e2 : ∀ k, blk P = some k → w'.heap[k]? = w.heap[k]?) : AR e t s B w' a most n P c xs := ⟨by rw [e1]; exact h.ha, row_keep h.own e2, h.le, h.ga, h.ne⟩
theorem AR.later (h : AR e t s B w a most n P c xs) (hb : Below w.heap.size w w') : AR e t s B w' a most n P c xs := h.keep (hb.block _ h.lt) fun k hk => hb.block _ (row_lt h.own hk).2
theorem Chg.below {o o' : Option Nat} (h : Chg a o o' w w') (ha : B ≤ a) (ho : ∀ k, o = some k → B ≤ k) (hB : B ≤ w.heap.size) : Below B w w' :=
  ⟨h.os, h.tape, h.output, h.size, fun k hk => h.block k (by omega) (by omega) (fun e => by have := ho k e; omega)⟩
theorem AR.other {o o' : Option Nat} {b : Nat} (h : AR e t s B w a most n P c xs) (ch : Chg b o o' w w') (h1 : a ≠ b) (h2 : o ≠ some a) (h3 : blk P ≠ some b) (h4 : ∀ k, blk P = some k → o ≠ some k) : AR e t s B w' a most n P c xs :=
  h.keep (ch.block _ h.lt h1 h2) fun k hk => ch.block k (row_lt h.own hk).2 (fun e => h3 (by rw [hk, e])) (h4 k hk)
/-- A fresh one. -/
theorem AR.new (e t s B : Nat) (w : World) (most : Nat) (hB : B ≤ w.heap.size) : AR e t s B (w.alloc (.cells #[.slice none 0 0, .int .i64 (most : Int)] t)) w.heap.size most 0 none 0 [] :=
  ⟨heap_alloc_new _ _, World.ownsRow_nil _ _ _ _, Nat.zero_le _, hB, by simp [blk]⟩
/-- One more: what an append and the store behind it leave. -/
theorem AR.added {wx w1 : World} {g cap : Nat} {news : List Value} (h : AR e t s B w a most n P c xs) (hn : n < most) (het : e ≠ t) (hx : Below w.heap.size w wx) (ho : w1.ownsRow B e s (.slice (some ⟨g, 0, none⟩) (n + 1) cap) (n + 1) (xs ++ news)) (hg : wx.grownBy w1 (Value.slice P n c).ownBlock) (hat : (Value.slice P n c).ownBlock = some g ∨ w.heap.size ≤ g) :
    AR e t s B (w1.setCell ⟨a, 0, none⟩ (.slice (some ⟨g, 0, none⟩) (n + 1) cap)) a most (n + 1) (some ⟨g, 0, none⟩) cap (xs ++ news) ∧ Chg a (blk P) (some g) w (w1.setCell ⟨a, 0, none⟩ (.slice (some ⟨g, 0, none⟩) (n + 1) cap)) := by
  rw [own_blk] at hg hat
  have hs := hx.size
  have hlt := h.lt
  have key : ∀ k, k < w.heap.size → blk P ≠ some k → w1.heap[k]? = w.heap[k]? := fun k hk hne => (hg.block k (by omega) (fun e => hne e.symm)).trans (hx.block k hk)
  have ha1 := (key a hlt h.ne).trans h.ha
  have hga : g ≠ a := by
    intro e; subst e
    rcases hat with h1 | h1
    · exact h.ne h1
    · omega
  have hsz : w.heap.size ≤ w1.heap.size := by have := hg.size; omega
  refine ⟨⟨?_, ?_, by omega, h.ga, fun e => hga (by injection e)⟩, ⟨?_, ?_, ?_, ?_, ?_, ?_⟩⟩
  · rw [heap_setCell_same _ a 0 _ _ _ ha1]; rfl
  · refine row_keep ho fun k hk => ?_
    injection hk with hk; subst hk
    exact Below.heap_setCell _ _ _ _ hga
  · exact hg.os.trans hx.os
  · exact hg.tape.trans hx.tape
  · exact hg.output.trans hx.output
  · simpa [World.setCell] using hsz
  · intro k hk h1 h2
    rw [Below.heap_setCell _ _ _ _ (by exact h1)]
    exact key k hk h2
  · rcases hat with h1 | h1
    · exact .inl h1.symm
    · exact .inr fun k hk => by injection hk with hk; subst hk; exact h1
/-- One changed. -/
theorem AR.turned (h : AR e t s B w a most n (P) c xs) {g j : Nat} (hP : P = some ⟨g, 0, none⟩) (u : Value) :
    AR e t s B (w.setCell ⟨g, j, none⟩ u) a most n P c (xs.set j u) ∧ Chg a (blk P) (blk P) w (w.setCell ⟨g, j, none⟩ u) := by
  subst hP
  have hga : a ≠ g := fun e => h.ne (by rw [e]; rfl)
  obtain ⟨h1, h2⟩ := h.own.stored j u
  refine ⟨⟨?_, h1, h.le, h.ga, h.ne⟩, ⟨rfl, rfl, rfl, by simp [World.setCell], fun k hk h3 h4 => Below.heap_setCell _ _ _ _ (fun e => h4 (by rw [e]; rfl)), .inl rfl⟩⟩
  rw [Below.heap_setCell _ _ _ _ hga]; exact h.ha
theorem AR.drewN (h : AR e t s B w a most n P c xs) (q : Nat) : AR e t s B (w.drewN q) a most n P c xs := h.keep rfl fun _ _ => rfl
end


theorem row_fill {w : World} {B e s n c g : Nat} : ∀ (vs pre rest post : List Value) (w : World), rest.length = vs.length → w.ownsRow B e s (.slice (some ⟨g, 0, none⟩) n c) n (pre ++ rest ++ post) → (w.setCells g pre.length vs).ownsRow B e s (.slice (some ⟨g, 0, none⟩) n c) n (pre ++ vs ++ post)
  | [], pre, rest, post, w, hl, h => by
    have : rest = [] := List.eq_nil_of_length_eq_zero hl
    subst this; exact h
  | v :: vs, pre, [], post, w, hl, h => by simp at hl
  | v :: vs, pre, r :: rest, post, w, hl, h => by
    have h1 := (h.stored pre.length v).1
    rw [List.append_assoc, List.set_append_right _ _ (Nat.le_refl _), Nat.sub_self, List.cons_append, List.set_cons_zero] at h1
    have h2 := row_fill (w := w) vs (pre ++ [v]) rest post (w.setCell ⟨g, pre.length, none⟩ v) (by simpa using hl) (by simpa using h1)
    simpa [World.setCells] using h2
theorem flat_put {α : Type} (f : α → List Value) (s : Nat) (hs : ∀ x, (f x).length = s) : ∀ (l : List α) (i : Nat) (x y : α), l[i]? = some x → ∃ pre post, l.flatMap f = pre ++ f x ++ post ∧ (l.set i y).flatMap f = pre ++ f y ++ post ∧ pre.length = i * s
  | [], i, x, y, h => by simp at h
  | a :: l, 0, x, y, h => by
    simp at h; subst h
    exact ⟨[], l.flatMap f, by simp, by simp, by simp⟩
  | a :: l, i + 1, x, y, h => by
    obtain ⟨pre, post, h1, h2, h3⟩ := flat_put f s hs l i x y (by simpa using h)
    refine ⟨f a ++ pre, post, ?_, ?_, ?_⟩
    · rw [List.flatMap_cons, h1]; simp
    · rw [List.set_cons_succ, List.flatMap_cons, h2]; simp
    · rw [List.length_append, hs, h3, Nat.add_mul]; omega
/-- One changed whole. -/
theorem AR.put {α : Type} {f : α → List Value} {w : World} {e t s B a most n c i : Nat} {P : Option Addr} {l : List α} {x : α} (hs : ∀ x, (f x).length = s) (h : AR e t s B w a most n P c (l.flatMap f)) {g : Nat} (hP : P = some ⟨g, 0, none⟩) (hx : l[i]? = some x) (y : α) :
    AR e t s B (w.setCells g (i * s) (f y)) a most n P c ((l.set i y).flatMap f) ∧ Chg a (blk P) (blk P) w (w.setCells g (i * s) (f y)) := by
  subst hP
  have hga : a ≠ g := fun e => h.ne (by rw [e]; rfl)
  obtain ⟨pre, post, h1, h2, h3⟩ := flat_put f s hs l i x y hx
  obtain ⟨k1, k2, k3, k4, k5⟩ := set_os (g := g) (f y) (i * s) w
  have ho := h.own
  rw [h1] at ho
  have ho2 := row_fill (w := w) (f y) pre (f x) post w (by rw [hs, hs]) ho
  rw [h3, ← h2] at ho2
  exact ⟨⟨(k5 a hga).trans h.ha, ho2, h.le, h.ga, h.ne⟩, ⟨k1, k2, k3, Nat.le_of_eq k4.symm, fun k hk h3 h4 => k5 k (fun e => h4 (by rw [e]; rfl)), .inl rfl⟩⟩

end Go.Proofs.YthiifnbgdajgaaaDoor.Ar
namespace Go.Proofs.YthiifnbgdajgaaaDoor
open Go.RowKit
/-- What a task is, but where its cases lie. -/
structure T0 where
  prog : Int
  pc : Int
  st : Int
  how : Int
  rg : Nat → Int
  op : Int
  a : Int
  b : Int
  c : Int
  d : Bool
  cs : List Pg.Ca
/-- .. and the words of that slice. -/
structure Tk where
  t : T0
  A : Option Addr
  cap : Nat
/-- .. as cells. -/
abbrev tW (t : T0) (A : Option Addr) (cap : Nat) : Array Value := tU t.prog t.pc t.st t.how (t.rg 0) (t.rg 1) (t.rg 2) (t.rg 3) (t.rg 4) (t.rg 5) (t.rg 6) (t.rg 7) t.op t.a t.b t.c A t.cs.length cap t.d
def tV (x : Tk) : List Value := (tW x.t x.A x.cap).toList
theorem tV_len (x : Tk) : (tV x).length = 18 := rfl
theorem tV_one (x : Tk) : ∀ u ∈ tV x, u.oneCell' = true := by
  intro u hu
  exact (Array.all_eq_true_iff_forall_mem.1 (tU_one ..)) u (by simpa [tV] using hu)
/-- Eight registers as a value. -/
abbrev gA (g : Nat → Int) : Value := .agg #[.int .i64 (g 0), .int .i64 (g 1), .int .i64 (g 2), .int .i64 (g 3), .int .i64 (g 4), .int .i64 (g 5), .int .i64 (g 6), .int .i64 (g 7)]
/-- An arena of tasks. -/
abbrev TA (B : Nat) (w : World) (a most n : Nat) (P : Option Addr) (c : Nat) (D : List Tk) : Prop := Ar.AR 47 76 18 B w a most n P c (D.flatMap tV)
theorem TA.cells {B a most n c i : Nat} {w : World} {P : Option Addr} {D : List Tk} {x : Tk} (h : TA B w a most n P c D) (hl : D.length = n) (hx : D[i]? = some x) :
    ∃ g, P = some ⟨g, 0, none⟩ ∧ g < w.heap.size ∧ w.rangeAt g (i * 18) (tW x.t x.A x.cap).toList ∧ w.there g (i * 18) 18 := by
  have hi := (List.getElem?_eq_some_iff.1 hx).1
  obtain ⟨g, rfl, hc⟩ := row_form h.own (by omega)
  have hr : ∀ j u, (tV x)[j]? = some u → w.cell? ⟨g, i * 18 + j, none⟩ = some u := fun j u hu => by
    have hj : j < 18 := by have := (List.getElem?_eq_some_iff.1 hu).1; rw [tV_len] at this; exact this
    rw [h.own.cellAt (i * 18 + j) (by omega), Pg.flat_at tV 18 tV_len D i x hx j hj]
    exact hu
  refine ⟨g, rfl, (row_lt h.own (k := g) rfl).2, hr, fun j hj => ⟨?_, h.own.frozenAt _⟩⟩
  rw [hr j _ (List.getElem?_eq_getElem (by rw [tV_len]; exact hj))]; rfl
end Go.Proofs.YthiifnbgdajgaaaDoor
