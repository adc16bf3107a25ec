/- An arena in memory: what it holds, how it carries, what an append makes of it. No condition. -/
import Derived.Test.YtfmjnhiipcocnaaChecked
import Derived.WalkKit
import Derived.Below
import Derived.Laws.OwnMore
import Derived.Deep.AppendLies
import Derived.Laws.Rows
import Derived.Laws.BitsAllLaws
import Derived.Lib.Hide
import Derived.Outline
import Derived.BigQuiet
import Derived.Deep.QuietTactic
import Derived.Deep.RegionWith
import Derived.Deep.RegionLaw
import Derived.StillTailTactics
namespace Go.Proofs.Ytfmjnhiipcocnaa
open Go.RowKit
set_option linter.unusedVariables false

theorem cell_blk {w w' : World} {b : Nat} (h : w'.heap[b]? = w.heap[b]?) (i : Nat) : w'.cell? ⟨b, i, none⟩ = w.cell? ⟨b, i, none⟩ := World.cell?_of_block (a := ⟨b, i, none⟩) h
theorem below_al (w : World) (o : Obj) : Below w.heap.size w (w.alloc o) := (Below.refl _ _).alloc (Nat.le_refl _) _
theorem below_drewN (w : World) (q : Nat) : Below w.heap.size w (w.drewN q) := ⟨rfl, rfl, rfl, Nat.le_refl _, fun _ _ => rfl⟩
theorem lt_of_blk {w : World} {b : Nat} {o : Obj} (h : w.heap[b]? = some o) : b < w.heap.size := (Array.getElem?_eq_some_iff.1 h).1

/-- The block that a slice lies in. -/
def blk (P : Option Addr) : Option Nat := P.map Addr.block
theorem own_blk (P : Option Addr) (n c : Nat) : (Value.slice P n c).ownBlock = blk P := by cases P <;> rfl

/-! A row of the call's own. -/
section
variable {w w' : World} {e s B n c : Nat} {P : Option Addr} {xs : List Value}
theorem row_lt (h : w.ownsRow B e s (.slice P n c) n xs) {k : Nat} (hk : blk P = some k) : B ≤ k ∧ k < w.heap.size := h.lt k (by rw [own_blk]; exact hk)
theorem row_tag (h : w.ownsRow B e s (.slice P n c) n xs) {k : Nat} (hk : blk P = some k) : ∃ cs fr, w.heap[k]? = some (.cells cs e fr) := by
  rcases h.2 with ⟨h1, _⟩ | ⟨g, cap, cur, h1, _, h2, _⟩
  · injection h1 with h1; subst h1; cases hk
  · injection h1 with h1; subst h1; cases hk; exact ⟨cur, (0, 0), h2⟩
theorem row_keep (h : w.ownsRow B e s (.slice P n c) n xs) (hb : ∀ k, blk P = some k → w'.heap[k]? = w.heap[k]?) : w'.ownsRow B e s (.slice P n c) n xs := by
  refine ⟨h.1, ?_⟩
  rcases h.2 with h1 | ⟨g, cap, cur, h1, h2, h3, h4⟩
  · exact .inl h1
  · refine .inr ⟨g, cap, cur, h1, h2, ?_, h4⟩
    injection h1 with h1; subst h1
    rw [hb g rfl]; exact h3
theorem row_later (h : w.ownsRow B e s (.slice P n c) n xs) (hb : Below w.heap.size w w') : w'.ownsRow B e s (.slice P n c) n xs := row_keep h fun k hk => hb.block k (row_lt h hk).2
theorem row_form (h : w.ownsRow B e s (.slice P n c) n xs) (hn : 0 < n) : ∃ g, P = some ⟨g, 0, none⟩ ∧ n ≤ c := by
  rcases h.2 with ⟨_, h0⟩ | ⟨g, cap, cur, h1, _, _, h2, _⟩
  · omega
  · injection h1 with h1 h3 h4; subst h4; exact ⟨g, h1, h2⟩
theorem row_cap (h : w.ownsRow B e s (.slice P n c) n xs) : n ≤ c := by
  rcases h.2 with ⟨h1, h0⟩ | ⟨g, cap, cur, h1, _, _, h2, _⟩
  · omega
  · injection h1 with h1 h3 h4; subst h4; exact h2
end

/-- Block a is an arena of at most so many: n are there, their cells are xs; its slice has the type t's element e, of s cells each; all lies from block B on. -/
structure AR (e t s B : Nat) (w : World) (a most n : Nat) (P : Option Addr) (c : Nat) (xs : List Value) : Prop where
  ha : w.heap[a]? = some (.cells #[.slice P n c, .int .i64 (most : Int)] t (0, 0))
  own : w.ownsRow B e s (.slice P n c) n xs
  le : n ≤ most
  ga : B ≤ a
  ne : blk P ≠ some a
/-- Nothing but the arena's two blocks has turned; where its slice lies elsewhere, that is new. -/
structure Chg (a : Nat) (o o' : Option Nat) (w w' : World) : Prop where
  os : w'.os = w.os
  tape : w'.tape = w.tape
  output : w'.output = w.output
  size : w.heap.size ≤ w'.heap.size
  block : ∀ k, k < w.heap.size → k ≠ a → o ≠ some k → w'.heap[k]? = w.heap[k]?
  new : o' = o ∨ ∀ k, o' = some k → w.heap.size ≤ k

section
variable {w w' : World} {e t s B a most n c : Nat} {P : Option Addr} {xs : List Value}
theorem AR.c0 (h : AR e t s B w a most n P c xs) : w.cell? ⟨a, 0, none⟩ = some (.slice P n c) := by rw [cell_of_row w a 0 _ _ _ h.ha]; rfl
theorem AR.c1 (h : AR e t s B w a most n P c xs) : w.cell? ⟨a, 1, none⟩ = some (.int .i64 (most : Int)) := by rw [cell_of_row w a 1 _ _ _ h.ha]; rfl
theorem AR.fa (h : AR e t s B w a most n P c xs) (i : Nat) : w.frozen? ⟨a, i, none⟩ = false := frozen_of_row w a i _ _ h.ha
theorem AR.lt (h : AR e t s B w a most n P c xs) : a < w.heap.size := lt_of_blk h.ha
theorem AR.keep (h : AR e t s B w a most n P c xs) (e1 : w'.heap[a]? = w.heap[a]?) (e2 : ∀ k, blk P = some k → w'.heap[k]? = w.heap[k]?) : AR e t s B w' a most n P c xs := ⟨by rw [e1]; exact h.ha, row_keep h.own e2, h.le, h.ga, h.ne⟩
theorem AR.later (h : AR e t s B w a most n P c xs) (hb : Below w.heap.size w w') : AR e t s B w' a most n P c xs := h.keep (hb.block _ h.lt) fun k hk => hb.block _ (row_lt h.own hk).2
theorem Chg.below {o o' : Option Nat} (h : Chg a o o' w w') (ha : B ≤ a) (ho : ∀ k, o = some k → B ≤ k) (hB : B ≤ w.heap.size) : Below B w w' :=
  ⟨h.os, h.tape, h.output, h.size, fun k hk => h.block k (by omega) (by omega) (fun e => by have := ho k e; omega)⟩
theorem AR.other {o o' : Option Nat} {b : Nat} (h : AR e t s B w a most n P c xs) (ch : Chg b o o' w w') (h1 : a ≠ b) (h2 : o ≠ some a) (h3 : blk P ≠ some b) (h4 : ∀ k, blk P = some k → o ≠ some k) : AR e t s B w' a most n P c xs :=
  h.keep (ch.block _ h.lt h1 h2) fun k hk => ch.block k (row_lt h.own hk).2 (fun e => h3 (by rw [hk, e])) (h4 k hk)
/-- A fresh one. -/
theorem AR.new (e t s B : Nat) (w : World) (most : Nat) (hB : B ≤ w.heap.size) : AR e t s B (w.alloc (.cells #[.slice none 0 0, .int .i64 (most : Int)] t)) w.heap.size most 0 none 0 [] :=
  ⟨heap_alloc_new _ _, World.ownsRow_nil _ _ _ _, Nat.zero_le _, hB, by simp [blk]⟩
/-- One more: what an append and the store behind it leave. -/
theorem AR.added {wx w1 : World} {g cap : Nat} {news : List Value} (h : AR e t s B w a most n P c xs) (hn : n < most) (het : e ≠ t) (hx : Below w.heap.size w wx) (ho : w1.ownsRow B e s (.slice (some ⟨g, 0, none⟩) (n + 1) cap) (n + 1) (xs ++ news)) (hg : wx.grownBy w1 (Value.slice P n c).ownBlock) (hat : (Value.slice P n c).ownBlock = some g ∨ w.heap.size ≤ g) :
    AR e t s B (w1.setCell ⟨a, 0, none⟩ (.slice (some ⟨g, 0, none⟩) (n + 1) cap)) a most (n + 1) (some ⟨g, 0, none⟩) cap (xs ++ news) ∧ Chg a (blk P) (some g) w (w1.setCell ⟨a, 0, none⟩ (.slice (some ⟨g, 0, none⟩) (n + 1) cap)) := by
  rw [own_blk] at hg hat
  have hs := hx.size
  have hlt := h.lt
  have key : ∀ k, k < w.heap.size → blk P ≠ some k → w1.heap[k]? = w.heap[k]? := fun k hk hne => (hg.block k (by omega) (fun e => hne e.symm)).trans (hx.block k hk)
  have ha1 := (key a hlt h.ne).trans h.ha
  have hga : g ≠ a := by
    intro e; subst e
    rcases hat with h1 | h1
    · exact h.ne h1
    · omega
  have hsz : w.heap.size ≤ w1.heap.size := by have := hg.size; omega
  refine ⟨⟨?_, ?_, by omega, h.ga, fun e => hga (by injection e)⟩, ⟨?_, ?_, ?_, ?_, ?_, ?_⟩⟩
  · rw [heap_setCell_same _ a 0 _ _ _ ha1]; rfl
  · refine row_keep ho fun k hk => ?_
    injection hk with hk; subst hk
    exact Below.heap_setCell _ _ _ _ hga
  · exact hg.os.trans hx.os
  · exact hg.tape.trans hx.tape
  · exact hg.output.trans hx.output
  · simpa [World.setCell] using hsz
  · intro k hk h1 h2
    rw [Below.heap_setCell _ _ _ _ (by exact h1)]
    exact key k hk h2
  · rcases hat with h1 | h1
    · exact .inl h1.symm
    · exact .inr fun k hk => by injection hk with hk; subst hk; exact h1
/-- One changed. -/
theorem AR.turned (h : AR e t s B w a most n (P) c xs) {g j : Nat} (hP : P = some ⟨g, 0, none⟩) (u : Value) :
    AR e t s B (w.setCell ⟨g, j, none⟩ u) a most n P c (xs.set j u) ∧ Chg a (blk P) (blk P) w (w.setCell ⟨g, j, none⟩ u) := by
  subst hP
  have hga : a ≠ g := fun e => h.ne (by rw [e]; rfl)
  obtain ⟨h1, h2⟩ := h.own.stored j u
  refine ⟨⟨?_, h1, h.le, h.ga, h.ne⟩, ⟨rfl, rfl, rfl, by simp [World.setCell], fun k hk h3 h4 => Below.heap_setCell _ _ _ _ (fun e => h4 (by rw [e]; rfl)), .inl rfl⟩⟩
  rw [Below.heap_setCell _ _ _ _ hga]; exact h.ha
theorem AR.drewN (h : AR e t s B w a most n P c xs) (q : Nat) : AR e t s B (w.drewN q) a most n P c xs := h.keep rfl fun _ _ => rfl
end

def BoolR (b : Bool) (w : World) (e : Ending) (w' : World) : Prop := e = .returned (.bool b) ∧ Below w.heap.size w w'

/-- Since the call began an arena of its own has come to hold xs; nothing that was there has turned. -/
structure ST (e t s : Nat) (W : World) (a most n : Nat) (P : Option Addr) (c : Nat) (xs : List Value) (w : World) : Prop where
  bel : Below W.heap.size W w
  ar : AR e t s W.heap.size w a most n P c xs
section
variable {W w w' : World} {e t s a most n n' c c' : Nat} {P P' : Option Addr} {xs xs' : List Value}
theorem ST.go (h : ST e t s W a most n P c xs w) (h1 : AR e t s W.heap.size w' a most n' P' c' xs' ∧ Chg a (blk P) (blk P') w w') : ST e t s W a most n' P' c' xs' w' :=
  ⟨h.bel.trans (h1.2.below h.ar.ga (fun k hk => (row_lt h.ar.own hk).1) h.bel.size), h1.1⟩
theorem ST.later (h : ST e t s W a most n P c xs w) (hb : Below w.heap.size w w') : ST e t s W a most n P c xs w' := ⟨h.bel.trans (hb.mono h.bel.size), h.ar.later hb⟩
theorem ST.drewN (h : ST e t s W a most n P c xs w) (q : Nat) : ST e t s W a most n P c xs (w.drewN q) := h.later (below_drewN w q)
end
end Go.Proofs.Ytfmjnhiipcocnaa
