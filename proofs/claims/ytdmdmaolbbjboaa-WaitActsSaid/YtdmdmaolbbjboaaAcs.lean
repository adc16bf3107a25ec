/- What is wanted, in a row that the call made; acts as memory. No condition. -/
import Derived.Test.YtdmdmaolbbjboaaAwk
namespace Go.Proofs.Ytdmdmaolbbjboaa
open Go.RowKit
set_option linter.unusedVariables false

/-- A slice of room c, in a block of waits from base on, reads as l. -/
def Wn (w : World) (base : Nat) (A : Option Addr) (n c : Nat) (l : List Wt) : Prop :=
  l.length = n ∧ n ≤ c ∧ c ≤ 9223372036854775807 ∧ (0 < n → ∃ g off cur, A = some ⟨g, off, none⟩ ∧ base ≤ g ∧ w.heap[g]? = some (.cells cur 28 (0, 0)) ∧ ∀ j u, (flW l)[j]? = some u → w.cell? ⟨g, off + j, none⟩ = some u)
theorem Wn.nil (w : World) (base : Nat) (A : Option Addr) (c : Nat) (hc : c ≤ 9223372036854775807) : Wn w base A 0 c [] := ⟨rfl, Nat.zero_le _, hc, fun h => absurd h (by omega)⟩
theorem Wn.keep {w w' : World} {base n c : Nat} {A : Option Addr} {l : List Wt} (h : Wn w base A n c l) (hb : ∀ g o, base ≤ g → w.heap[g]? = some o → ¬ IsQ w g → w'.heap[g]? = some o) : Wn w' base A n c l :=
  ⟨h.1, h.2.1, h.2.2.1, fun h0 => by
    obtain ⟨g, off, cur, e, hg, hc, hr⟩ := h.2.2.2 h0
    have h1 := hb g _ hg hc (not_isq hc (by decide))
    exact ⟨g, off, cur, e, hg, h1, fun j u hu => (cell_blk (h1.trans hc.symm) _).trans (hr j u hu)⟩⟩
theorem Wn.later {w w' : World} {base n c : Nat} {A : Option Addr} {l : List Wt} (h : Wn w base A n c l) (hb : Below w.heap.size w w') : Wn w' base A n c l := h.keep fun g o _ hg _ => (hb.block g (lt_of_blk hg)).trans hg
theorem Wn.go {w w' : World} {base B n c : Nat} {A : Option Addr} {l : List Wt} (h : Wn w base A n c l) (f : Fr B w w') : Wn w' base A n c l := h.keep fun g o _ hg hn => f.at hg hn
theorem Wn.rd {w : World} {base n c : Nat} {A : Option Addr} {l : List Wt} (h : Wn w base A n c l) : RdW w A n l :=
  ⟨h.1, by rw [flW_len, h.1], fun h0 => by
    obtain ⟨g, off, cur, e, hg, hc, hr⟩ := h.2.2.2 h0
    exact ⟨g, off, e, lt_of_blk hc, hr⟩⟩
theorem Wn.of_own {w : World} {base n : Nat} {v : Value} {l : List Wt} (hn : l.length = n) (h : w.ownsRow base 28 3 v n (flW l)) : ∃ A c, v = .slice A n c ∧ Wn w base A n c l := by
  have hh := h
  rcases h.2 with ⟨rfl, rfl⟩ | ⟨g, cap, cur, rfl, hg, hc, hle, hc2, _⟩
  · exact ⟨none, 0, rfl, hn, Nat.le_refl _, by omega, fun h => absurd h (by omega)⟩
  · refine ⟨_, cap, rfl, hn, hle, hc2, fun _ => ⟨g, 0, cur, rfl, hg, hc, fun j u hu => ?_⟩⟩
    have hj : j < (flW l).length := (List.getElem?_eq_some_iff.1 hu).1
    rw [flW_len, hn] at hj
    rw [Nat.zero_add, hh.cellAt j hj]; exact hu
theorem flW_take (l : List Wt) (k : Nat) : ∀ (j : Nat) (u : Value), (flW (l.take k))[j]? = some u → (flW l)[j]? = some u := by
  intro j u hu
  have e : flW l = flW (l.take k) ++ flW (l.drop k) := by rw [← flW_app, List.take_append_drop]
  rw [e, List.getElem?_append_left (List.getElem?_eq_some_iff.1 hu).1]; exact hu
theorem flW_drop (l : List Wt) (k : Nat) (hk : k ≤ l.length) : ∀ (j : Nat) (u : Value), (flW (l.drop k))[j]? = some u → (flW l)[k * 3 + j]? = some u := by
  intro j u hu
  have e : flW l = flW (l.take k) ++ flW (l.drop k) := by rw [← flW_app, List.take_append_drop]
  have h2 : (flW (l.take k)).length = k * 3 := by rw [flW_len, List.length_take]; congr 1; omega
  rw [e, List.getElem?_append_right (by omega), h2, Nat.add_sub_cancel_left]; exact hu
/-- Its first k. -/
theorem Wn.take {w : World} {base n c k : Nat} {A : Option Addr} {l : List Wt} (h : Wn w base A n c l) (hk : k ≤ n) : Wn w base A k c (l.take k) :=
  ⟨by rw [List.length_take, h.1]; omega, by have := h.2.1; omega, h.2.2.1, fun h0 => by
    obtain ⟨g, off, cur, e, hg, hc, hr⟩ := h.2.2.2 (by omega)
    exact ⟨g, off, cur, e, hg, hc, fun j u hu => hr j u (flW_take _ _ _ _ hu)⟩⟩
/-- Those behind its first k. -/
theorem Wn.drop {w : World} {base n c k g off : Nat} {l : List Wt} (h : Wn w base (some ⟨g, off, none⟩) n c l) (hk : k ≤ n) : Wn w base (some ⟨g, off + k * 3, none⟩) (n - k) (c - k) (l.drop k) :=
  ⟨by rw [List.length_drop, h.1], by have := h.2.1; omega, by have := h.2.2.1; omega, fun h0 => by
    obtain ⟨g', off', cur, e, hg, hc, hr⟩ := h.2.2.2 (by omega)
    cases e
    exact ⟨g, _, cur, rfl, hg, hc, fun j u hu => by rw [Nat.add_assoc]; exact hr _ u (flW_drop l k (by rw [h.1]; exact hk) j u hu)⟩⟩
theorem Wn.cells {w : World} {base n c : Nat} {A : Option Addr} {l : List Wt} (h : Wn w base A n c l) (h0 : 0 < n) : ∃ g off, A = some ⟨g, off, none⟩ ∧ base ≤ g ∧ g < w.heap.size ∧
    ∀ i x, l[i]? = some x → w.cell? ⟨g, off + i * 3, none⟩ = some (.int .i64 x.t) ∧ w.cell? ⟨g, off + i * 3 + 1, none⟩ = some (.int .i64 x.c) ∧ w.cell? ⟨g, off + i * 3 + 2, none⟩ = some (.int .i64 x.v) := by
  obtain ⟨g, off, e, h1, h2⟩ := h.rd.cells h0
  obtain ⟨g', off', cur, e', hg, _⟩ := h.2.2.2 h0
  rw [e] at e'; cases e'
  exact ⟨g, off, e, hg, h1, h2⟩

/-- A Queue of the call's own, and a slice of the call's own, hold the same. -/
structure AcS (W : World) (l : List Wt) (A : Option Addr) (n c : Nat) (w : World) : Prop where
  st : ST W l w
  wn : Wn w W.heap.size A n c l
theorem AcS.later {W w w' : World} {l : List Wt} {A : Option Addr} {n c : Nat} (h : AcS W l A n c w) (hb : Below w.heap.size w w') : AcS W l A n c w' := ⟨h.st.later hb, h.wn.later hb⟩
theorem AcS.drewN {W w : World} {l : List Wt} {A : Option Addr} {n c : Nat} (h : AcS W l A n c w) (q : Nat) : AcS W l A n c (w.drewN q) := h.later (below_drewN (Below.refl _ _) q)
theorem AcS.len {W w : World} {l : List Wt} {A : Option Addr} {n c : Nat} (h : AcS W l A n c w) : l.length = n := h.wn.1

/-- An act: its kind, a wait, two numbers. -/
structure Ac where
  k : Int
  x : Wt
  n : Int
  m : Int
def aV (a : Ac) : List Value := [.int .i64 a.k, .int .i64 a.x.t, .int .i64 a.x.c, .int .i64 a.x.v, .int .i64 a.n, .int .i64 a.m]
theorem aV_len (a : Ac) : (aV a).length = 6 := rfl
def RdA (w : World) (A : Option Addr) (n : Nat) (l : List Ac) : Prop := l.length = n ∧ Rd w w.heap.size A n 6 (l.flatMap aV)
/-- Its element k, later on. -/
theorem RdA.cells {W w : World} {A : Option Addr} {n k : Nat} {l : List Ac} (h : RdA W A n l) (hb : Below W.heap.size W w) (hk : k < n) : ∃ b off a, A = some ⟨b, off, none⟩ ∧ b < W.heap.size ∧ l[k]? = some a ∧
    w.cell? ⟨b, off + k * 6, none⟩ = some (.int .i64 a.k) ∧ w.cell? ⟨b, off + k * 6 + 1, none⟩ = some (.int .i64 a.x.t) ∧ w.cell? ⟨b, off + k * 6 + 2, none⟩ = some (.int .i64 a.x.c) ∧ w.cell? ⟨b, off + k * 6 + 3, none⟩ = some (.int .i64 a.x.v) ∧
    w.cell? ⟨b, off + k * 6 + 4, none⟩ = some (.int .i64 a.n) ∧ w.cell? ⟨b, off + k * 6 + 5, none⟩ = some (.int .i64 a.m) := by
  obtain ⟨b, off, e, hl, hc⟩ := Rd.at aV_len h.2 (by omega)
  have hx : l[k]? = some (l[k]'(by rw [h.1]; exact hk)) := List.getElem?_eq_getElem _
  have q : ∀ i, w.cell? ⟨b, i, none⟩ = W.cell? ⟨b, i, none⟩ := cell_blk (hb.block b hl)
  exact ⟨b, off, _, e, hl, hx, (q _).trans (hc k _ hx 0 (by omega) _ rfl), (q _).trans (hc k _ hx 1 (by omega) _ rfl), (q _).trans (hc k _ hx 2 (by omega) _ rfl), (q _).trans (hc k _ hx 3 (by omega) _ rfl), (q _).trans (hc k _ hx 4 (by omega) _ rfl), (q _).trans (hc k _ hx 5 (by omega) _ rfl)⟩
end Go.Proofs.Ytdmdmaolbbjboaa
