/- A ring in memory: what it holds, and how it carries; slices that read as a row of numbers. No condition. -/
import Derived.Test.YtmjogkjdjhhilaaChecked
import Derived.WalkKit
import Derived.Below
import Derived.Laws.OwnMore
import Derived.Deep.AppendLies
import Derived.Laws.Rows
import Derived.Laws.BitsAllLaws
import Derived.Lib.Hide
import Derived.Outline
import Derived.BigQuiet
import Derived.Deep.QuietTactic
import Derived.Deep.RegionWith
import Derived.ArgAppend
namespace Go.Proofs.Ytmjogkjdjhhilaa
open Go.RowKit
set_option linter.unusedVariables false

/-! Places that go round: plain mathematics. -/
/-- The places ps, the first value at f, hold the values l. -/
def QQ (ps : List Int) (f : Nat) (l : List Int) : Prop :=
  l.length ≤ ps.length ∧ (0 < ps.length → f < ps.length) ∧ (ps.length = 0 → f = 0) ∧ ∀ i x, l[i]? = some x → ps[(f + i) % ps.length]? = some x

theorem mod_ne {n f i j : Nat} (hi : i < j) (hj : j < n + i) : (f + i) % n ≠ (f + j) % n := by
  intro h
  have h1 : (f + j - (f + i)) % n = 0 := by
    rw [← Nat.sub_mod_eq_zero_of_mod_eq (h.symm)]
  rw [show f + j - (f + i) = j - i by omega] at h1
  rw [Nat.mod_eq_of_lt (by omega)] at h1
  omega
theorem QQ.new (n : Nat) : QQ (List.replicate n 0) 0 [] := ⟨by simp, fun h => h, fun _ => rfl, fun i x h => by simp at h⟩
theorem QQ.clear {ps qs : List Int} {f : Nat} {l : List Int} (h : QQ ps f l) (hq : qs.length = ps.length) : QQ qs f [] :=
  ⟨by simp, fun h0 => by rw [hq] at h0 ⊢; exact h.2.1 h0, fun h0 => h.2.2.1 (by omega), fun i x hx => by simp at hx⟩
theorem QQ.push {ps : List Int} {f : Nat} {l : List Int} (h : QQ ps f l) (hl : l.length < ps.length) (v : Int) : QQ (ps.set ((f + l.length) % ps.length) v) f (l ++ [v]) := by
  obtain ⟨h1, h2, h3, h4⟩ := h
  refine ⟨by simp; omega, by simpa using h2, by simpa using h3, fun i x hx => ?_⟩
  rw [List.length_set]
  by_cases hi : i < l.length
  · rw [List.getElem?_append_left hi] at hx
    rw [List.getElem?_set_ne (fun e => mod_ne (n := ps.length) (f := f) hi (by omega) e.symm)]
    exact h4 i x hx
  · have hi2 : i < (l ++ [v]).length := (List.getElem?_eq_some_iff.1 hx).1
    simp at hi2
    obtain rfl : i = l.length := by omega
    simp at hx
    subst hx
    rw [List.getElem?_set_self (Nat.mod_lt _ (by omega))]
theorem QQ.pop {ps : List Int} {f : Nat} {l : List Int} {x : Int} (h : QQ ps f (x :: l)) : QQ (ps.set f 0) ((f + 1) % ps.length) l := by
  obtain ⟨h1, h2, h3, h4⟩ := h
  simp at h1
  refine ⟨by simp; omega, fun h0 => by rw [List.length_set] at h0 ⊢; exact Nat.mod_lt _ h0, fun h0 => by rw [List.length_set] at h0; omega, fun i y hy => ?_⟩
  rw [List.length_set]
  have hi : i < l.length := (List.getElem?_eq_some_iff.1 hy).1
  have hf := h2 (by omega)
  have e : ((f + 1) % ps.length + i) % ps.length = (f + (i + 1)) % ps.length := by rw [Nat.mod_add_mod]; congr 1; omega
  rw [e, List.getElem?_set_ne (fun e2 => ?_)]
  · exact h4 (i + 1) y (by simpa using hy)
  · have e3 := mod_ne (n := ps.length) (f := f) (i := 0) (j := i + 1) (by omega) (by omega)
    rw [Nat.add_zero, Nat.mod_eq_of_lt hf] at e3
    exact e3 e2
theorem QQ.head {ps : List Int} {f : Nat} {l : List Int} {x : Int} (h : QQ ps f (x :: l)) : ps[f]? = some x := by
  have := h.2.2.2 0 x (by simp)
  have h1 := h.1
  simp at h1
  rwa [Nat.add_zero, Nat.mod_eq_of_lt (h.2.1 (by omega))] at this

/-! In memory. -/
def iV (l : List Int) : List Value := l.map (Value.int .i64)
def iA (l : List Int) : Array Value := (l.map (Value.int .i64)).toArray
theorem iA_at {l : List Int} {j : Nat} {x : Int} (h : l[j]? = some x) : (iA l)[j]? = some (.int .i64 x) := by simp [iA, h]
theorem iA_set (l : List Int) (j : Nat) (x : Int) : (iA l).setIfInBounds j (.int .i64 x) = iA (l.set j x) := by simp [iA, List.map_set]
theorem cell_blk {w w' : World} {b : Nat} (h : w'.heap[b]? = w.heap[b]?) (i : Nat) : w'.cell? ⟨b, i, none⟩ = w.cell? ⟨b, i, none⟩ := World.cell?_of_block (a := ⟨b, i, none⟩) h
theorem below_al (w : World) (o : Obj) : Below w.heap.size w (w.alloc o) := (Below.refl _ _).alloc (Nat.le_refl _) _
theorem lt_of_blk {w : World} {b : Nat} {o : Obj} (h : w.heap[b]? = some o) : b < w.heap.size := (Array.getElem?_eq_some_iff.1 h).1

/-- Block a is a ring, its places lie in block p: sz of them, the first value at f. -/
structure RI (w : World) (a p sz f : Nat) (ps l : List Int) : Prop where
  ne : a ≠ p
  len : ps.length = sz
  q : QQ ps f l
  hp : w.heap[p]? = some (.cells (iA ps) 3 (0, 0))
  ha : w.heap[a]? = some (.cells #[.slice (some ⟨p, 0, none⟩) sz sz, .int .i64 f, .int .i64 l.length] 40 (0, 0))
/-- Block a is a ring of size sz that holds l. -/
def RG (w : World) (a p sz : Nat) (l : List Int) : Prop := ∃ f ps, RI w a p sz f ps l

section
variable {w w' : World} {a p sz f : Nat} {ps l : List Int}
theorem RI.c0 (h : RI w a p sz f ps l) : w.cell? ⟨a, 0, none⟩ = some (.slice (some ⟨p, 0, none⟩) sz sz) := by rw [cell_of_row w a 0 _ _ _ h.ha]; rfl
theorem RI.c1 (h : RI w a p sz f ps l) : w.cell? ⟨a, 1, none⟩ = some (.int .i64 f) := by rw [cell_of_row w a 1 _ _ _ h.ha]; rfl
theorem RI.c2 (h : RI w a p sz f ps l) : w.cell? ⟨a, 2, none⟩ = some (.int .i64 l.length) := by rw [cell_of_row w a 2 _ _ _ h.ha]; rfl
theorem RI.fa (h : RI w a p sz f ps l) (i : Nat) : w.frozen? ⟨a, i, none⟩ = false := frozen_of_row w a i _ _ h.ha
theorem RI.fp (h : RI w a p sz f ps l) (i : Nat) : w.frozen? ⟨p, i, none⟩ = false := frozen_of_row w p i _ _ h.hp
theorem RI.cp (h : RI w a p sz f ps l) {i : Nat} {x : Int} (hx : ps[i]? = some x) : w.cell? ⟨p, i, none⟩ = some (.int .i64 x) := by rw [cell_of_row w p i _ _ _ h.hp]; exact iA_at hx
theorem RI.le (h : RI w a p sz f ps l) : l.length ≤ sz := by rw [← h.len]; exact h.q.1
theorem RI.lt (h : RI w a p sz f ps l) (h0 : 0 < sz) : f < sz := by have := h.len; subst this; exact h.q.2.1 h0
theorem RI.keep (h : RI w a p sz f ps l) (e1 : w'.heap[a]? = w.heap[a]?) (e2 : w'.heap[p]? = w.heap[p]?) : RI w' a p sz f ps l := ⟨h.ne, h.len, h.q, by rw [e2]; exact h.hp, by rw [e1]; exact h.ha⟩
theorem RG.keep (h : RG w a p sz l) (e1 : w'.heap[a]? = w.heap[a]?) (e2 : w'.heap[p]? = w.heap[p]?) : RG w' a p sz l := by obtain ⟨f, ps, h⟩ := h; exact ⟨f, ps, h.keep e1 e2⟩
theorem RG.la (h : RG w a p sz l) : a < w.heap.size := by obtain ⟨f, ps, h⟩ := h; exact lt_of_blk h.ha
theorem RG.lp (h : RG w a p sz l) : p < w.heap.size := by obtain ⟨f, ps, h⟩ := h; exact lt_of_blk h.hp
theorem RG.later (h : RG w a p sz l) (hb : Below w.heap.size w w') : RG w' a p sz l := h.keep (hb.block _ h.la) (hb.block _ h.lp)
theorem RG.le (h : RG w a p sz l) : l.length ≤ sz := by obtain ⟨f, ps, h⟩ := h; exact h.le
end

/-- Nothing but the blocks a and p has turned. -/
structure Only (a p : Nat) (w w' : World) : Prop where
  os : w'.os = w.os
  tape : w'.tape = w.tape
  output : w'.output = w.output
  size : w'.heap.size = w.heap.size
  block : ∀ k, k ≠ a → k ≠ p → w'.heap[k]? = w.heap[k]?
theorem Only.refl (a p : Nat) (w : World) : Only a p w w := ⟨rfl, rfl, rfl, rfl, fun _ _ _ => rfl⟩
theorem Only.trans {a p : Nat} {u v w : World} (h : Only a p u v) (k : Only a p v w) : Only a p u w :=
  ⟨k.os.trans h.os, k.tape.trans h.tape, k.output.trans h.output, k.size.trans h.size, fun i h1 h2 => (k.block i h1 h2).trans (h.block i h1 h2)⟩
theorem Only.set {a p b i : Nat} {u w : World} (h : Only a p u w) (hb : b = a ∨ b = p) (v : Value) : Only a p u (w.setCell ⟨b, i, none⟩ v) :=
  h.trans ⟨rfl, rfl, rfl, by simp [World.setCell], fun k h1 h2 => Below.heap_setCell _ _ _ _ (by rcases hb with rfl | rfl <;> assumption)⟩
theorem Only.drewN {a p : Nat} {u w : World} (h : Only a p u w) (n : Nat) : Only a p u (w.drewN n) := h.trans ⟨rfl, rfl, rfl, rfl, fun _ _ _ => rfl⟩
theorem Only.below {a p B : Nat} {w w' : World} (h : Only a p w w') (ha : B ≤ a) (hp : B ≤ p) : Below B w w' :=
  ⟨h.os, h.tape, h.output, by rw [h.size]; exact Nat.le_refl _, fun k hk => h.block k (by omega) (by omega)⟩
theorem RG.other {a p sz b q : Nat} {l : List Int} {w w' : World} (h : RG w a p sz l) (ho : Only b q w w') (h1 : a ≠ b) (h2 : a ≠ q) (h3 : p ≠ b) (h4 : p ≠ q) : RG w' a p sz l := h.keep (ho.block _ h1 h2) (ho.block _ h3 h4)

/-- A slice of n numbers reads as l. -/
def Rn (w : World) (B : Nat) (A : Option Addr) (n : Nat) (l : List Int) : Prop :=
  l.length = n ∧ (0 < n → ∃ b off, A = some ⟨b, off, none⟩ ∧ b < B ∧ ∀ j x, l[j]? = some x → w.cell? ⟨b, off + j, none⟩ = some (.int .i64 x))
theorem Rn.keep {w w' : World} {B B' : Nat} {A : Option Addr} {n : Nat} {l : List Int} (h : Rn w B A n l) (hB : B ≤ B') (hb : ∀ b, b < B → w'.heap[b]? = w.heap[b]?) : Rn w' B' A n l :=
  ⟨h.1, fun h0 => by
    obtain ⟨b, off, e, hl, hc⟩ := h.2 h0
    exact ⟨b, off, e, by omega, fun j u hu => (cell_blk (hb b hl) _).trans (hc j u hu)⟩⟩
theorem Rn.later {w w' : World} {A : Option Addr} {n : Nat} {l : List Int} (h : Rn w w.heap.size A n l) (hb : Below w.heap.size w w') : Rn w' w'.heap.size A n l :=
  h.keep hb.size fun b hl => hb.block b hl
theorem Rn.nil (w : World) (B : Nat) (A : Option Addr) : Rn w B A 0 [] := ⟨rfl, fun h => absurd h (by omega)⟩
theorem Rn.of_own {w : World} {base e n c : Nat} {A : Option Addr} {l : List Int} (h : w.ownsRow base e 1 (.slice A n c) n (iV l)) : Rn w w.heap.size A n l := by
  have hl : l.length = n := by have := h.1; simp [iV] at this; omega
  refine ⟨hl, fun hn => ?_⟩
  obtain ⟨g, cap, hv, _, hlt⟩ := h.form hn
  have hA : A = some ⟨g, 0, none⟩ := by injection hv
  subst hA
  refine ⟨g, 0, rfl, hlt, fun j u hu => ?_⟩
  have hj : j < l.length := (List.getElem?_eq_some_iff.1 hu).1
  rw [Nat.zero_add, h.cellAt j (by rw [Nat.mul_one]; omega)]
  simp [iV, hu]

def BoolR (b : Bool) (w : World) (e : Ending) (w' : World) : Prop := e = .returned (.bool b) ∧ Below w.heap.size w w'
theorem ret_bool {a b : Bool} (h : a = b) : Ending.returned (.bool a) = .returned (.bool b) := by rw [h]
theorem ret_int {k : IntKind} {a b : Int} (h : a = b) : Ending.returned (.int k a) = .returned (.int k b) := by rw [h]
end Go.Proofs.Ytmjogkjdjhhilaa
