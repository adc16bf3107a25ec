/- A channel in memory: a ring, and two queues of links within it; what carries it. No condition.
What each call of package ring does to a ring in memory. Conditions: each theorem's own premises.
cut takes a link out: those next to it stand next to each other then. Condition: the Queue has it. -/
import Derived.Test.YtmadcnpkaijllaaGreatChecked
import Derived.WalkKit
import Derived.Below
import Derived.Laws.OwnMore
import Derived.Deep.AppendLies
import Derived.Laws.Rows
import Derived.Laws.BitsAllLaws
import Derived.Lib.Hide
import Derived.Outline
import Derived.BigQuiet
import Derived.Deep.QuietTactic
import Derived.Deep.RegionWith
import Derived.Deep.RegionLaw
import Derived.ArgAppend
import Derived.Deep.LoopGhost
import Derived.Laws.ResultCell
import Derived.Lib.SliceRun
import Derived.StillTailTactics
namespace Go.Proofs.YtmadcnpkaijllaaGreat.Ch
open Go.RowKit
set_option linter.unusedVariables false
set_option maxRecDepth 100000

/-! Places that go round: plain mathematics. -/
/-- The places ps, the first value at f, hold the values l. -/
def QQ (ps : List Int) (f : Nat) (l : List Int) : Prop :=
  l.length ≤ ps.length ∧ (0 < ps.length → f < ps.length) ∧ (ps.length = 0 → f = 0) ∧ ∀ i x, l[i]? = some x → ps[(f + i) % ps.length]? = some x

theorem mod_ne {n f i j : Nat} (hi : i < j) (hj : j < n + i) : (f + i) % n ≠ (f + j) % n := by
  intro h
  have h1 : (f + j - (f + i)) % n = 0 := by
    rw [← Nat.sub_mod_eq_zero_of_mod_eq (h.symm)]
  rw [show f + j - (f + i) = j - i by omega] at h1
  rw [Nat.mod_eq_of_lt (by omega)] at h1
  omega
theorem QQ.new (n : Nat) : QQ (List.replicate n 0) 0 [] := ⟨by simp, fun h => h, fun _ => rfl, fun i x h => by simp at h⟩
theorem QQ.clear {ps qs : List Int} {f : Nat} {l : List Int} (h : QQ ps f l) (hq : qs.length = ps.length) : QQ qs f [] :=
  ⟨by simp, fun h0 => by rw [hq] at h0 ⊢; exact h.2.1 h0, fun h0 => h.2.2.1 (by omega), fun i x hx => by simp at hx⟩
theorem QQ.push {ps : List Int} {f : Nat} {l : List Int} (h : QQ ps f l) (hl : l.length < ps.length) (v : Int) : QQ (ps.set ((f + l.length) % ps.length) v) f (l ++ [v]) := by
  obtain ⟨h1, h2, h3, h4⟩ := h
  refine ⟨by simp; omega, by simpa using h2, by simpa using h3, fun i x hx => ?_⟩
  rw [List.length_set]
  by_cases hi : i < l.length
  · rw [List.getElem?_append_left hi] at hx
    rw [List.getElem?_set_ne (fun e => mod_ne (n := ps.length) (f := f) hi (by omega) e.symm)]
    exact h4 i x hx
  · have hi2 : i < (l ++ [v]).length := (List.getElem?_eq_some_iff.1 hx).1
    simp at hi2
    obtain rfl : i = l.length := by omega
    simp at hx
    subst hx
    rw [List.getElem?_set_self (Nat.mod_lt _ (by omega))]
theorem QQ.pop {ps : List Int} {f : Nat} {l : List Int} {x : Int} (h : QQ ps f (x :: l)) : QQ (ps.set f 0) ((f + 1) % ps.length) l := by
  obtain ⟨h1, h2, h3, h4⟩ := h
  simp at h1
  refine ⟨by simp; omega, fun h0 => by rw [List.length_set] at h0 ⊢; exact Nat.mod_lt _ h0, fun h0 => by rw [List.length_set] at h0; omega, fun i y hy => ?_⟩
  rw [List.length_set]
  have hi : i < l.length := (List.getElem?_eq_some_iff.1 hy).1
  have hf := h2 (by omega)
  have e : ((f + 1) % ps.length + i) % ps.length = (f + (i + 1)) % ps.length := by rw [Nat.mod_add_mod]; congr 1; omega
  rw [e, List.getElem?_set_ne (fun e2 => ?_)]
  · exact h4 (i + 1) y (by simpa using hy)
  · have e3 := mod_ne (n := ps.length) (f := f) (i := 0) (j := i + 1) (by omega) (by omega)
    rw [Nat.add_zero, Nat.mod_eq_of_lt hf] at e3
    exact e3 e2
theorem QQ.head {ps : List Int} {f : Nat} {l : List Int} {x : Int} (h : QQ ps f (x :: l)) : ps[f]? = some x := by
  have := h.2.2.2 0 x (by simp)
  have h1 := h.1
  simp at h1
  rwa [Nat.add_zero, Nat.mod_eq_of_lt (h.2.1 (by omega))] at this

/-! In memory. -/
def iV (l : List Int) : List Value := l.map (Value.int .i64)
def iA (l : List Int) : Array Value := (l.map (Value.int .i64)).toArray
theorem iA_at {l : List Int} {j : Nat} {x : Int} (h : l[j]? = some x) : (iA l)[j]? = some (.int .i64 x) := by simp [iA, h]
theorem iA_set (l : List Int) (j : Nat) (x : Int) : (iA l).setIfInBounds j (.int .i64 x) = iA (l.set j x) := by simp [iA, List.map_set]
theorem cell_blk {w w' : World} {b : Nat} (h : w'.heap[b]? = w.heap[b]?) (i : Nat) : w'.cell? ⟨b, i, none⟩ = w.cell? ⟨b, i, none⟩ := World.cell?_of_block (a := ⟨b, i, none⟩) h
theorem frozen_blk {w w' : World} {b : Nat} (h : w'.heap[b]? = w.heap[b]?) (i : Nat) : w'.frozen? ⟨b, i, none⟩ = w.frozen? ⟨b, i, none⟩ := World.frozen?_of_block (a := ⟨b, i, none⟩) h
theorem below_al (w : World) (o : Obj) : Below w.heap.size w (w.alloc o) := (Below.refl _ _).alloc (Nat.le_refl _) _
theorem below_drewN {B : Nat} {a w : World} (h : Below B a w) (n : Nat) : Below B a (w.drewN n) := ⟨h.os, h.tape, h.output, h.size, h.block⟩
theorem lt_of_blk {w : World} {b : Nat} {o : Obj} (h : w.heap[b]? = some o) : b < w.heap.size := (Array.getElem?_eq_some_iff.1 h).1
theorem size_set (w : World) (a : Addr) (u : Value) : (w.setCell a u).heap.size = w.heap.size := by simp [World.setCell]
def BoolR (b : Bool) (w : World) (e : Ending) (w' : World) : Prop := e = .returned (.bool b) ∧ Below w.heap.size w w'
theorem ret_bool {a b : Bool} (h : a = b) : Ending.returned (.bool a) = .returned (.bool b) := by rw [h]
theorem ret_int {k : IntKind} {a b : Int} (h : a = b) : Ending.returned (.int k a) = .returned (.int k b) := by rw [h]

/-! Nothing has turned but new blocks and those of F. -/
structure Tn (F : Nat → Prop) (w w' : World) : Prop where
  os : w'.os = w.os
  tape : w'.tape = w.tape
  output : w'.output = w.output
  size : w.heap.size ≤ w'.heap.size
  block : ∀ k, k < w.heap.size → ¬ F k → w'.heap[k]? = w.heap[k]?
theorem Tn.refl (F : Nat → Prop) (w : World) : Tn F w w := ⟨rfl, rfl, rfl, Nat.le_refl _, fun _ _ _ => rfl⟩
theorem Tn.of_below {F : Nat → Prop} {w w' : World} (h : Below w.heap.size w w') : Tn F w w' := ⟨h.os, h.tape, h.output, h.size, fun k hk _ => h.block k hk⟩
theorem Tn.comp {F G : Nat → Prop} {u v w : World} (h : Tn F u v) (k : Tn G v w) (hs : ∀ b, G b → F b ∨ u.heap.size ≤ b) : Tn F u w :=
  ⟨k.os.trans h.os, k.tape.trans h.tape, k.output.trans h.output, Nat.le_trans h.size k.size, fun i hi hn => by
    rw [← h.block i hi hn]
    exact k.block i (by have := h.size; omega) (fun hg => by rcases hs i hg with h1 | h1; exact hn h1; omega)⟩
theorem Tn.trans {F : Nat → Prop} {u v w : World} (h : Tn F u v) (k : Tn F v w) : Tn F u w := h.comp k fun _ hb => .inl hb
theorem Tn.mono {F G : Nat → Prop} {w w' : World} (h : Tn F w w') (hs : ∀ b, F b → G b ∨ w.heap.size ≤ b) : Tn G w w' := (Tn.refl G w).comp h hs
theorem Tn.set {F : Nat → Prop} {u w : World} {b i : Nat} (h : Tn F u w) (hb : F b ∨ u.heap.size ≤ b) (v : Value) : Tn F u (w.setCell ⟨b, i, none⟩ v) :=
  ⟨h.os, h.tape, h.output, by rw [size_set]; exact h.size, fun k hk hn => (Below.heap_setCell _ _ _ _ (by rintro rfl; rcases hb with h1 | h1; exact hn h1; omega)).trans (h.block k hk hn)⟩
theorem Tn.draws {F : Nat → Prop} {u w w' : World} (h : Tn F u w) (hh : w'.heap = w.heap) (h1 : w'.os = w.os) (h2 : w'.tape = w.tape) (h3 : w'.output = w.output) : Tn F u w' :=
  ⟨h1.trans h.os, h2.trans h.tape, h3.trans h.output, by rw [hh]; exact h.size, fun k hk hn => by rw [hh]; exact h.block k hk hn⟩
theorem Tn.later {F : Nat → Prop} {u w w' : World} (h : Tn F u w) (hb : Below w.heap.size w w') : Tn F u w' := h.trans (.of_below hb)
theorem Tn.below {F : Nat → Prop} {B : Nat} {w w' : World} (h : Tn F w w') (hB : B ≤ w.heap.size) (hF : ∀ b, F b → B ≤ b) : Below B w w' :=
  ⟨h.os, h.tape, h.output, h.size, fun k hk => h.block k (by omega) (fun hf => by have := hF k hf; omega)⟩
theorem Tn.early {F : Nat → Prop} {w w' : World} {o : Obj} (h : Tn F (w.alloc o) w') : Tn F w w' := (Tn.of_below (below_al w o)).trans h

/-! A ring. -/
/-- Block a is a ring, its places lie in block p: sz of them, the first value at f. -/
structure RI (w : World) (a p sz f : Nat) (ps l : List Int) : Prop where
  ne : a ≠ p
  len : ps.length = sz
  q : QQ ps f l
  hp : w.heap[p]? = some (.cells (iA ps) 3 (0, 0))
  ha : w.heap[a]? = some (.cells #[.slice (some ⟨p, 0, none⟩) sz sz, .int .i64 f, .int .i64 l.length] 153 (0, 0))
/-- Block a is a ring of size sz that holds l. -/
def RG (w : World) (a p sz : Nat) (l : List Int) : Prop := ∃ f ps, RI w a p sz f ps l

section
variable {w w' : World} {a p sz f : Nat} {ps l : List Int}
theorem RI.c0 (h : RI w a p sz f ps l) : w.cell? ⟨a, 0, none⟩ = some (.slice (some ⟨p, 0, none⟩) sz sz) := by rw [cell_of_row w a 0 _ _ _ h.ha]; rfl
theorem RI.c1 (h : RI w a p sz f ps l) : w.cell? ⟨a, 1, none⟩ = some (.int .i64 f) := by rw [cell_of_row w a 1 _ _ _ h.ha]; rfl
theorem RI.c2 (h : RI w a p sz f ps l) : w.cell? ⟨a, 2, none⟩ = some (.int .i64 l.length) := by rw [cell_of_row w a 2 _ _ _ h.ha]; rfl
theorem RI.fa (h : RI w a p sz f ps l) (i : Nat) : w.frozen? ⟨a, i, none⟩ = false := frozen_of_row w a i _ _ h.ha
theorem RI.fp (h : RI w a p sz f ps l) (i : Nat) : w.frozen? ⟨p, i, none⟩ = false := frozen_of_row w p i _ _ h.hp
theorem RI.cp (h : RI w a p sz f ps l) {i : Nat} {x : Int} (hx : ps[i]? = some x) : w.cell? ⟨p, i, none⟩ = some (.int .i64 x) := by rw [cell_of_row w p i _ _ _ h.hp]; exact iA_at hx
theorem RI.le (h : RI w a p sz f ps l) : l.length ≤ sz := by rw [← h.len]; exact h.q.1
theorem RI.lt (h : RI w a p sz f ps l) (h0 : 0 < sz) : f < sz := by have := h.len; subst this; exact h.q.2.1 h0
theorem RI.keep (h : RI w a p sz f ps l) (e1 : w'.heap[a]? = w.heap[a]?) (e2 : w'.heap[p]? = w.heap[p]?) : RI w' a p sz f ps l := ⟨h.ne, h.len, h.q, by rw [e2]; exact h.hp, by rw [e1]; exact h.ha⟩
theorem RG.keep (h : RG w a p sz l) (e1 : w'.heap[a]? = w.heap[a]?) (e2 : w'.heap[p]? = w.heap[p]?) : RG w' a p sz l := by obtain ⟨f, ps, h⟩ := h; exact ⟨f, ps, h.keep e1 e2⟩
theorem RG.la (h : RG w a p sz l) : a < w.heap.size := by obtain ⟨f, ps, h⟩ := h; exact lt_of_blk h.ha
theorem RG.lp (h : RG w a p sz l) : p < w.heap.size := by obtain ⟨f, ps, h⟩ := h; exact lt_of_blk h.hp
theorem RG.later (h : RG w a p sz l) (hb : Below w.heap.size w w') : RG w' a p sz l := h.keep (hb.block _ h.la) (hb.block _ h.lp)
theorem RG.le (h : RG w a p sz l) : l.length ≤ sz := by obtain ⟨f, ps, h⟩ := h; exact h.le
end

/-- Nothing but the blocks a and p has turned. -/
structure Only (a p : Nat) (w w' : World) : Prop where
  os : w'.os = w.os
  tape : w'.tape = w.tape
  output : w'.output = w.output
  size : w'.heap.size = w.heap.size
  block : ∀ k, k ≠ a → k ≠ p → w'.heap[k]? = w.heap[k]?
theorem Only.refl (a p : Nat) (w : World) : Only a p w w := ⟨rfl, rfl, rfl, rfl, fun _ _ _ => rfl⟩
theorem Only.trans {a p : Nat} {u v w : World} (h : Only a p u v) (k : Only a p v w) : Only a p u w :=
  ⟨k.os.trans h.os, k.tape.trans h.tape, k.output.trans h.output, k.size.trans h.size, fun i h1 h2 => (k.block i h1 h2).trans (h.block i h1 h2)⟩
theorem Only.set {a p b i : Nat} {u w : World} (h : Only a p u w) (hb : b = a ∨ b = p) (v : Value) : Only a p u (w.setCell ⟨b, i, none⟩ v) :=
  h.trans ⟨rfl, rfl, rfl, by simp [World.setCell], fun k h1 h2 => Below.heap_setCell _ _ _ _ (by rcases hb with rfl | rfl <;> assumption)⟩
theorem Only.drewN {a p : Nat} {u w : World} (h : Only a p u w) (n : Nat) : Only a p u (w.drewN n) := h.trans ⟨rfl, rfl, rfl, rfl, fun _ _ _ => rfl⟩
theorem Only.tn {a p : Nat} {F : Nat → Prop} {w w' : World} (h : Only a p w w') (ha : F a) (hp : F p) : Tn F w w' :=
  ⟨h.os, h.tape, h.output, by rw [h.size]; exact Nat.le_refl _, fun k _ hn => h.block k (fun e => hn (e ▸ ha)) (fun e => hn (e ▸ hp))⟩

/-! Who waits: links. -/
/-- One who waits: task, case, value. -/
structure Wt where
  t : Int
  c : Int
  v : Int
def wV (x : Wt) : List Value := [.int .i64 x.t, .int .i64 x.c, .int .i64 x.v]
theorem wV_len (x : Wt) : (wV x).length = 3 := rfl
def wG (x : Wt) : Value := .agg #[.int .i64 x.t, .int .i64 x.c, .int .i64 x.v]

/-- A row of links: the block of each, and who waits there. -/
abbrev Ns := List (Nat × Wt)
def adr (o : Option Nat) : Option Addr := o.map fun b => ⟨b, 0, none⟩
theorem adr_none : adr none = none := rfl
theorem adr_some (b : Nat) : adr (some b) = some ⟨b, 0, none⟩ := rfl
def hd : Ns → Option Nat → Option Nat
  | [], n => n
  | (b, _) :: _, _ => some b
theorem hd_nil (n : Option Nat) : hd [] n = n := rfl
theorem hd_cons (b : Nat) (x : Wt) (r : Ns) (n : Option Nat) : hd ((b, x) :: r) n = some b := rfl
def lst : Ns → Option Nat → Option Nat
  | [], p => p
  | (b, _) :: r, _ => lst r (some b)
theorem hd_app (l r : Ns) (n : Option Nat) : hd (l ++ r) n = hd l (hd r n) := by cases l <;> rfl
theorem lst_app : ∀ (l r : Ns) (p : Option Nat), lst (l ++ r) p = lst r (lst l p)
  | [], r, p => rfl
  | (b, x) :: l, r, p => by simp only [List.cons_append, lst]; exact lst_app l r (some b)

def Nd (w : World) (b : Nat) (x : Wt) (p n : Option Nat) : Prop := w.heap[b]? = some (.cells #[.int .i64 x.t, .int .i64 x.c, .int .i64 x.v, .pointer (adr p), .pointer (adr n)] 157 (0, 0))
/-- What else the channel's block holds. -/
structure Rs where
  k : Value
  c : Value
  v : Value
  x : Value
  y : Value
  z : Value
@[reducible] def off : Bool → Nat
  | true => 3
  | false => 6
def hB (s : Bool) (R : Rs) (f l n : Value) : Array Value := match s with
  | true => #[R.k, R.c, R.v, f, l, n, R.x, R.y, R.z]
  | false => #[R.k, R.c, R.v, R.x, R.y, R.z, f, l, n]
def Hd (w : World) (s : Bool) (q : Nat) (R : Rs) (f l : Option Nat) (n : Nat) : Prop := w.heap[q]? = some (.cells (hB s R (.pointer (adr f)) (.pointer (adr l)) (.int .i64 n)) 115 (0, 0))
/-- Links in a row: p ahead of the first one, n behind the last one. -/
def Sg (w : World) : Option Nat → Ns → Option Nat → Prop
  | _, [], _ => True
  | p, (b, x) :: r, n => Nd w b x p (hd r n) ∧ Sg w (some b) r n

theorem Sg.app {w : World} : ∀ (l r : Ns) (p n : Option Nat), Sg w p (l ++ r) n ↔ Sg w p l (hd r n) ∧ Sg w (lst l p) r n
  | [], r, p, n => by simp [Sg, lst]
  | (b, x) :: l, r, p, n => by
    simp only [List.cons_append, Sg, lst, hd_app, Sg.app l r (some b) n]
    exact and_assoc.symm
theorem Sg.keep {w w' : World} : ∀ (l : Ns) (p n : Option Nat), (∀ m ∈ l, w'.heap[m.1]? = w.heap[m.1]?) → Sg w p l n → Sg w' p l n
  | [], _, _, _, _ => trivial
  | (b, x) :: l, p, n, h, hs => ⟨by unfold Nd; rw [h (b, x) (List.mem_cons_self ..)]; exact hs.1, Sg.keep l _ _ (fun m hm => h m (List.mem_cons_of_mem _ hm)) hs.2⟩
theorem Sg.tag {w : World} : ∀ (l : Ns) (p n : Option Nat), Sg w p l n → ∀ m ∈ l, ∃ cs, w.heap[m.1]? = some (.cells cs 157 (0, 0))
  | [], _, _, _, m, hm => by simp at hm
  | (b, x) :: l, p, n, hs, m, hm => by
    rcases List.mem_cons.1 hm with rfl | hm
    · exact ⟨_, hs.1⟩
    · exact Sg.tag l _ _ hs.2 m hm
theorem Nd.c0 {w : World} {b : Nat} {x : Wt} {p n : Option Nat} (h : Nd w b x p n) : w.cell? ⟨b, 0, none⟩ = some (.int .i64 x.t) := by rw [cell_of_row w b 0 _ _ _ h]; rfl
theorem Nd.c1 {w : World} {b : Nat} {x : Wt} {p n : Option Nat} (h : Nd w b x p n) : w.cell? ⟨b, 1, none⟩ = some (.int .i64 x.c) := by rw [cell_of_row w b 1 _ _ _ h]; rfl
theorem Nd.c2 {w : World} {b : Nat} {x : Wt} {p n : Option Nat} (h : Nd w b x p n) : w.cell? ⟨b, 2, none⟩ = some (.int .i64 x.v) := by rw [cell_of_row w b 2 _ _ _ h]; rfl
theorem Nd.c3 {w : World} {b : Nat} {x : Wt} {p n : Option Nat} (h : Nd w b x p n) : w.cell? ⟨b, 3, none⟩ = some (.pointer (adr p)) := by rw [cell_of_row w b 3 _ _ _ h]; rfl
theorem Nd.c4 {w : World} {b : Nat} {x : Wt} {p n : Option Nat} (h : Nd w b x p n) : w.cell? ⟨b, 4, none⟩ = some (.pointer (adr n)) := by rw [cell_of_row w b 4 _ _ _ h]; rfl
theorem Nd.fz {w : World} {b : Nat} {x : Wt} {p n : Option Nat} (h : Nd w b x p n) (i : Nat) : w.frozen? ⟨b, i, none⟩ = false := frozen_of_row w b i _ _ h
theorem Nd.next {w : World} {b : Nat} {x : Wt} {p n : Option Nat} (h : Nd w b x p n) (m : Option Nat) : Nd (w.setCell ⟨b, 4, none⟩ (.pointer (adr m))) b x p m := by unfold Nd; rw [heap_setCell_same w b 4 _ _ _ h]; rfl
theorem Nd.prev {w : World} {b : Nat} {x : Wt} {p n : Option Nat} (h : Nd w b x p n) (m : Option Nat) : Nd (w.setCell ⟨b, 3, none⟩ (.pointer (adr m))) b x m n := by unfold Nd; rw [heap_setCell_same w b 3 _ _ _ h]; rfl
section
variable {w w' : World} {s : Bool} {q n : Nat} {R : Rs} {f l : Option Nat}
theorem Hd.c0 (h : Hd w s q R f l n) : w.cell? ⟨q, off s, none⟩ = some (.pointer (adr f)) := by rw [cell_of_row w q _ _ _ _ h]; cases s <;> rfl
theorem Hd.c1 (h : Hd w s q R f l n) : w.cell? ⟨q, off s + 1, none⟩ = some (.pointer (adr l)) := by rw [cell_of_row w q _ _ _ _ h]; cases s <;> rfl
theorem Hd.c2 (h : Hd w s q R f l n) : w.cell? ⟨q, off s + 2, none⟩ = some (.int .i64 n) := by rw [cell_of_row w q _ _ _ _ h]; cases s <;> rfl
theorem Hd.fz (h : Hd w s q R f l n) (i : Nat) : w.frozen? ⟨q, i, none⟩ = false := frozen_of_row w q i _ _ h
theorem Hd.s0 (h : Hd w s q R f l n) (m : Option Nat) : Hd (w.setCell ⟨q, off s, none⟩ (.pointer (adr m))) s q R m l n := by unfold Hd; rw [heap_setCell_same w q _ _ _ _ h]; cases s <;> rfl
theorem Hd.s1 (h : Hd w s q R f l n) (m : Option Nat) : Hd (w.setCell ⟨q, off s + 1, none⟩ (.pointer (adr m))) s q R f m n := by unfold Hd; rw [heap_setCell_same w q _ _ _ _ h]; cases s <;> rfl
theorem Hd.s2 (h : Hd w s q R f l n) (m : Nat) : Hd (w.setCell ⟨q, off s + 2, none⟩ (.int .i64 m)) s q R f l m := by unfold Hd; rw [heap_setCell_same w q _ _ _ _ h]; cases s <;> rfl
theorem Hd.keep (h : Hd w s q R f l n) (e : w'.heap[q]? = w.heap[q]?) : Hd w' s q R f l n := by unfold Hd; rw [e]; exact h
end
theorem Nd.keep {w w' : World} {b : Nat} {x : Wt} {p n : Option Nat} (h : Nd w b x p n) (e : w'.heap[b]? = w.heap[b]?) : Nd w' b x p n := by unfold Nd; rw [e]; exact h

/-- The link of the last one turned. -/
theorem Sg.next {w : World} {l : Ns} {a : Nat} {y : Wt} {p n : Option Nat} (h : Sg w p (l ++ [(a, y)]) n) (ha : ∀ m ∈ l, m.1 ≠ a) (m : Option Nat) : Sg (w.setCell ⟨a, 4, none⟩ (.pointer (adr m))) p (l ++ [(a, y)]) m := by
  rw [Sg.app] at h ⊢
  refine ⟨Sg.keep _ _ _ (fun k hk => Below.heap_setCell _ _ _ _ (ha k hk)) h.1, ?_, trivial⟩
  exact Nd.next h.2.1 m
theorem Sg.prev {w : World} {r : Ns} {c : Nat} {z : Wt} {p n : Option Nat} (h : Sg w p ((c, z) :: r) n) (hc : ∀ m ∈ r, m.1 ≠ c) (m : Option Nat) : Sg (w.setCell ⟨c, 3, none⟩ (.pointer (adr m))) m ((c, z) :: r) n :=
  ⟨Nd.prev h.1 m, Sg.keep _ _ _ (fun k hk => Below.heap_setCell _ _ _ _ (hc k hk)) h.2⟩
theorem Sg.other {w : World} {l : Ns} {p n : Option Nat} {b i : Nat} {v : Value} (h : Sg w p l n) (hb : ∀ m ∈ l, m.1 ≠ b) : Sg (w.setCell ⟨b, i, none⟩ v) p l n :=
  Sg.keep _ _ _ (fun k hk => Below.heap_setCell _ _ _ _ (hb k hk)) h

/-- In block q, from cell 3 or 6 on, is a Queue, its links ns. -/
structure LQ (w : World) (s : Bool) (q : Nat) (R : Rs) (ns : Ns) : Prop where
  hq : Hd w s q R (hd ns none) (lst ns none) ns.length
  sg : Sg w none ns none
  nd : (ns.map (·.1)).Nodup
/-- Its blocks. -/
def qF (q : Nat) (ns : Ns) (k : Nat) : Prop := k = q ∨ ∃ m ∈ ns, m.1 = k
theorem qF_sub {q : Nat} {ns ns' : Ns} (h : ∀ m ∈ ns', m ∈ ns) : ∀ k, qF q ns' k → qF q ns k := fun k hk => by
  rcases hk with rfl | ⟨m, hm, rfl⟩
  · exact .inl rfl
  · exact .inr ⟨m, h m hm, rfl⟩
section
variable {w w' : World} {s : Bool} {q : Nat} {R : Rs} {ns : Ns}
theorem LQ.isn (h : LQ w s q R ns) : ∀ m ∈ ns, ∃ cs, w.heap[m.1]? = some (.cells cs 157 (0, 0)) := Sg.tag _ _ _ h.sg
theorem LQ.lt (h : LQ w s q R ns) : q < w.heap.size ∧ ∀ m ∈ ns, m.1 < w.heap.size := ⟨lt_of_blk h.hq, fun m hm => by obtain ⟨_, hc⟩ := h.isn m hm; exact lt_of_blk hc⟩
theorem LQ.ne (h : LQ w s q R ns) : ∀ m ∈ ns, m.1 ≠ q := fun m hm e => by
  obtain ⟨cs, hc⟩ := h.isn m hm
  have := h.hq
  unfold Hd at this
  rw [e, this] at hc
  simp at hc
theorem LQ.keep (h : LQ w s q R ns) (k : ∀ b, qF q ns b → w'.heap[b]? = w.heap[b]?) : LQ w' s q R ns :=
  ⟨h.hq.keep (k q (.inl rfl)), Sg.keep _ _ _ (fun m hm => k _ (.inr ⟨m, hm, rfl⟩)) h.sg, h.nd⟩
theorem LQ.fl (h : LQ w s q R ns) {k : Nat} (hk : qF q ns k) : k < w.heap.size := by
  rcases hk with rfl | ⟨m, hm, rfl⟩
  · exact h.lt.1
  · exact h.lt.2 m hm
theorem LQ.later (h : LQ w s q R ns) (hb : Below w.heap.size w w') : LQ w' s q R ns := h.keep fun b k => hb.block b (h.fl k)
end
end Go.Proofs.YtmadcnpkaijllaaGreat.Ch
namespace Go.Proofs.YtmadcnpkaijllaaGreat.Ch
open Go.RowKit
set_option linter.unusedVariables false
set_option maxRecDepth 100000


theorem inf3 : (Tryz.prog.info? 3).map (fun i => (i.zero, i.size, i.bytes)) = some (some (.int .i64 0), 1, 8) := by kernel_rfl
theorem mk_n (w : World) (n : Nat) (hn : n ≤ 64) : (Instr.makeSlice 131 (.int .i64 (n : Int)) (.int .i64 (n : Int))).run Tryz.prog w = .ok (.slice (some ⟨w.heap.size, 0, none⟩) n n) (w.alloc (.cells (iA (List.replicate n 0)) 3)) := by
  obtain ⟨i0, hi, hz0, hz1, hz2⟩ := info_parts inf3
  have h := run_make (P := Tryz.prog) w 131 3 i0 _ Tryz.underlying131 hi hz0 .i64 .i64 (n : Int) (n : Int) (by omega) (Int.le_refl _) (by rw [hz2]; omega) (by omega)
  rw [h, hz1]
  have e : madeCells (Value.int .i64 0).cells ((n : Int).toNat * 1) = iA (List.replicate n 0) := by
    rw [Int.toNat_natCast, Nat.mul_one]
    apply Array.ext'
    show (madeCells #[_] n).toList = _
    rw [toList_madeCells_one]; simp [iA]
  rw [e]; simp

theorem rnew_no (n : Int) (w : World) (h : n < 0 ∨ 64 < n) : Calls Tryz.prog 97 #[.int .i64 n] w fun e w' => e = .returned (.tuple #[.pointer none, .int .i64 1]) ∧ w = w' := by
  by_cases c1 : n < 0
  · go_enter Tryz.func97, Tryz.ntmps97
    go_wp2
    go_ret2
    exact ⟨rfl, rfl⟩
  · have c2 : 64 < n := by omega
    clear h
    go_enter Tryz.func97, Tryz.ntmps97
    go_wp2
    go_ret2
    exact ⟨rfl, rfl⟩

def rNewR (n : Nat) (w : World) (e : Ending) (w' : World) : Prop :=
  e = .returned (.tuple #[.pointer (some ⟨w.heap.size + 1, 0, none⟩), .int .i64 0]) ∧ RG w' (w.heap.size + 1) w.heap.size n [] ∧ Below w.heap.size w w' ∧ w'.heap.size = w.heap.size + 2
theorem rnew_at (w : World) (n : Nat) : rNewR n w (.returned (.tuple #[.pointer (some ⟨w.heap.size + 1, 0, none⟩), .int .i64 0])) ((w.alloc (.cells (iA (List.replicate n 0)) 3)).alloc (.cells #[.slice (some ⟨w.heap.size, 0, none⟩) n n, .int .i64 0, .int .i64 0] 153)) := by
  refine ⟨rfl, ⟨0, List.replicate n 0, ⟨by omega, by simp, QQ.new n, ?_, ?_⟩⟩, ((Below.refl _ _).alloc (Nat.le_refl _) _).alloc (by simp) _, by simp⟩
  · rw [Below.heap_alloc _ _ _ (by simp)]
    exact heap_alloc_new _ _
  · have := heap_alloc_new (w.alloc (.cells (iA (List.replicate n 0)) 3)) (.cells #[.slice (some ⟨w.heap.size, 0, none⟩) n n, .int .i64 0, .int .i64 0] 153)
    rw [World.size_alloc] at this
    exact this
set_option maxRecDepth 100000 in
theorem rnew_yes (n : Nat) (w : World) (h : n ≤ 64) : Calls Tryz.prog 97 #[.int .i64 n] w (rNewR n w) := by
  have hmk := mk_n w n h
  have h1 : (n : Int) ≤ 64 := by omega
  have h2 : 0 ≤ (n : Int) := by omega
  go_enter Tryz.func97, Tryz.ntmps97
  go_wp2
  go_ret2
  exact rnew_at w n

theorem tmod_nat (f i sz : Nat) : ((f : Int) + (i : Int)).tmod (sz : Int) = (((f + i) % sz : Nat) : Int) := by
  rw [Int.tmod_eq_emod_of_nonneg (by omega), Int.natCast_emod, Int.natCast_add]

theorem rplace_any (a sz f i : Nat) (P : Option Addr) (w : World) (h0 : w.cell? ⟨a, 0, none⟩ = some (.slice P sz sz)) (h1 : w.cell? ⟨a, 1, none⟩ = some (.int .i64 f)) (hs : 0 < sz) (hz : sz ≤ 64) (hf : f < sz) (hi : i ≤ 64) :
    Calls Tryz.prog 88 #[.pointer (some ⟨a, 0, none⟩), .int .i64 i] w fun e w' => e = .returned (.int .i64 (((f + i) % sz : Nat) : Int)) ∧ ∃ n, w' = w.drewN n := by
  have b1 : (0 : Int) < (sz : Int) := by omega
  have b2 : (sz : Int) ≤ 64 := by omega
  have b3 : 0 ≤ (f : Int) + (i : Int) := by omega
  have b4 : (f : Int) + (i : Int) ≤ 128 := by omega
  have e1 : IntKind.i64.wrap ((f : Int) + (i : Int)) = (f : Int) + (i : Int) := by rw [IntKind.wrap_i64]; omega
  have e2 := tmod_nat f i sz
  go_enter Tryz.func88, Tryz.ntmps88
  go_wp2_with fail
  go_quiet (fail)
  go_wp2
  go_ret
  exact ⟨rfl, _, rfl⟩

theorem rlen_nil (w : World) : Calls Tryz.prog 72 #[.pointer none] w fun e w' => e = .returned (.int .i64 0) ∧ w = w' := by
  go_enter Tryz.func72, Tryz.ntmps72
  go_wp2
  go_ret
  exact ⟨rfl, rfl⟩
theorem rsize_nil (w : World) : Calls Tryz.prog 73 #[.pointer none] w fun e w' => e = .returned (.int .i64 0) ∧ w = w' := by
  go_enter Tryz.func73, Tryz.ntmps73
  go_wp2
  go_ret
  exact ⟨rfl, rfl⟩
theorem rpush_nil (v : Int) (w : World) : Calls Tryz.prog 66 #[.pointer none, .int .i64 v] w fun e w' => e = .returned (.bool false) ∧ ∃ n, w' = w.drewN n := by
  go_enter Tryz.func66, Tryz.ntmps66
  go_wp2_with fail
  go_quiet (fail)
  go_wp2
  go_ret
  exact ⟨rfl, _, rfl⟩
theorem rpop_nil (w : World) : Calls Tryz.prog 64 #[.pointer none] w fun e w' => e = .returned (.tuple #[.int .i64 0, .bool false]) ∧ w = w' := by
  go_enter Tryz.func64, Tryz.ntmps64
  go_wp2
  go_ret2
  exact ⟨rfl, rfl⟩
theorem rlen_any {a p sz : Nat} {l : List Int} (w : World) (h : RG w a p sz l) : Calls Tryz.prog 72 #[.pointer (some ⟨a, 0, none⟩)] w fun e w' => e = .returned (.int .i64 l.length) ∧ w = w' := by
  obtain ⟨f, ps, h⟩ := h
  have h2 := h.c2
  clear h
  go_enter Tryz.func72, Tryz.ntmps72
  go_wp2
  go_ret
  exact ⟨rfl, rfl⟩
theorem rsize_any {a p sz : Nat} {l : List Int} (w : World) (h : RG w a p sz l) : Calls Tryz.prog 73 #[.pointer (some ⟨a, 0, none⟩)] w fun e w' => e = .returned (.int .i64 sz) ∧ w = w' := by
  obtain ⟨f, ps, h⟩ := h
  have h0 := h.c0
  clear h
  go_enter Tryz.func73, Tryz.ntmps73
  go_wp2
  go_ret
  exact ⟨rfl, rfl⟩

/-! clear -/
theorem setCells_zero (p : Nat) : ∀ (k o : Nat) (w : World) (ps : List Int), w.heap[p]? = some (.cells (iA ps) 3 (0, 0)) → ∃ qs : List Int, qs.length = ps.length ∧ (w.setCells p o (List.replicate k (.int .i64 0))).heap[p]? = some (.cells (iA qs) 3 (0, 0)) ∧ Only p p w (w.setCells p o (List.replicate k (.int .i64 0)))
  | 0, o, w, ps, h => ⟨ps, rfl, h, Only.refl _ _ _⟩
  | k + 1, o, w, ps, h => by
    have h1 := heap_setCell_same w p o _ _ (.int .i64 0) h
    rw [iA_set] at h1
    obtain ⟨qs, e1, e2, e3⟩ := setCells_zero p k (o + 1) _ _ h1
    exact ⟨qs, by simpa using e1, e2, ((Only.refl p p w).set (.inl rfl) _).trans e3⟩
theorem zero3 (w : World) : (zeroValue 3).run Tryz.prog w = .ok (.int .i64 0) w := by kernel_rfl
theorem rclear_run {w : World} {p : Nat} {ps : List Int} (h : w.heap[p]? = some (.cells (iA ps) 3 (0, 0))) :
    ∃ w1 qs, (∀ ty, (Builtin.clear_ #[131] ty #[.slice (some ⟨p, 0, none⟩) ps.length ps.length]).run Tryz.prog w = .ok (.tuple #[]) w1) ∧ qs.length = ps.length ∧ w1.heap[p]? = some (.cells (iA qs) 3 (0, 0)) ∧ Only p p w w1 := by
  rcases Nat.eq_zero_or_pos ps.length with h0 | h0
  · refine ⟨w, ps, fun ty => ?_, rfl, h, Only.refl _ _ _⟩
    rw [h0]
    simp [Builtin.clear_, run_underlying Tryz.underlying131]
  · obtain ⟨qs, e1, e2, e3⟩ := setCells_zero p ps.length 0 w ps h
    refine ⟨_, qs, fun ty => Lib.run_clear_slice w 131 3 ty (.int .i64 0) Tryz.underlying131 zero3 rfl rfl p 0 ps.length ps.length h0 (fun j hj => ?_) (fun j hj => frozen_of_row w p _ _ _ h), e1, e2, e3⟩
    rw [cell_of_row w p _ _ _ _ h]
    simp [iA]; omega
theorem rclear_nil (w : World) : Calls Tryz.prog 96 #[.pointer none] w fun e w' => e = .returned (.int .i64 0) ∧ w = w' := by
  go_enter Tryz.func96, Tryz.ntmps96
  go_wp2
  go_ret
  exact ⟨rfl, rfl⟩
def rClearR (a p sz n : Nat) (w : World) (e : Ending) (w' : World) : Prop := e = .returned (.int .i64 n) ∧ RG w' a p sz [] ∧ Only a p w w'
theorem rclear_any {a p sz : Nat} {l : List Int} (w : World) (h : RG w a p sz l) : Calls Tryz.prog 96 #[.pointer (some ⟨a, 0, none⟩)] w (rClearR a p sz l.length w) := by
  obtain ⟨f, ps, h⟩ := h
  obtain ⟨w1, qs, hcl, e1, e2, e3⟩ := rclear_run h.hp
  have hne := h.ne
  have hl := h.len
  have ha : w1.heap[a]? = w.heap[a]? := e3.block a hne hne
  have HE : Hid (rClearR a p sz l.length w (.returned (.int .i64 l.length)) (w1.setCell ⟨a, 2, none⟩ (.int .i64 0))) := by
    refine ⟨rfl, ⟨f, qs, ⟨hne, by omega, h.q.clear e1, ?_, ?_⟩⟩, Only.set ⟨e3.os, e3.tape, e3.output, e3.size, fun k _ hk => e3.block k hk hk⟩ (.inl rfl) _⟩
    · rw [Below.heap_setCell _ _ _ _ (by exact fun e => hne e.symm)]; exact e2
    · rw [heap_setCell_same w1 a 2 _ _ _ (ha.trans h.ha)]; rfl
  rw [hl] at hcl
  have h0 := h.c0
  have h2 := h.c2
  have g2 : w1.cell? ⟨a, 2, none⟩ = some (.int .i64 l.length) := (cell_blk ha 2).trans h2
  have gf : w1.frozen? ⟨a, 2, none⟩ = false := frozen_of_row w1 a 2 _ _ (ha.trans h.ha)
  clear e1 e2 e3 ha hl h
  go_enter Tryz.func96, Tryz.ntmps96
  go_wp2
  go_ret
  exact HE.out


def rPushR (a p sz : Nat) (l : List Int) (b : Bool) (w : World) (e : Ending) (w' : World) : Prop := e = .returned (.bool b) ∧ RG w' a p sz l ∧ Only a p w w'
theorem rpush_full {a p sz : Nat} {l : List Int} (v : Int) (w : World) (h : RG w a p sz l) (hl : l.length = sz) : Calls Tryz.prog 66 #[.pointer (some ⟨a, 0, none⟩), .int .i64 v] w (rPushR a p sz l false w) := by
  have HR := Lib.hid h
  obtain ⟨f, ps, h⟩ := h
  have h0 := h.c0
  have h2 := h.c2
  rw [hl] at h2
  clear h hl
  go_enter Tryz.func66, Tryz.ntmps66
  go_wp2_with fail
  go_quiet (fail)
  go_wp2
  go_ret
  exact ⟨rfl, HR.out.keep rfl rfl, (Only.refl _ _ _).drewN _⟩

theorem rPushR.draw {a p sz : Nat} {l : List Int} {b : Bool} {w w' w'' : World} {e : Ending} (h : rPushR a p sz l b w e w') (hh : w''.heap = w'.heap) (h1 : w''.os = w'.os) (h2 : w''.tape = w'.tape) (h3 : w''.output = w'.output) : rPushR a p sz l b w e w'' :=
  ⟨h.1, h.2.1.keep (by rw [hh]) (by rw [hh]), ⟨h1.trans h.2.2.os, h2.trans h.2.2.tape, h3.trans h.2.2.output, by rw [hh]; exact h.2.2.size, fun k q r => by rw [hh]; exact h.2.2.block k q r⟩⟩
theorem RI.pushed {a p sz f : Nat} {ps l : List Int} {w : World} (h : RI w a p sz f ps l) (hl : l.length < sz) (v : Int) :
    rPushR a p sz (l ++ [v]) true w (.returned (.bool true)) ((w.setCell ⟨p, (f + l.length) % sz, none⟩ (.int .i64 v)).setCell ⟨a, 2, none⟩ (.int .i64 ((l.length : Int) + 1))) := by
  have hne := h.ne
  refine ⟨rfl, ⟨f, ps.set ((f + l.length) % sz) v, ⟨hne, by simpa using h.len, ?_, ?_, ?_⟩⟩, ((Only.refl _ _ _).set (.inr rfl) _).set (.inl rfl) _⟩
  · have := h.q.push (by rw [h.len]; exact hl) v
    rw [h.len] at this
    exact this
  · rw [Below.heap_setCell _ _ _ _ (by exact fun e => hne e.symm), heap_setCell_same w p _ _ _ _ h.hp, iA_set]
  · rw [heap_setCell_same _ a 2 _ _ _ (by rw [Below.heap_setCell _ _ _ _ (by exact hne)]; exact h.ha)]
    simp

theorem rpush_room {a p sz : Nat} {l : List Int} (v : Int) (w : World) (h : RG w a p sz l) (hz : sz ≤ 64) (hl : l.length < sz) : Calls Tryz.prog 66 #[.pointer (some ⟨a, 0, none⟩), .int .i64 v] w (rPushR a p sz (l ++ [v]) true w) := by
  obtain ⟨f, ps, h⟩ := h
  have h0 := h.c0
  have h1 := h.c1
  have h2 := h.c2
  have hne := h.ne
  have hf := h.lt (by omega)
  have HE := Lib.hid (h.pushed hl v)
  obtain ⟨x, hx⟩ : ∃ x, ps[(f + l.length) % sz]? = some x := ⟨_, List.getElem?_eq_getElem (by rw [h.len]; exact Nat.mod_lt _ (by omega))⟩
  have hcp := h.cp hx
  have hfp := h.fp ((f + l.length) % sz)
  have hfa := h.fa 2
  have hi : (f + l.length) % sz < sz := Nat.mod_lt _ (by omega)
  have k1 : ((l.length : Int) == (sz : Int)) = false := by simp; omega
  have k2 : (((f + l.length) % sz : Nat) : Int) < (sz : Int) := by omega
  have k3 : (0 : Int) ≤ (((f + l.length) % sz : Nat) : Int) := by omega
  clear h hx
  generalize hg : (f + l.length) % sz = j at *
  have HG := Lib.hid hg
  clear hg
  go_enter Tryz.func66, Tryz.ntmps66
  go_wp2_with fail
  go_quiet (fail)
  go_wp2_with fail
  go_region_with (go_at_call 88; go_loud (refine (rplace_any a sz f l.length (some ⟨p, 0, none⟩) _ (by first | exact h0 | simpa using h0) (by first | exact h1 | simpa using h1) (by omega) hz hf (by omega)).mono ?_; rintro e w2 ⟨rfl, n2, rfl⟩; rw [HG.out]))
  all_goals
    clear hcp hfp h0 h1 k1 k2 k3
    go_wp2
    go_ret
    exact HE.out.draw rfl rfl rfl rfl


def rPopR (a p sz : Nat) (l : List Int) (x : Int) (b : Bool) (w : World) (e : Ending) (w' : World) : Prop := e = .returned (.tuple #[.int .i64 x, .bool b]) ∧ RG w' a p sz l ∧ Only a p w w'
theorem rPopR.draw {a p sz : Nat} {l : List Int} {x : Int} {b : Bool} {w w' w'' : World} {e : Ending} (h : rPopR a p sz l x b w e w') (hh : w''.heap = w'.heap) (h1 : w''.os = w'.os) (h2 : w''.tape = w'.tape) (h3 : w''.output = w'.output) : rPopR a p sz l x b w e w'' :=
  ⟨h.1, h.2.1.keep (by rw [hh]) (by rw [hh]), ⟨h1.trans h.2.2.os, h2.trans h.2.2.tape, h3.trans h.2.2.output, by rw [hh]; exact h.2.2.size, fun k q r => by rw [hh]; exact h.2.2.block k q r⟩⟩
theorem rpop_none {a p sz : Nat} (w : World) (h : RG w a p sz []) : Calls Tryz.prog 64 #[.pointer (some ⟨a, 0, none⟩)] w (rPopR a p sz [] 0 false w) := by
  have HR := Lib.hid h
  obtain ⟨f, ps, h⟩ := h
  have h2 : w.cell? ⟨a, 2, none⟩ = some (.int .i64 0) := h.c2
  clear h
  go_enter Tryz.func64, Tryz.ntmps64
  go_wp2
  go_ret2
  exact ⟨rfl, HR.out, Only.refl _ _ _⟩

theorem RI.popped {a p sz f : Nat} {ps l : List Int} {x : Int} {w : World} (h : RI w a p sz f ps (x :: l)) :
    rPopR a p sz l x true w (.returned (.tuple #[.int .i64 x, .bool true])) (((w.setCell ⟨p, f, none⟩ (.int .i64 0)).setCell ⟨a, 1, none⟩ (.int .i64 (((f + 1) % sz : Nat) : Int))).setCell ⟨a, 2, none⟩ (.int .i64 (l.length : Int))) := by
  have hne := h.ne
  refine ⟨rfl, ⟨(f + 1) % sz, ps.set f 0, ⟨hne, by simpa using h.len, ?_, ?_, ?_⟩⟩, (((Only.refl _ _ _).set (.inr rfl) _).set (.inl rfl) _).set (.inl rfl) _⟩
  · have := h.q.pop
    rw [h.len] at this
    exact this
  · rw [Below.heap_setCell _ _ _ _ (by exact fun e => hne e.symm), Below.heap_setCell _ _ _ _ (by exact fun e => hne e.symm), heap_setCell_same w p _ _ _ _ h.hp, iA_set]
  · rw [heap_setCell_same _ a 2 _ _ _ (heap_setCell_same _ a 1 _ _ _ (by rw [Below.heap_setCell _ _ _ _ (by exact hne)]; exact h.ha))]
    simp

theorem rpop_some {a p sz : Nat} {x : Int} {l : List Int} (w : World) (h : RG w a p sz (x :: l)) (hz : sz ≤ 64) : Calls Tryz.prog 64 #[.pointer (some ⟨a, 0, none⟩)] w (rPopR a p sz l x true w) := by
  obtain ⟨f, ps, h⟩ := h
  have hs : 0 < sz := by have := h.le; simp at this; omega
  have hll : l.length < 64 := by have := h.le; simp at this; omega
  have h0 := h.c0
  have h1 := h.c1
  have h2 : w.cell? ⟨a, 2, none⟩ = some (.int .i64 ((l.length : Int) + 1)) := by have := h.c2; simpa using this
  have hne := h.ne
  have hf := h.lt hs
  have HE := Lib.hid h.popped
  have hcp := h.cp h.q.head
  have hfp := h.fp f
  have hfa1 := h.fa 1
  have hfa2 := h.fa 2
  have k2 : (f : Int) < (sz : Int) := by omega
  have k3 : (0 : Int) ≤ (f : Int) := by omega
  have k4 : (0 : Int) ≤ (l.length : Int) + 1 := by omega
  have k5 : (l.length : Int) + 1 ≤ 64 := by omega
  have k6 : (((l.length : Int) + 1 == 0) = false) := by simp; omega
  clear h
  go_enter Tryz.func64, Tryz.ntmps64
  go_wp2_with fail
  go_quiet (fail)
  go_wp2_with fail
  go_region
  go_wp2_with fail
  refine (rplace_any a sz f 1 (some ⟨p, 0, none⟩) _ ?g0 ?g1 hs hz hf (by omega)).mono ?_
  case g0 => go_simp
  case g1 => go_simp
  rintro e w2 ⟨rfl, n2, rfl⟩
  go_wp2_with fail
  go_ret2
  exact HE.out.draw rfl rfl rfl rfl
end Go.Proofs.YtmadcnpkaijllaaGreat.Ch
namespace Go.Proofs.YtmadcnpkaijllaaGreat.Ch
open Go.RowKit
set_option linter.unusedVariables false
set_option maxRecDepth 100000

theorem head_any {w : World} {s : Bool} {q : Nat} {R : Rs} {ns : Ns} (h : LQ w s q R ns) : Calls Tryz.prog 89 #[.pointer (some ⟨q, off s, none⟩)] w fun e w' => e = .returned (.pointer (adr (hd ns none))) ∧ w = w' := by
  have h0 := h.hq.c0
  clear h
  cases s
  all_goals
    simp only [off] at h0 ⊢
    go_enter Tryz.func89, Tryz.ntmps89
    go_wp2
    go_ret
    exact ⟨rfl, rfl⟩
theorem len_any {w : World} {s : Bool} {q : Nat} {R : Rs} {ns : Ns} (h : LQ w s q R ns) : Calls Tryz.prog 52 #[.pointer (some ⟨q, off s, none⟩)] w fun e w' => e = .returned (.int .i64 ns.length) ∧ w = w' := by
  have h0 := h.hq.c2
  clear h
  cases s
  all_goals
    simp only [off, Nat.reduceAdd] at h0 ⊢
    go_enter Tryz.func52, Tryz.ntmps52
    go_wp2
    go_ret
    exact ⟨rfl, rfl⟩

def CutR (s : Bool) (q : Nat) (R : Rs) (b : Nat) (ns ns' : Ns) (w : World) (e : Ending) (w' : World) : Prop := e = .returned (.tuple #[]) ∧ LQ w' s q R ns' ∧ w'.heap[b]? = w.heap[b]? ∧ Tn (qF q ns) w w'
theorem CutR.draw {s : Bool} {q : Nat} {R : Rs} {b : Nat} {ns ns' : Ns} {w w' w'' : World} {e : Ending} (h : CutR s q R b ns ns' w e w') (hh : w''.heap = w'.heap) (h1 : w''.os = w'.os) (h2 : w''.tape = w'.tape) (h3 : w''.output = w'.output) : CutR s q R b ns ns' w e w'' :=
  ⟨h.1, h.2.1.keep (fun k _ => by rw [hh]), by rw [hh]; exact h.2.2.1, h.2.2.2.draws hh h1 h2 h3⟩

theorem nodup_mid {l r : Ns} {b : Nat} {x : Wt} (h : ((l ++ (b, x) :: r).map (·.1)).Nodup) : (∀ m ∈ l, m.1 ≠ b) ∧ (∀ m ∈ r, m.1 ≠ b) ∧ ((l ++ r).map (·.1)).Nodup ∧ (∀ m ∈ l, ∀ k ∈ r, m.1 ≠ k.1) := by
  simp only [List.map_append, List.map_cons, List.nodup_append, List.nodup_cons, List.mem_map, List.mem_cons] at h ⊢
  obtain ⟨h1, ⟨h2, h3⟩, h4⟩ := h
  refine ⟨fun m hm => h4 _ ⟨m, hm, rfl⟩ _ (.inl rfl), fun m hm e => h2 ⟨m, hm, e⟩, ⟨h1, h3, fun a ha c hc => h4 a ha c (.inr hc)⟩, fun m hm k hk => h4 _ ⟨m, hm, rfl⟩ _ (.inr ⟨k, hk, rfl⟩)⟩
theorem lst_snoc (l : Ns) (a : Nat) (y : Wt) (p : Option Nat) : lst (l ++ [(a, y)]) p = some a := by rw [lst_app]; rfl
theorem nodup_last {l : Ns} {a : Nat} {y : Wt} (h : ((l ++ [(a, y)]).map (·.1)).Nodup) : ∀ m ∈ l, m.1 ≠ a := (nodup_mid h).1
theorem nodup_app {l r : Ns} (h : ((l ++ r).map (·.1)).Nodup) : (l.map (·.1)).Nodup ∧ (r.map (·.1)).Nodup := by
  simp only [List.map_append, List.nodup_append] at h; exact ⟨h.1, h.2.1⟩

section
variable {w : World} {s : Bool} {R : Rs} {q b : Nat} {x : Wt}
theorem LQ.mid {l r : Ns} (h : LQ w s q R (l ++ (b, x) :: r)) : Sg w none l (some b) ∧ Nd w b x (lst l none) (hd r none) ∧ Sg w (some b) r none := by
  have := (Sg.app _ _ _ _).1 h.sg
  exact ⟨this.1, this.2.1, this.2.2⟩
theorem fq {ns : Ns} : qF q ns q := .inl rfl
theorem fn {ns : Ns} {m : Nat × Wt} (h : m ∈ ns) : qF q ns m.1 := .inr ⟨m, h, rfl⟩
theorem CutR.one (h : LQ w s q R [(b, x)]) : CutR s q R b [(b, x)] [] w (.returned (.tuple #[])) (((w.setCell ⟨q, off s, none⟩ (.pointer (adr none))).setCell ⟨q, off s + 1, none⟩ (.pointer (adr none))).setCell ⟨q, off s + 2, none⟩ (.int .i64 0)) := by
  have hne := h.ne (b, x) (by simp)
  refine ⟨rfl, ⟨(((h.hq.s0 _).s1 _).s2 0), trivial, List.nodup_nil⟩, ?_, (((Tn.refl _ w).set (.inl fq) _).set (.inl fq) _).set (.inl fq) _⟩
  rw [Below.heap_setCell _ _ _ _ hne, Below.heap_setCell _ _ _ _ hne, Below.heap_setCell _ _ _ _ hne]
theorem CutR.first {c : Nat} {z : Wt} {r : Ns} (h : LQ w s q R ((b, x) :: (c, z) :: r)) : CutR s q R b ((b, x) :: (c, z) :: r) ((c, z) :: r) w (.returned (.tuple #[])) (((w.setCell ⟨q, off s, none⟩ (.pointer (adr (some c)))).setCell ⟨c, 3, none⟩ (.pointer (adr none))).setCell ⟨q, off s + 2, none⟩ (.int .i64 ((r.length + 1 : Nat) : Int))) := by
  have hb := h.ne (b, x) (by simp)
  have hc := h.ne (c, z) (by simp)
  obtain ⟨_, hr, hnd, _⟩ := nodup_mid (l := []) h.nd
  have hbc := hr (c, z) (by simp)
  have hcr := (nodup_mid (l := []) hnd).2.1
  have hsg : Sg w (some b) ((c, z) :: r) none := h.sg.2
  have hqr : ∀ m ∈ (c, z) :: r, m.1 ≠ q := fun m hm => h.ne m (List.mem_cons_of_mem _ hm)
  refine ⟨rfl, ⟨?_, ?_, hnd⟩, ?_, (((Tn.refl _ w).set (.inl fq) _).set (.inl (fn (m := (c, z)) (by simp))) _).set (.inl fq) _⟩
  · exact Hd.s2 ((h.hq.s0 (some c)).keep (Below.heap_setCell _ _ _ _ (by exact fun e => hc e.symm))) _
  · exact Sg.other (Sg.prev (Sg.other hsg hqr) hcr none) hqr
  · rw [Below.heap_setCell _ _ _ _ hb, Below.heap_setCell _ _ _ _ (by exact fun e => hbc e.symm), Below.heap_setCell _ _ _ _ hb]
theorem CutR.last {a : Nat} {y : Wt} {l : Ns} (h : LQ w s q R (l ++ [(a, y)] ++ [(b, x)])) : CutR s q R b (l ++ [(a, y)] ++ [(b, x)]) (l ++ [(a, y)]) w (.returned (.tuple #[])) (((w.setCell ⟨a, 4, none⟩ (.pointer (adr none))).setCell ⟨q, off s + 1, none⟩ (.pointer (adr (some a)))).setCell ⟨q, off s + 2, none⟩ (.int .i64 ((l.length + 1 : Nat) : Int))) := by
  have hb := h.ne (b, x) (by simp)
  have ha := h.ne (a, y) (by simp)
  obtain ⟨hl, _, hnd, _⟩ := nodup_mid h.nd
  rw [List.append_nil] at hnd
  have hab := hl (a, y) (by simp)
  have hal := nodup_last hnd
  have hsg : Sg w none (l ++ [(a, y)]) (some b) := h.mid.1
  have hql : ∀ m ∈ l ++ [(a, y)], m.1 ≠ q := fun m hm => h.ne m (List.mem_append_left _ hm)
  have hq := h.hq
  rw [hd_app, hd_app] at hq
  refine ⟨rfl, ⟨?_, ?_, hnd⟩, ?_, (((Tn.refl _ w).set (.inl (fn (m := (a, y)) (by simp))) _).set (.inl fq) _).set (.inl fq) _⟩
  · rw [lst_snoc, List.length_append, hd_app]
    exact Hd.s2 (Hd.s1 (hq.keep (Below.heap_setCell _ _ _ _ (by exact fun e => ha e.symm))) _) _
  · exact Sg.other (Sg.other (Sg.next hsg hal none) hql) hql
  · rw [Below.heap_setCell _ _ _ _ hb, Below.heap_setCell _ _ _ _ hb, Below.heap_setCell _ _ _ _ (by exact fun e => hab e.symm)]
theorem CutR.midst {a c : Nat} {y z : Wt} {l r : Ns} (h : LQ w s q R (l ++ [(a, y)] ++ (b, x) :: (c, z) :: r)) : CutR s q R b (l ++ [(a, y)] ++ (b, x) :: (c, z) :: r) (l ++ [(a, y)] ++ (c, z) :: r) w (.returned (.tuple #[])) (((w.setCell ⟨a, 4, none⟩ (.pointer (adr (some c)))).setCell ⟨c, 3, none⟩ (.pointer (adr (some a)))).setCell ⟨q, off s + 2, none⟩ (.int .i64 (((l ++ [(a, y)] ++ (c, z) :: r).length : Nat) : Int))) := by
  have hb := h.ne (b, x) (by simp)
  have ha := h.ne (a, y) (by simp)
  have hc := h.ne (c, z) (by simp)
  obtain ⟨hl, hr, hnd, hx⟩ := nodup_mid h.nd
  have hab := hl (a, y) (by simp)
  have hcb := hr (c, z) (by simp)
  have hal := nodup_last (nodup_app hnd).1
  have hcr := (nodup_mid (l := []) (nodup_app hnd).2).2.1
  obtain ⟨s1, _, s2⟩ := h.mid
  have hql : ∀ m ∈ l ++ [(a, y)], m.1 ≠ q := fun m hm => h.ne m (List.mem_append_left _ hm)
  have hqr : ∀ m ∈ (c, z) :: r, m.1 ≠ q := fun m hm => h.ne m (List.mem_append_right _ (List.mem_cons_of_mem _ hm))
  have hq := h.hq
  rw [hd_app, hd_app, lst_app] at hq
  refine ⟨rfl, ⟨?_, ?_, hnd⟩, ?_, (((Tn.refl _ w).set (.inl (fn (m := (a, y)) (by simp))) _).set (.inl (fn (m := (c, z)) (by simp))) _).set (.inl fq) _⟩
  · rw [hd_app, hd_app, lst_app]
    exact Hd.s2 ((hq.keep (Below.heap_setCell _ _ _ _ (by exact fun e => ha e.symm))).keep (Below.heap_setCell _ _ _ _ (by exact fun e => hc e.symm))) _
  · refine Sg.other ((Sg.app _ _ _ _).2 ⟨?_, ?_⟩) (fun m hm => ?_)
    · exact Sg.other (Sg.next s1 hal (some c)) (fun m hm => hx m hm (c, z) (by simp))
    · rw [lst_snoc]
      exact Sg.prev (Sg.other s2 (fun m hm e => hx (a, y) (by simp) m hm e.symm)) hcr (some a)
    · rcases List.mem_append.1 hm with hm | hm
      · exact hql m hm
      · exact hqr m hm
  · rw [Below.heap_setCell _ _ _ _ hb, Below.heap_setCell _ _ _ _ (by exact fun e => hcb e.symm), Below.heap_setCell _ _ _ _ (by exact fun e => hab e.symm)]
end
end Go.Proofs.YtmadcnpkaijllaaGreat.Ch
