/- A channel in memory: a ring, and two queues of links within it; what carries it. No condition. -/
import Derived.Test.YtmadcnpkaijllaaChecked
import Derived.WalkKit
import Derived.Below
import Derived.Laws.OwnMore
import Derived.Deep.AppendLies
import Derived.Laws.Rows
import Derived.Laws.BitsAllLaws
import Derived.Lib.Hide
import Derived.Outline
import Derived.BigQuiet
import Derived.Deep.QuietTactic
import Derived.Deep.RegionWith
import Derived.Deep.RegionLaw
import Derived.ArgAppend
import Derived.Deep.LoopGhost
import Derived.Laws.ResultCell
namespace Go.Proofs.Ytmadcnpkaijllaa.Ch
open Go.RowKit
set_option linter.unusedVariables false
set_option maxRecDepth 100000

/-! Places that go round: plain mathematics. -/
/-- The places ps, the first value at f, hold the values l. -/
def QQ (ps : List Int) (f : Nat) (l : List Int) : Prop :=
  l.length ≤ ps.length ∧ (0 < ps.length → f < ps.length) ∧ (ps.length = 0 → f = 0) ∧ ∀ i x, l[i]? = some x → ps[(f + i) % ps.length]? = some x

theorem mod_ne {n f i j : Nat} (hi : i < j) (hj : j < n + i) : (f + i) % n ≠ (f + j) % n := by
  intro h
  have h1 : (f + j - (f + i)) % n = 0 := by
    rw [← Nat.sub_mod_eq_zero_of_mod_eq (h.symm)]
  rw [show f + j - (f + i) = j - i by omega] at h1
  rw [Nat.mod_eq_of_lt (by omega)] at h1
  omega
theorem QQ.new (n : Nat) : QQ (List.replicate n 0) 0 [] := ⟨by simp, fun h => h, fun _ => rfl, fun i x h => by simp at h⟩
theorem QQ.clear {ps qs : List Int} {f : Nat} {l : List Int} (h : QQ ps f l) (hq : qs.length = ps.length) : QQ qs f [] :=
  ⟨by simp, fun h0 => by rw [hq] at h0 ⊢; exact h.2.1 h0, fun h0 => h.2.2.1 (by omega), fun i x hx => by simp at hx⟩
theorem QQ.push {ps : List Int} {f : Nat} {l : List Int} (h : QQ ps f l) (hl : l.length < ps.length) (v : Int) : QQ (ps.set ((f + l.length) % ps.length) v) f (l ++ [v]) := by
  obtain ⟨h1, h2, h3, h4⟩ := h
  refine ⟨by simp; omega, by simpa using h2, by simpa using h3, fun i x hx => ?_⟩
  rw [List.length_set]
  by_cases hi : i < l.length
  · rw [List.getElem?_append_left hi] at hx
    rw [List.getElem?_set_ne (fun e => mod_ne (n := ps.length) (f := f) hi (by omega) e.symm)]
    exact h4 i x hx
  · have hi2 : i < (l ++ [v]).length := (List.getElem?_eq_some_iff.1 hx).1
    simp at hi2
    obtain rfl : i = l.length := by omega
    simp at hx
    subst hx
    rw [List.getElem?_set_self (Nat.mod_lt _ (by omega))]
theorem QQ.pop {ps : List Int} {f : Nat} {l : List Int} {x : Int} (h : QQ ps f (x :: l)) : QQ (ps.set f 0) ((f + 1) % ps.length) l := by
  obtain ⟨h1, h2, h3, h4⟩ := h
  simp at h1
  refine ⟨by simp; omega, fun h0 => by rw [List.length_set] at h0 ⊢; exact Nat.mod_lt _ h0, fun h0 => by rw [List.length_set] at h0; omega, fun i y hy => ?_⟩
  rw [List.length_set]
  have hi : i < l.length := (List.getElem?_eq_some_iff.1 hy).1
  have hf := h2 (by omega)
  have e : ((f + 1) % ps.length + i) % ps.length = (f + (i + 1)) % ps.length := by rw [Nat.mod_add_mod]; congr 1; omega
  rw [e, List.getElem?_set_ne (fun e2 => ?_)]
  · exact h4 (i + 1) y (by simpa using hy)
  · have e3 := mod_ne (n := ps.length) (f := f) (i := 0) (j := i + 1) (by omega) (by omega)
    rw [Nat.add_zero, Nat.mod_eq_of_lt hf] at e3
    exact e3 e2
theorem QQ.head {ps : List Int} {f : Nat} {l : List Int} {x : Int} (h : QQ ps f (x :: l)) : ps[f]? = some x := by
  have := h.2.2.2 0 x (by simp)
  have h1 := h.1
  simp at h1
  rwa [Nat.add_zero, Nat.mod_eq_of_lt (h.2.1 (by omega))] at this

/-! In memory. -/
def iV (l : List Int) : List Value := l.map (Value.int .i64)
def iA (l : List Int) : Array Value := (l.map (Value.int .i64)).toArray
theorem iA_at {l : List Int} {j : Nat} {x : Int} (h : l[j]? = some x) : (iA l)[j]? = some (.int .i64 x) := by simp [iA, h]
theorem iA_set (l : List Int) (j : Nat) (x : Int) : (iA l).setIfInBounds j (.int .i64 x) = iA (l.set j x) := by simp [iA, List.map_set]
theorem cell_blk {w w' : World} {b : Nat} (h : w'.heap[b]? = w.heap[b]?) (i : Nat) : w'.cell? ⟨b, i, none⟩ = w.cell? ⟨b, i, none⟩ := World.cell?_of_block (a := ⟨b, i, none⟩) h
theorem frozen_blk {w w' : World} {b : Nat} (h : w'.heap[b]? = w.heap[b]?) (i : Nat) : w'.frozen? ⟨b, i, none⟩ = w.frozen? ⟨b, i, none⟩ := World.frozen?_of_block (a := ⟨b, i, none⟩) h
theorem below_al (w : World) (o : Obj) : Below w.heap.size w (w.alloc o) := (Below.refl _ _).alloc (Nat.le_refl _) _
theorem below_drewN {B : Nat} {a w : World} (h : Below B a w) (n : Nat) : Below B a (w.drewN n) := ⟨h.os, h.tape, h.output, h.size, h.block⟩
theorem lt_of_blk {w : World} {b : Nat} {o : Obj} (h : w.heap[b]? = some o) : b < w.heap.size := (Array.getElem?_eq_some_iff.1 h).1
theorem size_set (w : World) (a : Addr) (u : Value) : (w.setCell a u).heap.size = w.heap.size := by simp [World.setCell]
def BoolR (b : Bool) (w : World) (e : Ending) (w' : World) : Prop := e = .returned (.bool b) ∧ Below w.heap.size w w'
theorem ret_bool {a b : Bool} (h : a = b) : Ending.returned (.bool a) = .returned (.bool b) := by rw [h]
theorem ret_int {k : IntKind} {a b : Int} (h : a = b) : Ending.returned (.int k a) = .returned (.int k b) := by rw [h]

/-! Nothing has turned but new blocks and those of F. -/
structure Tn (F : Nat → Prop) (w w' : World) : Prop where
  os : w'.os = w.os
  tape : w'.tape = w.tape
  output : w'.output = w.output
  size : w.heap.size ≤ w'.heap.size
  block : ∀ k, k < w.heap.size → ¬ F k → w'.heap[k]? = w.heap[k]?
theorem Tn.refl (F : Nat → Prop) (w : World) : Tn F w w := ⟨rfl, rfl, rfl, Nat.le_refl _, fun _ _ _ => rfl⟩
theorem Tn.of_below {F : Nat → Prop} {w w' : World} (h : Below w.heap.size w w') : Tn F w w' := ⟨h.os, h.tape, h.output, h.size, fun k hk _ => h.block k hk⟩
theorem Tn.comp {F G : Nat → Prop} {u v w : World} (h : Tn F u v) (k : Tn G v w) (hs : ∀ b, G b → F b ∨ u.heap.size ≤ b) : Tn F u w :=
  ⟨k.os.trans h.os, k.tape.trans h.tape, k.output.trans h.output, Nat.le_trans h.size k.size, fun i hi hn => by
    rw [← h.block i hi hn]
    exact k.block i (by have := h.size; omega) (fun hg => by rcases hs i hg with h1 | h1; exact hn h1; omega)⟩
theorem Tn.trans {F : Nat → Prop} {u v w : World} (h : Tn F u v) (k : Tn F v w) : Tn F u w := h.comp k fun _ hb => .inl hb
theorem Tn.mono {F G : Nat → Prop} {w w' : World} (h : Tn F w w') (hs : ∀ b, F b → G b ∨ w.heap.size ≤ b) : Tn G w w' := (Tn.refl G w).comp h hs
theorem Tn.set {F : Nat → Prop} {u w : World} {b i : Nat} (h : Tn F u w) (hb : F b ∨ u.heap.size ≤ b) (v : Value) : Tn F u (w.setCell ⟨b, i, none⟩ v) :=
  ⟨h.os, h.tape, h.output, by rw [size_set]; exact h.size, fun k hk hn => (Below.heap_setCell _ _ _ _ (by rintro rfl; rcases hb with h1 | h1; exact hn h1; omega)).trans (h.block k hk hn)⟩
theorem Tn.draws {F : Nat → Prop} {u w w' : World} (h : Tn F u w) (hh : w'.heap = w.heap) (h1 : w'.os = w.os) (h2 : w'.tape = w.tape) (h3 : w'.output = w.output) : Tn F u w' :=
  ⟨h1.trans h.os, h2.trans h.tape, h3.trans h.output, by rw [hh]; exact h.size, fun k hk hn => by rw [hh]; exact h.block k hk hn⟩
theorem Tn.later {F : Nat → Prop} {u w w' : World} (h : Tn F u w) (hb : Below w.heap.size w w') : Tn F u w' := h.trans (.of_below hb)
theorem Tn.below {F : Nat → Prop} {B : Nat} {w w' : World} (h : Tn F w w') (hB : B ≤ w.heap.size) (hF : ∀ b, F b → B ≤ b) : Below B w w' :=
  ⟨h.os, h.tape, h.output, h.size, fun k hk => h.block k (by omega) (fun hf => by have := hF k hf; omega)⟩
theorem Tn.early {F : Nat → Prop} {w w' : World} {o : Obj} (h : Tn F (w.alloc o) w') : Tn F w w' := (Tn.of_below (below_al w o)).trans h

/-! A ring. -/
/-- Block a is a ring, its places lie in block p: sz of them, the first value at f. -/
structure RI (w : World) (a p sz f : Nat) (ps l : List Int) : Prop where
  ne : a ≠ p
  len : ps.length = sz
  q : QQ ps f l
  hp : w.heap[p]? = some (.cells (iA ps) 3 (0, 0))
  ha : w.heap[a]? = some (.cells #[.slice (some ⟨p, 0, none⟩) sz sz, .int .i64 f, .int .i64 l.length] 111 (0, 0))
/-- Block a is a ring of size sz that holds l. -/
def RG (w : World) (a p sz : Nat) (l : List Int) : Prop := ∃ f ps, RI w a p sz f ps l

section
variable {w w' : World} {a p sz f : Nat} {ps l : List Int}
theorem RI.c0 (h : RI w a p sz f ps l) : w.cell? ⟨a, 0, none⟩ = some (.slice (some ⟨p, 0, none⟩) sz sz) := by rw [cell_of_row w a 0 _ _ _ h.ha]; rfl
theorem RI.c1 (h : RI w a p sz f ps l) : w.cell? ⟨a, 1, none⟩ = some (.int .i64 f) := by rw [cell_of_row w a 1 _ _ _ h.ha]; rfl
theorem RI.c2 (h : RI w a p sz f ps l) : w.cell? ⟨a, 2, none⟩ = some (.int .i64 l.length) := by rw [cell_of_row w a 2 _ _ _ h.ha]; rfl
theorem RI.fa (h : RI w a p sz f ps l) (i : Nat) : w.frozen? ⟨a, i, none⟩ = false := frozen_of_row w a i _ _ h.ha
theorem RI.fp (h : RI w a p sz f ps l) (i : Nat) : w.frozen? ⟨p, i, none⟩ = false := frozen_of_row w p i _ _ h.hp
theorem RI.cp (h : RI w a p sz f ps l) {i : Nat} {x : Int} (hx : ps[i]? = some x) : w.cell? ⟨p, i, none⟩ = some (.int .i64 x) := by rw [cell_of_row w p i _ _ _ h.hp]; exact iA_at hx
theorem RI.le (h : RI w a p sz f ps l) : l.length ≤ sz := by rw [← h.len]; exact h.q.1
theorem RI.lt (h : RI w a p sz f ps l) (h0 : 0 < sz) : f < sz := by have := h.len; subst this; exact h.q.2.1 h0
theorem RI.keep (h : RI w a p sz f ps l) (e1 : w'.heap[a]? = w.heap[a]?) (e2 : w'.heap[p]? = w.heap[p]?) : RI w' a p sz f ps l := ⟨h.ne, h.len, h.q, by rw [e2]; exact h.hp, by rw [e1]; exact h.ha⟩
theorem RG.keep (h : RG w a p sz l) (e1 : w'.heap[a]? = w.heap[a]?) (e2 : w'.heap[p]? = w.heap[p]?) : RG w' a p sz l := by obtain ⟨f, ps, h⟩ := h; exact ⟨f, ps, h.keep e1 e2⟩
theorem RG.la (h : RG w a p sz l) : a < w.heap.size := by obtain ⟨f, ps, h⟩ := h; exact lt_of_blk h.ha
theorem RG.lp (h : RG w a p sz l) : p < w.heap.size := by obtain ⟨f, ps, h⟩ := h; exact lt_of_blk h.hp
theorem RG.later (h : RG w a p sz l) (hb : Below w.heap.size w w') : RG w' a p sz l := h.keep (hb.block _ h.la) (hb.block _ h.lp)
theorem RG.le (h : RG w a p sz l) : l.length ≤ sz := by obtain ⟨f, ps, h⟩ := h; exact h.le
end

/-- Nothing but the blocks a and p has turned. -/
structure Only (a p : Nat) (w w' : World) : Prop where
  os : w'.os = w.os
  tape : w'.tape = w.tape
  output : w'.output = w.output
  size : w'.heap.size = w.heap.size
  block : ∀ k, k ≠ a → k ≠ p → w'.heap[k]? = w.heap[k]?
theorem Only.refl (a p : Nat) (w : World) : Only a p w w := ⟨rfl, rfl, rfl, rfl, fun _ _ _ => rfl⟩
theorem Only.trans {a p : Nat} {u v w : World} (h : Only a p u v) (k : Only a p v w) : Only a p u w :=
  ⟨k.os.trans h.os, k.tape.trans h.tape, k.output.trans h.output, k.size.trans h.size, fun i h1 h2 => (k.block i h1 h2).trans (h.block i h1 h2)⟩
theorem Only.set {a p b i : Nat} {u w : World} (h : Only a p u w) (hb : b = a ∨ b = p) (v : Value) : Only a p u (w.setCell ⟨b, i, none⟩ v) :=
  h.trans ⟨rfl, rfl, rfl, by simp [World.setCell], fun k h1 h2 => Below.heap_setCell _ _ _ _ (by rcases hb with rfl | rfl <;> assumption)⟩
theorem Only.drewN {a p : Nat} {u w : World} (h : Only a p u w) (n : Nat) : Only a p u (w.drewN n) := h.trans ⟨rfl, rfl, rfl, rfl, fun _ _ _ => rfl⟩
theorem Only.tn {a p : Nat} {F : Nat → Prop} {w w' : World} (h : Only a p w w') (ha : F a) (hp : F p) : Tn F w w' :=
  ⟨h.os, h.tape, h.output, by rw [h.size]; exact Nat.le_refl _, fun k _ hn => h.block k (fun e => hn (e ▸ ha)) (fun e => hn (e ▸ hp))⟩

/-! Who waits: links. -/
/-- One who waits: task, case, value. -/
structure Wt where
  t : Int
  c : Int
  v : Int
def wV (x : Wt) : List Value := [.int .i64 x.t, .int .i64 x.c, .int .i64 x.v]
theorem wV_len (x : Wt) : (wV x).length = 3 := rfl
def wG (x : Wt) : Value := .agg #[.int .i64 x.t, .int .i64 x.c, .int .i64 x.v]

/-- A row of links: the block of each, and who waits there. -/
abbrev Ns := List (Nat × Wt)
def adr (o : Option Nat) : Option Addr := o.map fun b => ⟨b, 0, none⟩
theorem adr_none : adr none = none := rfl
theorem adr_some (b : Nat) : adr (some b) = some ⟨b, 0, none⟩ := rfl
def hd : Ns → Option Nat → Option Nat
  | [], n => n
  | (b, _) :: _, _ => some b
theorem hd_nil (n : Option Nat) : hd [] n = n := rfl
theorem hd_cons (b : Nat) (x : Wt) (r : Ns) (n : Option Nat) : hd ((b, x) :: r) n = some b := rfl
def lst : Ns → Option Nat → Option Nat
  | [], p => p
  | (b, _) :: r, _ => lst r (some b)
theorem hd_app (l r : Ns) (n : Option Nat) : hd (l ++ r) n = hd l (hd r n) := by cases l <;> rfl
theorem lst_app : ∀ (l r : Ns) (p : Option Nat), lst (l ++ r) p = lst r (lst l p)
  | [], r, p => rfl
  | (b, x) :: l, r, p => by simp only [List.cons_append, lst]; exact lst_app l r (some b)

def Nd (w : World) (b : Nat) (x : Wt) (p n : Option Nat) : Prop := w.heap[b]? = some (.cells #[.int .i64 x.t, .int .i64 x.c, .int .i64 x.v, .pointer (adr p), .pointer (adr n)] 115 (0, 0))
/-- What else the channel's block holds. -/
structure Rs where
  k : Value
  c : Value
  v : Value
  x : Value
  y : Value
  z : Value
@[reducible] def off : Bool → Nat
  | true => 3
  | false => 6
def hB (s : Bool) (R : Rs) (f l n : Value) : Array Value := match s with
  | true => #[R.k, R.c, R.v, f, l, n, R.x, R.y, R.z]
  | false => #[R.k, R.c, R.v, R.x, R.y, R.z, f, l, n]
def Hd (w : World) (s : Bool) (q : Nat) (R : Rs) (f l : Option Nat) (n : Nat) : Prop := w.heap[q]? = some (.cells (hB s R (.pointer (adr f)) (.pointer (adr l)) (.int .i64 n)) 89 (0, 0))
/-- Links in a row: p ahead of the first one, n behind the last one. -/
def Sg (w : World) : Option Nat → Ns → Option Nat → Prop
  | _, [], _ => True
  | p, (b, x) :: r, n => Nd w b x p (hd r n) ∧ Sg w (some b) r n

theorem Sg.app {w : World} : ∀ (l r : Ns) (p n : Option Nat), Sg w p (l ++ r) n ↔ Sg w p l (hd r n) ∧ Sg w (lst l p) r n
  | [], r, p, n => by simp [Sg, lst]
  | (b, x) :: l, r, p, n => by
    simp only [List.cons_append, Sg, lst, hd_app, Sg.app l r (some b) n]
    exact and_assoc.symm
theorem Sg.keep {w w' : World} : ∀ (l : Ns) (p n : Option Nat), (∀ m ∈ l, w'.heap[m.1]? = w.heap[m.1]?) → Sg w p l n → Sg w' p l n
  | [], _, _, _, _ => trivial
  | (b, x) :: l, p, n, h, hs => ⟨by unfold Nd; rw [h (b, x) (List.mem_cons_self ..)]; exact hs.1, Sg.keep l _ _ (fun m hm => h m (List.mem_cons_of_mem _ hm)) hs.2⟩
theorem Sg.tag {w : World} : ∀ (l : Ns) (p n : Option Nat), Sg w p l n → ∀ m ∈ l, ∃ cs, w.heap[m.1]? = some (.cells cs 115 (0, 0))
  | [], _, _, _, m, hm => by simp at hm
  | (b, x) :: l, p, n, hs, m, hm => by
    rcases List.mem_cons.1 hm with rfl | hm
    · exact ⟨_, hs.1⟩
    · exact Sg.tag l _ _ hs.2 m hm
theorem Nd.c0 {w : World} {b : Nat} {x : Wt} {p n : Option Nat} (h : Nd w b x p n) : w.cell? ⟨b, 0, none⟩ = some (.int .i64 x.t) := by rw [cell_of_row w b 0 _ _ _ h]; rfl
theorem Nd.c1 {w : World} {b : Nat} {x : Wt} {p n : Option Nat} (h : Nd w b x p n) : w.cell? ⟨b, 1, none⟩ = some (.int .i64 x.c) := by rw [cell_of_row w b 1 _ _ _ h]; rfl
theorem Nd.c2 {w : World} {b : Nat} {x : Wt} {p n : Option Nat} (h : Nd w b x p n) : w.cell? ⟨b, 2, none⟩ = some (.int .i64 x.v) := by rw [cell_of_row w b 2 _ _ _ h]; rfl
theorem Nd.c3 {w : World} {b : Nat} {x : Wt} {p n : Option Nat} (h : Nd w b x p n) : w.cell? ⟨b, 3, none⟩ = some (.pointer (adr p)) := by rw [cell_of_row w b 3 _ _ _ h]; rfl
theorem Nd.c4 {w : World} {b : Nat} {x : Wt} {p n : Option Nat} (h : Nd w b x p n) : w.cell? ⟨b, 4, none⟩ = some (.pointer (adr n)) := by rw [cell_of_row w b 4 _ _ _ h]; rfl
theorem Nd.fz {w : World} {b : Nat} {x : Wt} {p n : Option Nat} (h : Nd w b x p n) (i : Nat) : w.frozen? ⟨b, i, none⟩ = false := frozen_of_row w b i _ _ h
theorem Nd.next {w : World} {b : Nat} {x : Wt} {p n : Option Nat} (h : Nd w b x p n) (m : Option Nat) : Nd (w.setCell ⟨b, 4, none⟩ (.pointer (adr m))) b x p m := by unfold Nd; rw [heap_setCell_same w b 4 _ _ _ h]; rfl
theorem Nd.prev {w : World} {b : Nat} {x : Wt} {p n : Option Nat} (h : Nd w b x p n) (m : Option Nat) : Nd (w.setCell ⟨b, 3, none⟩ (.pointer (adr m))) b x m n := by unfold Nd; rw [heap_setCell_same w b 3 _ _ _ h]; rfl
section
variable {w w' : World} {s : Bool} {q n : Nat} {R : Rs} {f l : Option Nat}
theorem Hd.c0 (h : Hd w s q R f l n) : w.cell? ⟨q, off s, none⟩ = some (.pointer (adr f)) := by rw [cell_of_row w q _ _ _ _ h]; cases s <;> rfl
theorem Hd.c1 (h : Hd w s q R f l n) : w.cell? ⟨q, off s + 1, none⟩ = some (.pointer (adr l)) := by rw [cell_of_row w q _ _ _ _ h]; cases s <;> rfl
theorem Hd.c2 (h : Hd w s q R f l n) : w.cell? ⟨q, off s + 2, none⟩ = some (.int .i64 n) := by rw [cell_of_row w q _ _ _ _ h]; cases s <;> rfl
theorem Hd.fz (h : Hd w s q R f l n) (i : Nat) : w.frozen? ⟨q, i, none⟩ = false := frozen_of_row w q i _ _ h
theorem Hd.s0 (h : Hd w s q R f l n) (m : Option Nat) : Hd (w.setCell ⟨q, off s, none⟩ (.pointer (adr m))) s q R m l n := by unfold Hd; rw [heap_setCell_same w q _ _ _ _ h]; cases s <;> rfl
theorem Hd.s1 (h : Hd w s q R f l n) (m : Option Nat) : Hd (w.setCell ⟨q, off s + 1, none⟩ (.pointer (adr m))) s q R f m n := by unfold Hd; rw [heap_setCell_same w q _ _ _ _ h]; cases s <;> rfl
theorem Hd.s2 (h : Hd w s q R f l n) (m : Nat) : Hd (w.setCell ⟨q, off s + 2, none⟩ (.int .i64 m)) s q R f l m := by unfold Hd; rw [heap_setCell_same w q _ _ _ _ h]; cases s <;> rfl
theorem Hd.keep (h : Hd w s q R f l n) (e : w'.heap[q]? = w.heap[q]?) : Hd w' s q R f l n := by unfold Hd; rw [e]; exact h
end
theorem Nd.keep {w w' : World} {b : Nat} {x : Wt} {p n : Option Nat} (h : Nd w b x p n) (e : w'.heap[b]? = w.heap[b]?) : Nd w' b x p n := by unfold Nd; rw [e]; exact h

/-- The link of the last one turned. -/
theorem Sg.next {w : World} {l : Ns} {a : Nat} {y : Wt} {p n : Option Nat} (h : Sg w p (l ++ [(a, y)]) n) (ha : ∀ m ∈ l, m.1 ≠ a) (m : Option Nat) : Sg (w.setCell ⟨a, 4, none⟩ (.pointer (adr m))) p (l ++ [(a, y)]) m := by
  rw [Sg.app] at h ⊢
  refine ⟨Sg.keep _ _ _ (fun k hk => Below.heap_setCell _ _ _ _ (ha k hk)) h.1, ?_, trivial⟩
  exact Nd.next h.2.1 m
theorem Sg.prev {w : World} {r : Ns} {c : Nat} {z : Wt} {p n : Option Nat} (h : Sg w p ((c, z) :: r) n) (hc : ∀ m ∈ r, m.1 ≠ c) (m : Option Nat) : Sg (w.setCell ⟨c, 3, none⟩ (.pointer (adr m))) m ((c, z) :: r) n :=
  ⟨Nd.prev h.1 m, Sg.keep _ _ _ (fun k hk => Below.heap_setCell _ _ _ _ (hc k hk)) h.2⟩
theorem Sg.other {w : World} {l : Ns} {p n : Option Nat} {b i : Nat} {v : Value} (h : Sg w p l n) (hb : ∀ m ∈ l, m.1 ≠ b) : Sg (w.setCell ⟨b, i, none⟩ v) p l n :=
  Sg.keep _ _ _ (fun k hk => Below.heap_setCell _ _ _ _ (hb k hk)) h

/-- In block q, from cell 3 or 6 on, is a Queue, its links ns. -/
structure LQ (w : World) (s : Bool) (q : Nat) (R : Rs) (ns : Ns) : Prop where
  hq : Hd w s q R (hd ns none) (lst ns none) ns.length
  sg : Sg w none ns none
  nd : (ns.map (·.1)).Nodup
/-- Its blocks. -/
def qF (q : Nat) (ns : Ns) (k : Nat) : Prop := k = q ∨ ∃ m ∈ ns, m.1 = k
theorem qF_sub {q : Nat} {ns ns' : Ns} (h : ∀ m ∈ ns', m ∈ ns) : ∀ k, qF q ns' k → qF q ns k := fun k hk => by
  rcases hk with rfl | ⟨m, hm, rfl⟩
  · exact .inl rfl
  · exact .inr ⟨m, h m hm, rfl⟩
section
variable {w w' : World} {s : Bool} {q : Nat} {R : Rs} {ns : Ns}
theorem LQ.isn (h : LQ w s q R ns) : ∀ m ∈ ns, ∃ cs, w.heap[m.1]? = some (.cells cs 115 (0, 0)) := Sg.tag _ _ _ h.sg
theorem LQ.lt (h : LQ w s q R ns) : q < w.heap.size ∧ ∀ m ∈ ns, m.1 < w.heap.size := ⟨lt_of_blk h.hq, fun m hm => by obtain ⟨_, hc⟩ := h.isn m hm; exact lt_of_blk hc⟩
theorem LQ.ne (h : LQ w s q R ns) : ∀ m ∈ ns, m.1 ≠ q := fun m hm e => by
  obtain ⟨cs, hc⟩ := h.isn m hm
  have := h.hq
  unfold Hd at this
  rw [e, this] at hc
  simp at hc
theorem LQ.keep (h : LQ w s q R ns) (k : ∀ b, qF q ns b → w'.heap[b]? = w.heap[b]?) : LQ w' s q R ns :=
  ⟨h.hq.keep (k q (.inl rfl)), Sg.keep _ _ _ (fun m hm => k _ (.inr ⟨m, hm, rfl⟩)) h.sg, h.nd⟩
theorem LQ.fl (h : LQ w s q R ns) {k : Nat} (hk : qF q ns k) : k < w.heap.size := by
  rcases hk with rfl | ⟨m, hm, rfl⟩
  · exact h.lt.1
  · exact h.lt.2 m hm
theorem LQ.later (h : LQ w s q R ns) (hb : Below w.heap.size w w') : LQ w' s q R ns := h.keep fun b k => hb.block b (h.fl k)
end
end Go.Proofs.Ytmadcnpkaijllaa.Ch
