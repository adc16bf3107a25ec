/- A channel in memory: a ring, and two queues of links within it; what carries it. No condition.
cut takes a link out: those next to it stand next to each other then. Condition: the Queue has it.
cut walked, at each of the four places. Conditions: the Queue has the link there.
Push puts one behind, Pop takes the first one. Conditions: each theorem's own premises.
Remove takes a task out. Conditions: the Queue holds ns, not too many. -/
import Derived.Test.YtdpapnfjpefhkaaGreatChecked
import Derived.WalkKit
import Derived.Below
import Derived.Laws.OwnMore
import Derived.Deep.AppendLies
import Derived.Laws.Rows
import Derived.Laws.BitsAllLaws
import Derived.Lib.Hide
import Derived.Outline
import Derived.BigQuiet
import Derived.Deep.QuietTactic
import Derived.Deep.RegionWith
import Derived.Deep.RegionLaw
import Derived.ArgAppend
import Derived.Deep.LoopGhost
import Derived.Laws.ResultCell
namespace Go.Proofs.YtdpapnfjpefhkaaGreat.Ch
open Go.RowKit
set_option linter.unusedVariables false
set_option maxRecDepth 100000
def QQ (ps : List Int) (f : Nat) (l : List Int) : Prop :=
 l.length ≤ ps.length ∧ (0 < ps.length → f < ps.length) ∧ (ps.length = 0 → f = 0) ∧ ∀ i x, l[i]? = some x → ps[(f + i) % ps.length]? = some x
theorem mod_ne {n f i j : Nat} (hi : i < j) (hj : j < n + i) : (f + i) % n ≠ (f + j) % n := by
 intro h
 have h1 : (f + j - (f + i)) % n = 0 := by
  rw [← Nat.sub_mod_eq_zero_of_mod_eq (h.symm)]
 rw [show f + j - (f + i) = j - i by omega] at h1
 rw [Nat.mod_eq_of_lt (by omega)] at h1
 omega
theorem QQ.clear {ps qs : List Int} {f : Nat} {l : List Int} (h : QQ ps f l) (hq : qs.length = ps.length) : QQ qs f [] :=
 ⟨by simp, fun h0 => by rw [hq] at h0 ⊢; exact h.2.1 h0, fun h0 => h.2.2.1 (by omega), fun i x hx => by simp at hx⟩
theorem QQ.push {ps : List Int} {f : Nat} {l : List Int} (h : QQ ps f l) (hl : l.length < ps.length) (v : Int) : QQ (ps.set ((f + l.length) % ps.length) v) f (l ++ [v]) := by
 obtain ⟨h1, h2, h3, h4⟩ := h
 refine ⟨by simp; omega, by simpa using h2, by simpa using h3, fun i x hx => ?_⟩
 rw [List.length_set]
 by_cases hi : i < l.length
 · rw [List.getElem?_append_left hi] at hx
   rw [List.getElem?_set_ne (fun e => mod_ne (n := ps.length) (f := f) hi (by omega) e.symm)]
   exact h4 i x hx
 · have hi2 : i < (l ++ [v]).length := (List.getElem?_eq_some_iff.1 hx).1
   simp at hi2
   obtain rfl : i = l.length := by omega
   simp at hx
   subst hx
   rw [List.getElem?_set_self (Nat.mod_lt _ (by omega))]
def iV (l : List Int) : List Value := l.map (Value.int .i64)
def iA (l : List Int) : Array Value := (l.map (Value.int .i64)).toArray
theorem iA_at {l : List Int} {j : Nat} {x : Int} (h : l[j]? = some x) : (iA l)[j]? = some (.int .i64 x) := by simp [iA, h]
theorem iA_set (l : List Int) (j : Nat) (x : Int) : (iA l).setIfInBounds j (.int .i64 x) = iA (l.set j x) := by simp [iA, List.map_set]
theorem cell_blk {w w' : World} {b : Nat} (h : w'.heap[b]? = w.heap[b]?) (i : Nat) : w'.cell? ⟨b, i, none⟩ = w.cell? ⟨b, i, none⟩ := World.cell?_of_block (a := ⟨b, i, none⟩) h
theorem below_al (w : World) (o : Obj) : Below w.heap.size w (w.alloc o) := (Below.refl _ _).alloc (Nat.le_refl _) _
theorem below_drewN {B : Nat} {a w : World} (h : Below B a w) (n : Nat) : Below B a (w.drewN n) := ⟨h.os, h.tape, h.output, h.size, h.block⟩
theorem lt_of_blk {w : World} {b : Nat} {o : Obj} (h : w.heap[b]? = some o) : b < w.heap.size := (Array.getElem?_eq_some_iff.1 h).1
theorem size_set (w : World) (a : Addr) (u : Value) : (w.setCell a u).heap.size = w.heap.size := by simp [World.setCell]
def BoolR (b : Bool) (w : World) (e : Ending) (w' : World) : Prop := e = .returned (.bool b) ∧ Below w.heap.size w w'
theorem ret_bool {a b : Bool} (h : a = b) : Ending.returned (.bool a) = .returned (.bool b) := by rw [h]
theorem ret_int {k : IntKind} {a b : Int} (h : a = b) : Ending.returned (.int k a) = .returned (.int k b) := by rw [h]
structure Tn (F : Nat → Prop) (w w' : World) : Prop where
 os : w'.os = w.os
 tape : w'.tape = w.tape
 output : w'.output = w.output
 size : w.heap.size ≤ w'.heap.size
 block : ∀ k, k < w.heap.size → ¬ F k → w'.heap[k]? = w.heap[k]?
theorem Tn.refl (F : Nat → Prop) (w : World) : Tn F w w := ⟨rfl, rfl, rfl, Nat.le_refl _, fun _ _ _ => rfl⟩
theorem Tn.of_below {F : Nat → Prop} {w w' : World} (h : Below w.heap.size w w') : Tn F w w' := ⟨h.os, h.tape, h.output, h.size, fun k hk _ => h.block k hk⟩
theorem Tn.comp {F G : Nat → Prop} {u v w : World} (h : Tn F u v) (k : Tn G v w) (hs : ∀ b, G b → F b ∨ u.heap.size ≤ b) : Tn F u w :=
 ⟨k.os.trans h.os, k.tape.trans h.tape, k.output.trans h.output, Nat.le_trans h.size k.size, fun i hi hn => by
  rw [← h.block i hi hn]
  exact k.block i (by have := h.size; omega) (fun hg => by rcases hs i hg with h1 | h1; exact hn h1; omega)⟩
theorem Tn.trans {F : Nat → Prop} {u v w : World} (h : Tn F u v) (k : Tn F v w) : Tn F u w := h.comp k fun _ hb => .inl hb
theorem Tn.mono {F G : Nat → Prop} {w w' : World} (h : Tn F w w') (hs : ∀ b, F b → G b ∨ w.heap.size ≤ b) : Tn G w w' := (Tn.refl G w).comp h hs
theorem Tn.set {F : Nat → Prop} {u w : World} {b i : Nat} (h : Tn F u w) (hb : F b ∨ u.heap.size ≤ b) (v : Value) : Tn F u (w.setCell ⟨b, i, none⟩ v) :=
 ⟨h.os, h.tape, h.output, by rw [size_set]; exact h.size, fun k hk hn => (Below.heap_setCell _ _ _ _ (by rintro rfl; rcases hb with h1 | h1; exact hn h1; omega)).trans (h.block k hk hn)⟩
theorem Tn.draws {F : Nat → Prop} {u w w' : World} (h : Tn F u w) (hh : w'.heap = w.heap) (h1 : w'.os = w.os) (h2 : w'.tape = w.tape) (h3 : w'.output = w.output) : Tn F u w' :=
 ⟨h1.trans h.os, h2.trans h.tape, h3.trans h.output, by rw [hh]; exact h.size, fun k hk hn => by rw [hh]; exact h.block k hk hn⟩
theorem Tn.later {F : Nat → Prop} {u w w' : World} (h : Tn F u w) (hb : Below w.heap.size w w') : Tn F u w' := h.trans (.of_below hb)
theorem Tn.below {F : Nat → Prop} {B : Nat} {w w' : World} (h : Tn F w w') (hB : B ≤ w.heap.size) (hF : ∀ b, F b → B ≤ b) : Below B w w' :=
 ⟨h.os, h.tape, h.output, h.size, fun k hk => h.block k (by omega) (fun hf => by have := hF k hf; omega)⟩
theorem Tn.early {F : Nat → Prop} {w w' : World} {o : Obj} (h : Tn F (w.alloc o) w') : Tn F w w' := (Tn.of_below (below_al w o)).trans h
structure RI (w : World) (a p sz f : Nat) (ps l : List Int) : Prop where
 ne : a ≠ p
 len : ps.length = sz
 q : QQ ps f l
 hp : w.heap[p]? = some (.cells (iA ps) 3 (0, 0))
 ha : w.heap[a]? = some (.cells #[.slice (some ⟨p, 0, none⟩) sz sz, .int .i64 f, .int .i64 l.length] 237 (0, 0))
def RG (w : World) (a p sz : Nat) (l : List Int) : Prop := ∃ f ps, RI w a p sz f ps l
section
variable {w w' : World} {a p sz f : Nat} {ps l : List Int}
theorem RI.c0 (h : RI w a p sz f ps l) : w.cell? ⟨a, 0, none⟩ = some (.slice (some ⟨p, 0, none⟩) sz sz) := by rw [cell_of_row w a 0 _ _ _ h.ha]; rfl
theorem RI.c1 (h : RI w a p sz f ps l) : w.cell? ⟨a, 1, none⟩ = some (.int .i64 f) := by rw [cell_of_row w a 1 _ _ _ h.ha]; rfl
theorem RI.c2 (h : RI w a p sz f ps l) : w.cell? ⟨a, 2, none⟩ = some (.int .i64 l.length) := by rw [cell_of_row w a 2 _ _ _ h.ha]; rfl
theorem RI.fa (h : RI w a p sz f ps l) (i : Nat) : w.frozen? ⟨a, i, none⟩ = false := frozen_of_row w a i _ _ h.ha
theorem RI.fp (h : RI w a p sz f ps l) (i : Nat) : w.frozen? ⟨p, i, none⟩ = false := frozen_of_row w p i _ _ h.hp
theorem RI.cp (h : RI w a p sz f ps l) {i : Nat} {x : Int} (hx : ps[i]? = some x) : w.cell? ⟨p, i, none⟩ = some (.int .i64 x) := by rw [cell_of_row w p i _ _ _ h.hp]; exact iA_at hx
theorem RI.lt (h : RI w a p sz f ps l) (h0 : 0 < sz) : f < sz := by have := h.len; subst this; exact h.q.2.1 h0
theorem RI.keep (h : RI w a p sz f ps l) (e1 : w'.heap[a]? = w.heap[a]?) (e2 : w'.heap[p]? = w.heap[p]?) : RI w' a p sz f ps l := ⟨h.ne, h.len, h.q, by rw [e2]; exact h.hp, by rw [e1]; exact h.ha⟩
theorem RG.keep (h : RG w a p sz l) (e1 : w'.heap[a]? = w.heap[a]?) (e2 : w'.heap[p]? = w.heap[p]?) : RG w' a p sz l := by obtain ⟨f, ps, h⟩ := h; exact ⟨f, ps, h.keep e1 e2⟩
theorem RG.la (h : RG w a p sz l) : a < w.heap.size := by obtain ⟨f, ps, h⟩ := h; exact lt_of_blk h.ha
theorem RG.lp (h : RG w a p sz l) : p < w.heap.size := by obtain ⟨f, ps, h⟩ := h; exact lt_of_blk h.hp
theorem RG.later (h : RG w a p sz l) (hb : Below w.heap.size w w') : RG w' a p sz l := h.keep (hb.block _ h.la) (hb.block _ h.lp)
end
structure Only (a p : Nat) (w w' : World) : Prop where
 os : w'.os = w.os
 tape : w'.tape = w.tape
 output : w'.output = w.output
 size : w'.heap.size = w.heap.size
 block : ∀ k, k ≠ a → k ≠ p → w'.heap[k]? = w.heap[k]?
theorem Only.refl (a p : Nat) (w : World) : Only a p w w := ⟨rfl, rfl, rfl, rfl, fun _ _ _ => rfl⟩
theorem Only.trans {a p : Nat} {u v w : World} (h : Only a p u v) (k : Only a p v w) : Only a p u w :=
 ⟨k.os.trans h.os, k.tape.trans h.tape, k.output.trans h.output, k.size.trans h.size, fun i h1 h2 => (k.block i h1 h2).trans (h.block i h1 h2)⟩
theorem Only.set {a p b i : Nat} {u w : World} (h : Only a p u w) (hb : b = a ∨ b = p) (v : Value) : Only a p u (w.setCell ⟨b, i, none⟩ v) :=
 h.trans ⟨rfl, rfl, rfl, by simp [World.setCell], fun k h1 h2 => Below.heap_setCell _ _ _ _ (by rcases hb with rfl | rfl <;> assumption)⟩
theorem Only.drewN {a p : Nat} {u w : World} (h : Only a p u w) (n : Nat) : Only a p u (w.drewN n) := h.trans ⟨rfl, rfl, rfl, rfl, fun _ _ _ => rfl⟩
theorem Only.tn {a p : Nat} {F : Nat → Prop} {w w' : World} (h : Only a p w w') (ha : F a) (hp : F p) : Tn F w w' :=
 ⟨h.os, h.tape, h.output, by rw [h.size]; exact Nat.le_refl _, fun k _ hn => h.block k (fun e => hn (e ▸ ha)) (fun e => hn (e ▸ hp))⟩
structure Wt where
 t : Int
 c : Int
 v : Int
def wV (x : Wt) : List Value := [.int .i64 x.t, .int .i64 x.c, .int .i64 x.v]
theorem wV_len (x : Wt) : (wV x).length = 3 := rfl
def wG (x : Wt) : Value := .agg #[.int .i64 x.t, .int .i64 x.c, .int .i64 x.v]
abbrev Ns := List (Nat × Wt)
def adr (o : Option Nat) : Option Addr := o.map fun b => ⟨b, 0, none⟩
theorem adr_none : adr none = none := rfl
theorem adr_some (b : Nat) : adr (some b) = some ⟨b, 0, none⟩ := rfl
def hd : Ns → Option Nat → Option Nat
 | [], n => n
 | (b, _) :: _, _ => some b
theorem hd_nil (n : Option Nat) : hd [] n = n := rfl
theorem hd_cons (b : Nat) (x : Wt) (r : Ns) (n : Option Nat) : hd ((b, x) :: r) n = some b := rfl
def lst : Ns → Option Nat → Option Nat
 | [], p => p
 | (b, _) :: r, _ => lst r (some b)
theorem hd_app (l r : Ns) (n : Option Nat) : hd (l ++ r) n = hd l (hd r n) := by cases l <;> rfl
theorem lst_app : ∀ (l r : Ns) (p : Option Nat), lst (l ++ r) p = lst r (lst l p)
 | [], r, p => rfl
 | (b, x) :: l, r, p => by simp only [List.cons_append, lst]; exact lst_app l r (some b)
def Nd (w : World) (b : Nat) (x : Wt) (p n : Option Nat) : Prop := w.heap[b]? = some (.cells #[.int .i64 x.t, .int .i64 x.c, .int .i64 x.v, .pointer (adr p), .pointer (adr n)] 221 (0, 0))
structure Rs where
 k : Value
 c : Value
 v : Value
 x : Value
 y : Value
 z : Value
@[reducible] def off : Bool → Nat
 | true => 3
 | false => 6
def hB (s : Bool) (R : Rs) (f l n : Value) : Array Value := match s with
 | true => #[R.k, R.c, R.v, f, l, n, R.x, R.y, R.z]
 | false => #[R.k, R.c, R.v, R.x, R.y, R.z, f, l, n]
def Hd (w : World) (s : Bool) (q : Nat) (R : Rs) (f l : Option Nat) (n : Nat) : Prop := w.heap[q]? = some (.cells (hB s R (.pointer (adr f)) (.pointer (adr l)) (.int .i64 n)) 185 (0, 0))
def Sg (w : World) : Option Nat → Ns → Option Nat → Prop
 | _, [], _ => True
 | p, (b, x) :: r, n => Nd w b x p (hd r n) ∧ Sg w (some b) r n
theorem Sg.app {w : World} : ∀ (l r : Ns) (p n : Option Nat), Sg w p (l ++ r) n ↔ Sg w p l (hd r n) ∧ Sg w (lst l p) r n
 | [], r, p, n => by simp [Sg, lst]
 | (b, x) :: l, r, p, n => by
  simp only [List.cons_append, Sg, lst, hd_app, Sg.app l r (some b) n]
  exact and_assoc.symm
theorem Sg.keep {w w' : World} : ∀ (l : Ns) (p n : Option Nat), (∀ m ∈ l, w'.heap[m.1]? = w.heap[m.1]?) → Sg w p l n → Sg w' p l n
 | [], _, _, _, _ => trivial
 | (b, x) :: l, p, n, h, hs => ⟨by unfold Nd; rw [h (b, x) (List.mem_cons_self ..)]; exact hs.1, Sg.keep l _ _ (fun m hm => h m (List.mem_cons_of_mem _ hm)) hs.2⟩
theorem Sg.tag {w : World} : ∀ (l : Ns) (p n : Option Nat), Sg w p l n → ∀ m ∈ l, ∃ cs, w.heap[m.1]? = some (.cells cs 221 (0, 0))
 | [], _, _, _, m, hm => by simp at hm
 | (b, x) :: l, p, n, hs, m, hm => by
  rcases List.mem_cons.1 hm with rfl | hm
  · exact ⟨_, hs.1⟩
  · exact Sg.tag l _ _ hs.2 m hm
theorem Nd.c0 {w : World} {b : Nat} {x : Wt} {p n : Option Nat} (h : Nd w b x p n) : w.cell? ⟨b, 0, none⟩ = some (.int .i64 x.t) := by rw [cell_of_row w b 0 _ _ _ h]; rfl
theorem Nd.c1 {w : World} {b : Nat} {x : Wt} {p n : Option Nat} (h : Nd w b x p n) : w.cell? ⟨b, 1, none⟩ = some (.int .i64 x.c) := by rw [cell_of_row w b 1 _ _ _ h]; rfl
theorem Nd.c2 {w : World} {b : Nat} {x : Wt} {p n : Option Nat} (h : Nd w b x p n) : w.cell? ⟨b, 2, none⟩ = some (.int .i64 x.v) := by rw [cell_of_row w b 2 _ _ _ h]; rfl
theorem Nd.c3 {w : World} {b : Nat} {x : Wt} {p n : Option Nat} (h : Nd w b x p n) : w.cell? ⟨b, 3, none⟩ = some (.pointer (adr p)) := by rw [cell_of_row w b 3 _ _ _ h]; rfl
theorem Nd.c4 {w : World} {b : Nat} {x : Wt} {p n : Option Nat} (h : Nd w b x p n) : w.cell? ⟨b, 4, none⟩ = some (.pointer (adr n)) := by rw [cell_of_row w b 4 _ _ _ h]; rfl
theorem Nd.fz {w : World} {b : Nat} {x : Wt} {p n : Option Nat} (h : Nd w b x p n) (i : Nat) : w.frozen? ⟨b, i, none⟩ = false := frozen_of_row w b i _ _ h
theorem Nd.next {w : World} {b : Nat} {x : Wt} {p n : Option Nat} (h : Nd w b x p n) (m : Option Nat) : Nd (w.setCell ⟨b, 4, none⟩ (.pointer (adr m))) b x p m := by unfold Nd; rw [heap_setCell_same w b 4 _ _ _ h]; rfl
theorem Nd.prev {w : World} {b : Nat} {x : Wt} {p n : Option Nat} (h : Nd w b x p n) (m : Option Nat) : Nd (w.setCell ⟨b, 3, none⟩ (.pointer (adr m))) b x m n := by unfold Nd; rw [heap_setCell_same w b 3 _ _ _ h]; rfl
section
variable {w w' : World} {s : Bool} {q n : Nat} {R : Rs} {f l : Option Nat}
theorem Hd.c0 (h : Hd w s q R f l n) : w.cell? ⟨q, off s, none⟩ = some (.pointer (adr f)) := by rw [cell_of_row w q _ _ _ _ h]; cases s <;> rfl
theorem Hd.c1 (h : Hd w s q R f l n) : w.cell? ⟨q, off s + 1, none⟩ = some (.pointer (adr l)) := by rw [cell_of_row w q _ _ _ _ h]; cases s <;> rfl
theorem Hd.c2 (h : Hd w s q R f l n) : w.cell? ⟨q, off s + 2, none⟩ = some (.int .i64 n) := by rw [cell_of_row w q _ _ _ _ h]; cases s <;> rfl
theorem Hd.fz (h : Hd w s q R f l n) (i : Nat) : w.frozen? ⟨q, i, none⟩ = false := frozen_of_row w q i _ _ h
theorem Hd.s0 (h : Hd w s q R f l n) (m : Option Nat) : Hd (w.setCell ⟨q, off s, none⟩ (.pointer (adr m))) s q R m l n := by unfold Hd; rw [heap_setCell_same w q _ _ _ _ h]; cases s <;> rfl
theorem Hd.s1 (h : Hd w s q R f l n) (m : Option Nat) : Hd (w.setCell ⟨q, off s + 1, none⟩ (.pointer (adr m))) s q R f m n := by unfold Hd; rw [heap_setCell_same w q _ _ _ _ h]; cases s <;> rfl
theorem Hd.s2 (h : Hd w s q R f l n) (m : Nat) : Hd (w.setCell ⟨q, off s + 2, none⟩ (.int .i64 m)) s q R f l m := by unfold Hd; rw [heap_setCell_same w q _ _ _ _ h]; cases s <;> rfl
theorem Hd.keep (h : Hd w s q R f l n) (e : w'.heap[q]? = w.heap[q]?) : Hd w' s q R f l n := by unfold Hd; rw [e]; exact h
end
theorem Nd.keep {w w' : World} {b : Nat} {x : Wt} {p n : Option Nat} (h : Nd w b x p n) (e : w'.heap[b]? = w.heap[b]?) : Nd w' b x p n := by unfold Nd; rw [e]; exact h
theorem Sg.next {w : World} {l : Ns} {a : Nat} {y : Wt} {p n : Option Nat} (h : Sg w p (l ++ [(a, y)]) n) (ha : ∀ m ∈ l, m.1 ≠ a) (m : Option Nat) : Sg (w.setCell ⟨a, 4, none⟩ (.pointer (adr m))) p (l ++ [(a, y)]) m := by
 rw [Sg.app] at h ⊢
 refine ⟨Sg.keep _ _ _ (fun k hk => Below.heap_setCell _ _ _ _ (ha k hk)) h.1, ?_, trivial⟩
 exact Nd.next h.2.1 m
theorem Sg.prev {w : World} {r : Ns} {c : Nat} {z : Wt} {p n : Option Nat} (h : Sg w p ((c, z) :: r) n) (hc : ∀ m ∈ r, m.1 ≠ c) (m : Option Nat) : Sg (w.setCell ⟨c, 3, none⟩ (.pointer (adr m))) m ((c, z) :: r) n :=
 ⟨Nd.prev h.1 m, Sg.keep _ _ _ (fun k hk => Below.heap_setCell _ _ _ _ (hc k hk)) h.2⟩
theorem Sg.other {w : World} {l : Ns} {p n : Option Nat} {b i : Nat} {v : Value} (h : Sg w p l n) (hb : ∀ m ∈ l, m.1 ≠ b) : Sg (w.setCell ⟨b, i, none⟩ v) p l n :=
 Sg.keep _ _ _ (fun k hk => Below.heap_setCell _ _ _ _ (hb k hk)) h
structure LQ (w : World) (s : Bool) (q : Nat) (R : Rs) (ns : Ns) : Prop where
 hq : Hd w s q R (hd ns none) (lst ns none) ns.length
 sg : Sg w none ns none
 nd : (ns.map (·.1)).Nodup
def qF (q : Nat) (ns : Ns) (k : Nat) : Prop := k = q ∨ ∃ m ∈ ns, m.1 = k
theorem qF_sub {q : Nat} {ns ns' : Ns} (h : ∀ m ∈ ns', m ∈ ns) : ∀ k, qF q ns' k → qF q ns k := fun k hk => by
 rcases hk with rfl | ⟨m, hm, rfl⟩
 · exact .inl rfl
 · exact .inr ⟨m, h m hm, rfl⟩
section
variable {w w' : World} {s : Bool} {q : Nat} {R : Rs} {ns : Ns}
theorem LQ.isn (h : LQ w s q R ns) : ∀ m ∈ ns, ∃ cs, w.heap[m.1]? = some (.cells cs 221 (0, 0)) := Sg.tag _ _ _ h.sg
theorem LQ.lt (h : LQ w s q R ns) : q < w.heap.size ∧ ∀ m ∈ ns, m.1 < w.heap.size := ⟨lt_of_blk h.hq, fun m hm => by obtain ⟨_, hc⟩ := h.isn m hm; exact lt_of_blk hc⟩
theorem LQ.ne (h : LQ w s q R ns) : ∀ m ∈ ns, m.1 ≠ q := fun m hm e => by
 obtain ⟨cs, hc⟩ := h.isn m hm
 have := h.hq
 unfold Hd at this
 rw [e, this] at hc
 simp at hc
theorem LQ.keep (h : LQ w s q R ns) (k : ∀ b, qF q ns b → w'.heap[b]? = w.heap[b]?) : LQ w' s q R ns :=
 ⟨h.hq.keep (k q (.inl rfl)), Sg.keep _ _ _ (fun m hm => k _ (.inr ⟨m, hm, rfl⟩)) h.sg, h.nd⟩
theorem LQ.fl (h : LQ w s q R ns) {k : Nat} (hk : qF q ns k) : k < w.heap.size := by
 rcases hk with rfl | ⟨m, hm, rfl⟩
 · exact h.lt.1
 · exact h.lt.2 m hm
theorem LQ.later (h : LQ w s q R ns) (hb : Below w.heap.size w w') : LQ w' s q R ns := h.keep fun b k => hb.block b (h.fl k)
end
end Go.Proofs.YtdpapnfjpefhkaaGreat.Ch
namespace Go.Proofs.YtdpapnfjpefhkaaGreat.Ch
open Go.RowKit
set_option linter.unusedVariables false
set_option maxRecDepth 100000
theorem head_any {w : World} {s : Bool} {q : Nat} {R : Rs} {ns : Ns} (h : LQ w s q R ns) : Calls Tryz.prog 113 #[.pointer (some ⟨q, off s, none⟩)] w fun e w' => e = .returned (.pointer (adr (hd ns none))) ∧ w = w' := by
 have h0 := h.hq.c0
 clear h
 cases s
 all_goals
  simp only [off] at h0 ⊢
  go_enter Tryz.func113, Tryz.ntmps113
  go_wp2
  go_ret
  exact ⟨rfl, rfl⟩
def CutR (s : Bool) (q : Nat) (R : Rs) (b : Nat) (ns ns' : Ns) (w : World) (e : Ending) (w' : World) : Prop := e = .returned (.tuple #[]) ∧ LQ w' s q R ns' ∧ w'.heap[b]? = w.heap[b]? ∧ Tn (qF q ns) w w'
theorem CutR.draw {s : Bool} {q : Nat} {R : Rs} {b : Nat} {ns ns' : Ns} {w w' w'' : World} {e : Ending} (h : CutR s q R b ns ns' w e w') (hh : w''.heap = w'.heap) (h1 : w''.os = w'.os) (h2 : w''.tape = w'.tape) (h3 : w''.output = w'.output) : CutR s q R b ns ns' w e w'' :=
 ⟨h.1, h.2.1.keep (fun k _ => by rw [hh]), by rw [hh]; exact h.2.2.1, h.2.2.2.draws hh h1 h2 h3⟩
theorem nodup_mid {l r : Ns} {b : Nat} {x : Wt} (h : ((l ++ (b, x) :: r).map (·.1)).Nodup) : (∀ m ∈ l, m.1 ≠ b) ∧ (∀ m ∈ r, m.1 ≠ b) ∧ ((l ++ r).map (·.1)).Nodup ∧ (∀ m ∈ l, ∀ k ∈ r, m.1 ≠ k.1) := by
 simp only [List.map_append, List.map_cons, List.nodup_append, List.nodup_cons, List.mem_map, List.mem_cons] at h ⊢
 obtain ⟨h1, ⟨h2, h3⟩, h4⟩ := h
 refine ⟨fun m hm => h4 _ ⟨m, hm, rfl⟩ _ (.inl rfl), fun m hm e => h2 ⟨m, hm, e⟩, ⟨h1, h3, fun a ha c hc => h4 a ha c (.inr hc)⟩, fun m hm k hk => h4 _ ⟨m, hm, rfl⟩ _ (.inr ⟨k, hk, rfl⟩)⟩
theorem lst_snoc (l : Ns) (a : Nat) (y : Wt) (p : Option Nat) : lst (l ++ [(a, y)]) p = some a := by rw [lst_app]; rfl
theorem nodup_last {l : Ns} {a : Nat} {y : Wt} (h : ((l ++ [(a, y)]).map (·.1)).Nodup) : ∀ m ∈ l, m.1 ≠ a := (nodup_mid h).1
theorem nodup_app {l r : Ns} (h : ((l ++ r).map (·.1)).Nodup) : (l.map (·.1)).Nodup ∧ (r.map (·.1)).Nodup := by
 simp only [List.map_append, List.nodup_append] at h; exact ⟨h.1, h.2.1⟩
section
variable {w : World} {s : Bool} {R : Rs} {q b : Nat} {x : Wt}
theorem LQ.mid {l r : Ns} (h : LQ w s q R (l ++ (b, x) :: r)) : Sg w none l (some b) ∧ Nd w b x (lst l none) (hd r none) ∧ Sg w (some b) r none := by
 have := (Sg.app _ _ _ _).1 h.sg
 exact ⟨this.1, this.2.1, this.2.2⟩
theorem fq {ns : Ns} : qF q ns q := .inl rfl
theorem fn {ns : Ns} {m : Nat × Wt} (h : m ∈ ns) : qF q ns m.1 := .inr ⟨m, h, rfl⟩
theorem CutR.one (h : LQ w s q R [(b, x)]) : CutR s q R b [(b, x)] [] w (.returned (.tuple #[])) (((w.setCell ⟨q, off s, none⟩ (.pointer (adr none))).setCell ⟨q, off s + 1, none⟩ (.pointer (adr none))).setCell ⟨q, off s + 2, none⟩ (.int .i64 0)) := by
 have hne := h.ne (b, x) (by simp)
 refine ⟨rfl, ⟨(((h.hq.s0 _).s1 _).s2 0), trivial, List.nodup_nil⟩, ?_, (((Tn.refl _ w).set (.inl fq) _).set (.inl fq) _).set (.inl fq) _⟩
 rw [Below.heap_setCell _ _ _ _ hne, Below.heap_setCell _ _ _ _ hne, Below.heap_setCell _ _ _ _ hne]
theorem CutR.first {c : Nat} {z : Wt} {r : Ns} (h : LQ w s q R ((b, x) :: (c, z) :: r)) : CutR s q R b ((b, x) :: (c, z) :: r) ((c, z) :: r) w (.returned (.tuple #[])) (((w.setCell ⟨q, off s, none⟩ (.pointer (adr (some c)))).setCell ⟨c, 3, none⟩ (.pointer (adr none))).setCell ⟨q, off s + 2, none⟩ (.int .i64 ((r.length + 1 : Nat) : Int))) := by
 have hb := h.ne (b, x) (by simp)
 have hc := h.ne (c, z) (by simp)
 obtain ⟨_, hr, hnd, _⟩ := nodup_mid (l := []) h.nd
 have hbc := hr (c, z) (by simp)
 have hcr := (nodup_mid (l := []) hnd).2.1
 have hsg : Sg w (some b) ((c, z) :: r) none := h.sg.2
 have hqr : ∀ m ∈ (c, z) :: r, m.1 ≠ q := fun m hm => h.ne m (List.mem_cons_of_mem _ hm)
 refine ⟨rfl, ⟨?_, ?_, hnd⟩, ?_, (((Tn.refl _ w).set (.inl fq) _).set (.inl (fn (m := (c, z)) (by simp))) _).set (.inl fq) _⟩
 · exact Hd.s2 ((h.hq.s0 (some c)).keep (Below.heap_setCell _ _ _ _ (by exact fun e => hc e.symm))) _
 · exact Sg.other (Sg.prev (Sg.other hsg hqr) hcr none) hqr
 · rw [Below.heap_setCell _ _ _ _ hb, Below.heap_setCell _ _ _ _ (by exact fun e => hbc e.symm), Below.heap_setCell _ _ _ _ hb]
theorem CutR.last {a : Nat} {y : Wt} {l : Ns} (h : LQ w s q R (l ++ [(a, y)] ++ [(b, x)])) : CutR s q R b (l ++ [(a, y)] ++ [(b, x)]) (l ++ [(a, y)]) w (.returned (.tuple #[])) (((w.setCell ⟨a, 4, none⟩ (.pointer (adr none))).setCell ⟨q, off s + 1, none⟩ (.pointer (adr (some a)))).setCell ⟨q, off s + 2, none⟩ (.int .i64 ((l.length + 1 : Nat) : Int))) := by
 have hb := h.ne (b, x) (by simp)
 have ha := h.ne (a, y) (by simp)
 obtain ⟨hl, _, hnd, _⟩ := nodup_mid h.nd
 rw [List.append_nil] at hnd
 have hab := hl (a, y) (by simp)
 have hal := nodup_last hnd
 have hsg : Sg w none (l ++ [(a, y)]) (some b) := h.mid.1
 have hql : ∀ m ∈ l ++ [(a, y)], m.1 ≠ q := fun m hm => h.ne m (List.mem_append_left _ hm)
 have hq := h.hq
 rw [hd_app, hd_app] at hq
 refine ⟨rfl, ⟨?_, ?_, hnd⟩, ?_, (((Tn.refl _ w).set (.inl (fn (m := (a, y)) (by simp))) _).set (.inl fq) _).set (.inl fq) _⟩
 · rw [lst_snoc, List.length_append, hd_app]
   exact Hd.s2 (Hd.s1 (hq.keep (Below.heap_setCell _ _ _ _ (by exact fun e => ha e.symm))) _) _
 · exact Sg.other (Sg.other (Sg.next hsg hal none) hql) hql
 · rw [Below.heap_setCell _ _ _ _ hb, Below.heap_setCell _ _ _ _ hb, Below.heap_setCell _ _ _ _ (by exact fun e => hab e.symm)]
theorem CutR.midst {a c : Nat} {y z : Wt} {l r : Ns} (h : LQ w s q R (l ++ [(a, y)] ++ (b, x) :: (c, z) :: r)) : CutR s q R b (l ++ [(a, y)] ++ (b, x) :: (c, z) :: r) (l ++ [(a, y)] ++ (c, z) :: r) w (.returned (.tuple #[])) (((w.setCell ⟨a, 4, none⟩ (.pointer (adr (some c)))).setCell ⟨c, 3, none⟩ (.pointer (adr (some a)))).setCell ⟨q, off s + 2, none⟩ (.int .i64 (((l ++ [(a, y)] ++ (c, z) :: r).length : Nat) : Int))) := by
 have hb := h.ne (b, x) (by simp)
 have ha := h.ne (a, y) (by simp)
 have hc := h.ne (c, z) (by simp)
 obtain ⟨hl, hr, hnd, hx⟩ := nodup_mid h.nd
 have hab := hl (a, y) (by simp)
 have hcb := hr (c, z) (by simp)
 have hal := nodup_last (nodup_app hnd).1
 have hcr := (nodup_mid (l := []) (nodup_app hnd).2).2.1
 obtain ⟨s1, _, s2⟩ := h.mid
 have hql : ∀ m ∈ l ++ [(a, y)], m.1 ≠ q := fun m hm => h.ne m (List.mem_append_left _ hm)
 have hqr : ∀ m ∈ (c, z) :: r, m.1 ≠ q := fun m hm => h.ne m (List.mem_append_right _ (List.mem_cons_of_mem _ hm))
 have hq := h.hq
 rw [hd_app, hd_app, lst_app] at hq
 refine ⟨rfl, ⟨?_, ?_, hnd⟩, ?_, (((Tn.refl _ w).set (.inl (fn (m := (a, y)) (by simp))) _).set (.inl (fn (m := (c, z)) (by simp))) _).set (.inl fq) _⟩
 · rw [hd_app, hd_app, lst_app]
   exact Hd.s2 ((hq.keep (Below.heap_setCell _ _ _ _ (by exact fun e => ha e.symm))).keep (Below.heap_setCell _ _ _ _ (by exact fun e => hc e.symm))) _
 · refine Sg.other ((Sg.app _ _ _ _).2 ⟨?_, ?_⟩) (fun m hm => ?_)
   · exact Sg.other (Sg.next s1 hal (some c)) (fun m hm => hx m hm (c, z) (by simp))
   · rw [lst_snoc]
     exact Sg.prev (Sg.other s2 (fun m hm e => hx (a, y) (by simp) m hm e.symm)) hcr (some a)
   · rcases List.mem_append.1 hm with hm | hm
     · exact hql m hm
     · exact hqr m hm
 · rw [Below.heap_setCell _ _ _ _ hb, Below.heap_setCell _ _ _ _ (by exact fun e => hcb e.symm), Below.heap_setCell _ _ _ _ (by exact fun e => hab e.symm)]
end
end Go.Proofs.YtdpapnfjpefhkaaGreat.Ch
namespace Go.Proofs.YtdpapnfjpefhkaaGreat.Ch
open Go.RowKit
set_option linter.unusedVariables false
set_option maxRecDepth 100000
section
variable {w : World} {s : Bool} {R : Rs} {q b : Nat} {x : Wt}
theorem cut_one (h : LQ w s q R [(b, x)]) : Calls Tryz.prog 124 #[.pointer (some ⟨q, off s, none⟩), .pointer (some ⟨b, 0, none⟩)] w (CutR s q R b [(b, x)] [] w) := by
 have HE := Lib.hid (CutR.one h)
 have hne := h.ne (b, x) (by simp)
 have hN := h.sg.1
 have n3 := hN.c3
 have n4 := hN.c4
 have q2 : w.cell? ⟨q, off s + 2, none⟩ = some (.int .i64 1) := h.hq.c2
 have q0 := h.hq.c0
 have q1 := h.hq.c1
 have f0 := h.hq.fz (off s)
 have f1 := h.hq.fz (off s + 1)
 have f2 := h.hq.fz (off s + 2)
 simp only [hd, lst, adr_none, adr_some] at n3 n4 q0 q1
 clear h hN
 cases s
 all_goals
  simp only [off, Nat.reduceAdd] at *
  go_enter Tryz.func124, Tryz.ntmps124
  go_wp2
  go_end0
  exact HE.out
theorem cut_first {c : Nat} {z : Wt} {r : Ns} (h : LQ w s q R ((b, x) :: (c, z) :: r)) (hl : r.length ≤ 1000000) : Calls Tryz.prog 124 #[.pointer (some ⟨q, off s, none⟩), .pointer (some ⟨b, 0, none⟩)] w (CutR s q R b (((b, x) :: (c, z) :: r)) ((c, z) :: r) w) := by
 have HE := Lib.hid (CutR.first h)
 have hne := h.ne (b, x) (by simp)
 have hnc := h.ne (c, z) (by simp)
 have hbc := (nodup_mid (l := []) h.nd).2.1 (c, z) (by simp)
 have hN := h.sg.1
 have hC := h.sg.2.1
 have n3 := hN.c3
 have n4 := hN.c4
 have c3 := hC.c3
 have fc := hC.fz 3
 have q2 : w.cell? ⟨q, off s + 2, none⟩ = some (.int .i64 ((r.length : Int) + 1 + 1)) := h.hq.c2
 have q0 := h.hq.c0
 have f0 := h.hq.fz (off s)
 have f2 := h.hq.fz (off s + 2)
 simp only [hd, adr_none, adr_some] at n3 n4 q0 c3 hne hnc hbc
 clear h hN hC
 cases s
 all_goals
  simp only [off, Nat.reduceAdd] at *
  go_enter Tryz.func124, Tryz.ntmps124
  go_wp2_with fail
  go_region
  go_wp2
  go_end0
  exact HE.out.draw rfl rfl rfl rfl
theorem cut_last {a : Nat} {y : Wt} {l : Ns} (h : LQ w s q R (l ++ [(a, y)] ++ [(b, x)])) (hl : l.length ≤ 1000000) : Calls Tryz.prog 124 #[.pointer (some ⟨q, off s, none⟩), .pointer (some ⟨b, 0, none⟩)] w (CutR s q R b (l ++ [(a, y)] ++ [(b, x)]) (l ++ [(a, y)]) w) := by
 have HE := Lib.hid (CutR.last h)
 have hne := h.ne (b, x) (by simp)
 have hna := h.ne (a, y) (by simp)
 have hab := (nodup_mid h.nd).1 (a, y) (by simp)
 obtain ⟨s1, hN, _⟩ := h.mid
 have hA := ((Sg.app _ _ _ _).1 s1).2.1
 rw [lst_snoc] at hN
 have n3 := hN.c3
 have n4 := hN.c4
 have a4 := hA.c4
 have fa := hA.fz 4
 have q2 : w.cell? ⟨q, off s + 2, none⟩ = some (.int .i64 ((l.length : Int) + 1 + 1)) := by have := h.hq.c2; rw [this]; simp; omega
 have q1 := h.hq.c1
 rw [lst_snoc] at q1
 have f1 := h.hq.fz (off s + 1)
 have f2 := h.hq.fz (off s + 2)
 simp only [hd, adr_none, adr_some] at n3 n4 q1 a4 hne hna hab
 clear h hN hA s1
 cases s
 all_goals
  simp only [off, Nat.reduceAdd] at *
  go_enter Tryz.func124, Tryz.ntmps124
  go_wp2_with fail
  go_region
  go_wp2
  go_end0
  exact HE.out.draw rfl rfl rfl rfl
theorem cut_midst {a c : Nat} {y z : Wt} {l r : Ns} (h : LQ w s q R (l ++ [(a, y)] ++ (b, x) :: (c, z) :: r)) (hl : l.length ≤ 1000000) (hr : r.length ≤ 1000000) : Calls Tryz.prog 124 #[.pointer (some ⟨q, off s, none⟩), .pointer (some ⟨b, 0, none⟩)] w (CutR s q R b (l ++ [(a, y)] ++ (b, x) :: (c, z) :: r) (l ++ [(a, y)] ++ (c, z) :: r) w) := by
 have HE := CutR.midst h
 rw [show (((l ++ [(a, y)] ++ (c, z) :: r).length : Nat) : Int) = (l.length : Int) + (r.length : Int) + 2 from by simp; omega] at HE
 replace HE := Lib.hid HE
 have hne := h.ne (b, x) (by simp)
 have hna := h.ne (a, y) (by simp)
 have hnc := h.ne (c, z) (by simp)
 obtain ⟨hL, hR, _, hX⟩ := nodup_mid h.nd
 have hab := hL (a, y) (by simp)
 have hcb := hR (c, z) (by simp)
 have hac := hX (a, y) (by simp) (c, z) (by simp)
 obtain ⟨s1, hN, s2⟩ := h.mid
 have hA := ((Sg.app _ _ _ _).1 s1).2.1
 have hC := s2.1
 rw [lst_snoc] at hN
 have n3 := hN.c3
 have n4 := hN.c4
 have a4 := hA.c4
 have fa := hA.fz 4
 have c3 := hC.c3
 have fc := hC.fz 3
 have q2 : w.cell? ⟨q, off s + 2, none⟩ = some (.int .i64 ((l.length : Int) + (r.length : Int) + 3)) := by
  have := h.hq.c2
  rw [this, show (((l ++ [(a, y)] ++ (b, x) :: (c, z) :: r).length : Nat) : Int) = (l.length : Int) + (r.length : Int) + 3 from by simp; omega]
 have f2 := h.hq.fz (off s + 2)
 simp only [hd, adr_some] at n3 n4 a4 c3 hne hna hab hnc hcb hac
 have k1 : (0 : Int) ≤ (l.length : Int) + (r.length : Int) := by omega
 have k2 : (l.length : Int) + (r.length : Int) ≤ 2000000 := by omega
 have k3 : (l.length : Int) + (r.length : Int) + 3 - 1 = (l.length : Int) + (r.length : Int) + 2 := by omega
 clear h hN hA hC s1 s2 hL hR hX
 cases s
 all_goals
  simp only [off, Nat.reduceAdd] at *
  go_enter Tryz.func124, Tryz.ntmps124
  go_wp2_with fail
  go_region
  go_wp2_with fail
  go_region
  go_wp2
  go_end0
  exact HE.out.draw rfl rfl rfl rfl
end
theorem snoc_cases (l : Ns) : l = [] ∨ ∃ l0 a y, l = l0 ++ [(a, y)] := by
 rcases l.eq_nil_or_concat with h | ⟨l0, ⟨a, y⟩, h⟩
 · exact .inl h
 · exact .inr ⟨l0, a, y, by rw [h, List.concat_eq_append]⟩
theorem cut_any {w : World} {s : Bool} {R : Rs} {q b : Nat} {x : Wt} {l r : Ns} (h : LQ w s q R (l ++ (b, x) :: r)) (hl : l.length ≤ 1000000) (hr : r.length ≤ 1000000) : Calls Tryz.prog 124 #[.pointer (some ⟨q, off s, none⟩), .pointer (some ⟨b, 0, none⟩)] w (CutR s q R b (l ++ (b, x) :: r) (l ++ r) w) := by
 rcases snoc_cases l with rfl | ⟨l0, a, y, rfl⟩
 · cases r with
   | nil => exact cut_one h
   | cons cz r => exact cut_first h (by simp at hr; omega)
 · cases r with
   | nil => rw [List.append_nil]; exact cut_last h (by simp at hl; omega)
   | cons cz r => exact cut_midst h (by simp at hl; omega) (by simp at hr; omega)
end Go.Proofs.YtdpapnfjpefhkaaGreat.Ch
namespace Go.Proofs.YtdpapnfjpefhkaaGreat.Ch
open Go.RowKit
set_option linter.unusedVariables false
set_option maxRecDepth 100000
def PushR (s : Bool) (q : Nat) (R : Rs) (ns : Ns) (x : Wt) (w : World) (e : Ending) (w' : World) : Prop := e = .returned (.int .i64 ((ns.length : Int) + 1)) ∧ ∃ b, w.heap.size ≤ b ∧ LQ w' s q R (ns ++ [(b, x)]) ∧ Tn (qF q ns) w w'
theorem PushR.draw {s : Bool} {q : Nat} {R : Rs} {ns : Ns} {x : Wt} {w w' w'' : World} {e : Ending} (h : PushR s q R ns x w e w') (hh : w''.heap = w'.heap) (h1 : w''.os = w'.os) (h2 : w''.tape = w'.tape) (h3 : w''.output = w'.output) : PushR s q R ns x w e w'' := by
 obtain ⟨e, b, h4, h5, h6⟩ := h
 exact ⟨e, b, h4, h5.keep (fun k _ => by rw [hh]), h6.draws hh h1 h2 h3⟩
section
variable {w : World} {s : Bool} {q : Nat} {R : Rs}
theorem two_al (w : World) (o o2 : Obj) : Below w.heap.size w ((w.alloc o).alloc o2) := (below_al w o).alloc (by simp) o2
theorem nd_new (w : World) (o : Obj) (x : Wt) (p : Option Nat) : Nd ((w.alloc o).alloc (.cells #[.int .i64 x.t, .int .i64 x.c, .int .i64 x.v, .pointer (adr p), .pointer none] 221)) (w.heap.size + 1) x p none := by
 have := heap_alloc_new (w.alloc o) (.cells #[.int .i64 x.t, .int .i64 x.c, .int .i64 x.v, .pointer (adr p), .pointer none] 221)
 rw [World.size_alloc] at this
 exact this
theorem PushR.one (h : LQ w s q R []) (o : Obj) (x : Wt) :
  PushR s q R [] x w (.returned (.int .i64 1)) (((((w.alloc o).alloc (.cells #[.int .i64 x.t, .int .i64 x.c, .int .i64 x.v, .pointer (adr none), .pointer none] 221)).setCell ⟨q, off s, none⟩ (.pointer (adr (some (w.heap.size + 1))))).setCell ⟨q, off s + 1, none⟩ (.pointer (adr (some (w.heap.size + 1))))).setCell ⟨q, off s + 2, none⟩ (.int .i64 1)) := by
 have hb := two_al w o (.cells #[.int .i64 x.t, .int .i64 x.c, .int .i64 x.v, .pointer (adr none), .pointer none] 221)
 have hN := nd_new w o x none
 have h2 := h.later hb
 have hq := h.lt.1
 have hne : w.heap.size + 1 ≠ q := by omega
 refine ⟨rfl, w.heap.size + 1, by omega, ⟨?_, ⟨?_, trivial⟩, by simp⟩, ?_⟩
 · exact ((h2.hq.s0 _).s1 _).s2 1
 · exact ((hN.keep (Below.heap_setCell _ _ _ _ hne)).keep (Below.heap_setCell _ _ _ _ hne)).keep (Below.heap_setCell _ _ _ _ hne)
 · exact (((Tn.of_below hb).set (.inl fq) _).set (.inl fq) _).set (.inl fq) _
theorem PushR.more {ns : Ns} {a : Nat} {y : Wt} (h : LQ w s q R (ns ++ [(a, y)])) (o : Obj) (x : Wt) :
  PushR s q R (ns ++ [(a, y)]) x w (.returned (.int .i64 ((ns.length : Int) + 2))) (((((w.alloc o).alloc (.cells #[.int .i64 x.t, .int .i64 x.c, .int .i64 x.v, .pointer (adr (some a)), .pointer none] 221)).setCell ⟨a, 4, none⟩ (.pointer (adr (some (w.heap.size + 1))))).setCell ⟨q, off s + 1, none⟩ (.pointer (adr (some (w.heap.size + 1))))).setCell ⟨q, off s + 2, none⟩ (.int .i64 ((ns.length : Int) + 2))) := by
 have hb := two_al w o (.cells #[.int .i64 x.t, .int .i64 x.c, .int .i64 x.v, .pointer (adr (some a)), .pointer none] 221)
 have hN := nd_new w o x (some a)
 have h2 := h.later hb
 obtain ⟨hq, hs⟩ := h.lt
 have hne : w.heap.size + 1 ≠ q := by omega
 have hna := h.ne (a, y) (by simp)
 have hsa := hs (a, y) (by simp)
 simp only at hna hsa
 have hql : ∀ m ∈ ns ++ [(a, y)], m.1 ≠ q := h.ne
 have e2 : (((ns ++ [(a, y)] ++ [(w.heap.size + 1, x)]).length : Nat) : Int) = (ns.length : Int) + 2 := by simp
 refine ⟨ret_int (by simp; omega), w.heap.size + 1, by omega, ⟨?_, ?_, ?_⟩, ?_⟩
 · have hQ := h2.hq
   rw [hd_app] at hQ
   rw [hd_app, hd_app, lst_snoc]
   have hQ2 := Hd.s2 (Hd.s1 (hQ.keep (Below.heap_setCell _ ⟨a, 4, none⟩ (.pointer (adr (some (w.heap.size + 1)))) _ (by exact fun e => hna e.symm))) (some (w.heap.size + 1))) (ns ++ [(a, y)] ++ [(w.heap.size + 1, x)]).length
   rw [e2] at hQ2
   exact hQ2
 · refine (Sg.app _ _ _ _).2 ⟨?_, ?_, trivial⟩
   · exact Sg.other (Sg.other (Sg.next h2.sg (nodup_last h.nd) (some (w.heap.size + 1))) hql) hql
   · rw [lst_snoc]
     exact ((hN.keep (Below.heap_setCell _ _ _ _ (by show w.heap.size + 1 ≠ a; omega))).keep (Below.heap_setCell _ _ _ _ hne)).keep (Below.heap_setCell _ _ _ _ hne)
 · rw [List.map_append, List.nodup_append]
   refine ⟨h.nd, by simp, fun c hc d hd' => ?_⟩
   obtain ⟨m, hm, rfl⟩ := List.mem_map.1 hc
   simp at hd'; subst hd'
   have := hs m hm
   omega
 · exact (((Tn.of_below hb).set (.inl (fn (m := (a, y)) (by simp))) _).set (.inl fq) _).set (.inl fq) _
theorem push_one (x : Wt) (h : LQ w s q R []) : Calls Tryz.prog 72 #[.pointer (some ⟨q, off s, none⟩), wG x] w (PushR s q R [] x w) := by
 have hq := h.lt.1
 have HE := PushR.one h (.cells #[.int .i64 x.t, .int .i64 x.c, .int .i64 x.v] 103) x
 repeat rw [World.setCell_alloc_past _ _ _ _ (by first | omega | (simp; omega))] at HE
 replace HE := Lib.hid HE
 have q0 := h.hq.c0
 have q1 := h.hq.c1
 have q2 : w.cell? ⟨q, off s + 2, none⟩ = some (.int .i64 0) := h.hq.c2
 have f0 := h.hq.fz (off s)
 have f1 := h.hq.fz (off s + 1)
 have f2 := h.hq.fz (off s + 2)
 simp only [hd, lst, adr_none] at q0 q1
 unfold wG
 clear h
 cases s
 all_goals
  simp only [off, Nat.reduceAdd] at *
  go_enter Tryz.func72, Tryz.ntmps72
  go_wp2_with fail
  go_region
  go_wp2
  go_ret
  exact HE.out.draw rfl rfl rfl rfl
theorem push_more (x : Wt) {ns : Ns} {a : Nat} {y : Wt} (h : LQ w s q R (ns ++ [(a, y)])) (hl : ns.length ≤ 1000000) : Calls Tryz.prog 72 #[.pointer (some ⟨q, off s, none⟩), wG x] w (PushR s q R (ns ++ [(a, y)]) x w) := by
 have hq := h.lt.1
 have ha := h.lt.2 (a, y) (by simp)
 simp only at ha
 have HE := PushR.more h (.cells #[.int .i64 x.t, .int .i64 x.c, .int .i64 x.v] 103) x
 repeat rw [World.setCell_alloc_past _ _ _ _ (by first | omega | (simp; omega))] at HE
 replace HE := Lib.hid HE
 have hna := h.ne (a, y) (by simp)
 have hA := ((Sg.app _ _ _ _).1 h.sg).2.1
 have a4 := hA.c4
 have fa := hA.fz 4
 have q1 := h.hq.c1
 have q2 : w.cell? ⟨q, off s + 2, none⟩ = some (.int .i64 ((ns.length : Int) + 1)) := by have := h.hq.c2; rw [this]; simp
 rw [lst_snoc] at q1
 have f1 := h.hq.fz (off s + 1)
 have f2 := h.hq.fz (off s + 2)
 simp only [hd, adr_none, adr_some] at q1 a4 hna
 have k1 : (ns.length : Int) + 1 + 1 = (ns.length : Int) + 2 := by omega
 unfold wG
 clear h hA
 cases s
 all_goals
  simp only [off, Nat.reduceAdd] at *
  go_enter Tryz.func72, Tryz.ntmps72
  go_wp2_with fail
  go_region
  go_wp2
  go_ret
  exact HE.out.draw rfl rfl rfl rfl
end
theorem push_any {w : World} {s : Bool} {q : Nat} {R : Rs} {ns : Ns} (x : Wt) (h : LQ w s q R ns) (hl : ns.length ≤ 1000000) : Calls Tryz.prog 72 #[.pointer (some ⟨q, off s, none⟩), wG x] w (PushR s q R ns x w) := by
 rcases snoc_cases ns with rfl | ⟨l0, a, y, rfl⟩
 · exact push_one x h
 · exact push_more x h (by simp at hl; omega)
def PopR (s : Bool) (q : Nat) (R : Rs) (ns ns' : Ns) (x : Wt) (b : Bool) (w : World) (e : Ending) (w' : World) : Prop := e = .returned (.tuple #[wG x, .bool b]) ∧ LQ w' s q R ns' ∧ Tn (qF q ns) w w'
theorem LQ.setN {w : World} {s : Bool} {q : Nat} {R : Rs} {ns : Ns} {g i : Nat} (h : LQ w s q R ns) (hg : ¬ qF q ns g) (v : Value) : LQ (w.setCell ⟨g, i, none⟩ v) s q R ns :=
 h.keep fun k hk => Below.heap_setCell _ _ _ _ (by rintro rfl; exact hg hk)
theorem pop_none {w : World} {s : Bool} {q : Nat} {R : Rs} (h : LQ w s q R []) : Calls Tryz.prog 110 #[.pointer (some ⟨q, off s, none⟩)] w (PopR s q R [] [] ⟨0, 0, 0⟩ false w) := by
 have HR := Lib.hid (h.later (below_al w (.cells #[.int .i64 0, .int .i64 0, .int .i64 0] 103)))
 clear h
 go_enter Tryz.func110, Tryz.ntmps110
 go_wp2_with fail
 refine (head_any HR.out).mono ?_
 rintro e w' ⟨rfl, rfl⟩
 simp only [hd, adr_none]
 go_wp2_with fail
 refine bodyPost_ret (v := .tuple #[wG ⟨0, 0, 0⟩, .bool false]) ?_ rfl ⟨rfl, HR.out, Tn.of_below (below_al _ _)⟩
 rw [results_cell_tmp rfl]; go_simp; rfl
theorem pop_some {w : World} {s : Bool} {q : Nat} {R : Rs} {b : Nat} {x : Wt} {r : Ns} (h : LQ w s q R ((b, x) :: r)) (hl : r.length ≤ 1000000) : Calls Tryz.prog 110 #[.pointer (some ⟨q, off s, none⟩)] w (PopR s q R ((b, x) :: r) r x true w) := by
 have HR := Lib.hid (h.later (below_al w (.cells #[.int .i64 0, .int .i64 0, .int .i64 0] 103)))
 have HB := Lib.hid (fun k hk => h.fl (k := k) hk)
 have hbs := h.lt.2 (b, x) (by simp)
 simp only at hbs
 clear h
 go_enter Tryz.func110, Tryz.ntmps110
 go_wp2_with fail
 refine (head_any HR.out).mono ?_
 rintro e w' ⟨rfl, rfl⟩
 simp only [hd, adr_some]
 go_wp2_with fail
 refine (cut_any (l := []) HR.out (by simp) hl).mono ?_
 rintro e w' ⟨rfl, h2, hb, hf⟩
 have hN : Nd w' b x none (hd r none) := Nd.keep HR.out.sg.1 hb
 have c0 := hN.c0
 have c1 := hN.c1
 have c2 := hN.c2
 have hs := hf.size
 have hnf : ¬ qF q ((b, x) :: r) w.heap.size := fun hk => Nat.lt_irrefl _ (HB.out _ hk)
 have hres : w'.heap[w.heap.size]? = some (.cells #[.int .i64 0, .int .i64 0, .int .i64 0] 103 (0, 0)) := (hf.block _ (by simp) hnf).trans (heap_alloc_new _ _)
 have hne : b ≠ w.heap.size := by omega
 have d0 : w'.cell? ⟨w.heap.size, 0, none⟩ = some (.int .i64 0) := by rw [cell_of_row w' _ 0 _ _ _ hres]; rfl
 have d1 : w'.cell? ⟨w.heap.size, 1, none⟩ = some (.int .i64 0) := by rw [cell_of_row w' _ 1 _ _ _ hres]; rfl
 have d2 : w'.cell? ⟨w.heap.size, 2, none⟩ = some (.int .i64 0) := by rw [cell_of_row w' _ 2 _ _ _ hres]; rfl
 have e0 := frozen_of_row w' w.heap.size 0 _ _ hres
 have e1 := frozen_of_row w' w.heap.size 1 _ _ hres
 have e2 := frozen_of_row w' w.heap.size 2 _ _ hres
 have H2 : Hid (LQ w' s q R r) := h2
 have HF : Hid (Tn (qF q ((b, x) :: r)) w w') := hf.early
 have HN : Hid (¬ qF q r w.heap.size) := fun hk => hnf (qF_sub (fun m hm => List.mem_cons_of_mem _ hm) _ hk)
 clear hres hN h2 hb hf hs HR hnf HB
 go_wp2_with fail
 refine bodyPost_ret (v := .tuple #[wG x, .bool true]) ?_ rfl ⟨rfl, ((H2.out.setN HN.out _).setN HN.out _).setN HN.out _, ((HF.out.set (.inr (Nat.le_refl _)) _).set (.inr (Nat.le_refl _)) _).set (.inr (Nat.le_refl _)) _⟩
 rw [results_cell_tmp rfl]; go_simp; rfl
end Go.Proofs.YtdpapnfjpefhkaaGreat.Ch
namespace Go.Proofs.YtdpapnfjpefhkaaGreat.Ch
open Go.RowKit
set_option linter.unusedVariables false
set_option maxRecDepth 100000
def isT (t : Int) (x : Wt) : Bool := x.t == t
def kp (t : Int) (ns : Ns) : Ns := ns.filter fun m => !isT t m.2
def ct (t : Int) (ns : Ns) : Nat := ns.countP fun m => isT t m.2
end Go.Proofs.YtdpapnfjpefhkaaGreat.Ch
