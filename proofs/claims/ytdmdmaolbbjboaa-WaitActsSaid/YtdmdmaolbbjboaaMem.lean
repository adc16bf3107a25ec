/- Who waits, in memory: links both ways, told as a list of blocks and waits; what carries it. No condition. -/
import Derived.Test.YtdmdmaolbbjboaaChecked
import Derived.WalkKit
import Derived.Below
import Derived.Laws.OwnMore
import Derived.Deep.AppendLies
import Derived.Laws.Rows
import Derived.Laws.BitsAllLaws
import Derived.Lib.Hide
import Derived.Outline
import Derived.BigQuiet
import Derived.Deep.QuietTactic
import Derived.Deep.RegionWith
import Derived.Deep.RegionLaw
import Derived.ArgAppend
namespace Go.Proofs.Ytdmdmaolbbjboaa
open Go.RowKit
set_option linter.unusedVariables false

/-- One who waits: task, case, value. -/
structure Wt where
  t : Int
  c : Int
  v : Int
def wV (x : Wt) : List Value := [.int .i64 x.t, .int .i64 x.c, .int .i64 x.v]
theorem wV_len (x : Wt) : (wV x).length = 3 := rfl
def wG (x : Wt) : Value := .agg #[.int .i64 x.t, .int .i64 x.c, .int .i64 x.v]

/-- A row of links: the block of each, and who waits there. -/
abbrev Ns := List (Nat × Wt)
def adr (o : Option Nat) : Option Addr := o.map fun b => ⟨b, 0, none⟩
theorem adr_none : adr none = none := rfl
theorem adr_some (b : Nat) : adr (some b) = some ⟨b, 0, none⟩ := rfl
def hd : Ns → Option Nat → Option Nat
  | [], n => n
  | (b, _) :: _, _ => some b
def lst : Ns → Option Nat → Option Nat
  | [], p => p
  | (b, _) :: r, _ => lst r (some b)
theorem hd_app (l r : Ns) (n : Option Nat) : hd (l ++ r) n = hd l (hd r n) := by cases l <;> rfl
theorem lst_app : ∀ (l r : Ns) (p : Option Nat), lst (l ++ r) p = lst r (lst l p)
  | [], r, p => rfl
  | (b, x) :: l, r, p => by simp only [List.cons_append, lst]; exact lst_app l r (some b)

def Nd (w : World) (b : Nat) (x : Wt) (p n : Option Nat) : Prop := w.heap[b]? = some (.cells #[.int .i64 x.t, .int .i64 x.c, .int .i64 x.v, .pointer (adr p), .pointer (adr n)] 50 (0, 0))
def Hd (w : World) (q : Nat) (f l : Option Nat) (n : Nat) : Prop := w.heap[q]? = some (.cells #[.pointer (adr f), .pointer (adr l), .int .i64 n] 48 (0, 0))
/-- Links in a row: p ahead of the first one, n behind the last one. -/
def Sg (w : World) : Option Nat → Ns → Option Nat → Prop
  | _, [], _ => True
  | p, (b, x) :: r, n => Nd w b x p (hd r n) ∧ Sg w (some b) r n

theorem cell_blk {w w' : World} {b : Nat} (h : w'.heap[b]? = w.heap[b]?) (i : Nat) : w'.cell? ⟨b, i, none⟩ = w.cell? ⟨b, i, none⟩ := World.cell?_of_block (a := ⟨b, i, none⟩) h
theorem below_al (w : World) (o : Obj) : Below w.heap.size w (w.alloc o) := (Below.refl _ _).alloc (Nat.le_refl _) _
theorem below_drewN {B : Nat} {a w : World} (h : Below B a w) (n : Nat) : Below B a (w.drewN n) := ⟨h.os, h.tape, h.output, h.size, h.block⟩
theorem lt_of_blk {w : World} {b : Nat} {o : Obj} (h : w.heap[b]? = some o) : b < w.heap.size := (Array.getElem?_eq_some_iff.1 h).1
theorem size_set (w : World) (a : Addr) (u : Value) : (w.setCell a u).heap.size = w.heap.size := by simp [World.setCell]

theorem Sg.app {w : World} : ∀ (l r : Ns) (p n : Option Nat), Sg w p (l ++ r) n ↔ Sg w p l (hd r n) ∧ Sg w (lst l p) r n
  | [], r, p, n => by simp [Sg, lst]
  | (b, x) :: l, r, p, n => by
    simp only [List.cons_append, Sg, lst, hd_app, Sg.app l r (some b) n]
    exact and_assoc.symm
theorem Sg.keep {w w' : World} : ∀ (l : Ns) (p n : Option Nat), (∀ m ∈ l, w'.heap[m.1]? = w.heap[m.1]?) → Sg w p l n → Sg w' p l n
  | [], _, _, _, _ => trivial
  | (b, x) :: l, p, n, h, hs => ⟨by unfold Nd; rw [h (b, x) (List.mem_cons_self ..)]; exact hs.1, Sg.keep l _ _ (fun m hm => h m (List.mem_cons_of_mem _ hm)) hs.2⟩
theorem Sg.tag {w : World} : ∀ (l : Ns) (p n : Option Nat), Sg w p l n → ∀ m ∈ l, ∃ cs, w.heap[m.1]? = some (.cells cs 50 (0, 0))
  | [], _, _, _, m, hm => by simp at hm
  | (b, x) :: l, p, n, hs, m, hm => by
    rcases List.mem_cons.1 hm with rfl | hm
    · exact ⟨_, hs.1⟩
    · exact Sg.tag l _ _ hs.2 m hm
theorem Nd.c0 {w : World} {b : Nat} {x : Wt} {p n : Option Nat} (h : Nd w b x p n) : w.cell? ⟨b, 0, none⟩ = some (.int .i64 x.t) := by rw [cell_of_row w b 0 _ _ _ h]; rfl
theorem Nd.c1 {w : World} {b : Nat} {x : Wt} {p n : Option Nat} (h : Nd w b x p n) : w.cell? ⟨b, 1, none⟩ = some (.int .i64 x.c) := by rw [cell_of_row w b 1 _ _ _ h]; rfl
theorem Nd.c2 {w : World} {b : Nat} {x : Wt} {p n : Option Nat} (h : Nd w b x p n) : w.cell? ⟨b, 2, none⟩ = some (.int .i64 x.v) := by rw [cell_of_row w b 2 _ _ _ h]; rfl
theorem Nd.c3 {w : World} {b : Nat} {x : Wt} {p n : Option Nat} (h : Nd w b x p n) : w.cell? ⟨b, 3, none⟩ = some (.pointer (adr p)) := by rw [cell_of_row w b 3 _ _ _ h]; rfl
theorem Nd.c4 {w : World} {b : Nat} {x : Wt} {p n : Option Nat} (h : Nd w b x p n) : w.cell? ⟨b, 4, none⟩ = some (.pointer (adr n)) := by rw [cell_of_row w b 4 _ _ _ h]; rfl
theorem Nd.fz {w : World} {b : Nat} {x : Wt} {p n : Option Nat} (h : Nd w b x p n) (i : Nat) : w.frozen? ⟨b, i, none⟩ = false := frozen_of_row w b i _ _ h
theorem Nd.next {w : World} {b : Nat} {x : Wt} {p n : Option Nat} (h : Nd w b x p n) (m : Option Nat) : Nd (w.setCell ⟨b, 4, none⟩ (.pointer (adr m))) b x p m := by unfold Nd; rw [heap_setCell_same w b 4 _ _ _ h]; rfl
theorem Nd.prev {w : World} {b : Nat} {x : Wt} {p n : Option Nat} (h : Nd w b x p n) (m : Option Nat) : Nd (w.setCell ⟨b, 3, none⟩ (.pointer (adr m))) b x m n := by unfold Nd; rw [heap_setCell_same w b 3 _ _ _ h]; rfl
theorem Hd.c0 {w : World} {q n : Nat} {f l : Option Nat} (h : Hd w q f l n) : w.cell? ⟨q, 0, none⟩ = some (.pointer (adr f)) := by rw [cell_of_row w q 0 _ _ _ h]; rfl
theorem Hd.c1 {w : World} {q n : Nat} {f l : Option Nat} (h : Hd w q f l n) : w.cell? ⟨q, 1, none⟩ = some (.pointer (adr l)) := by rw [cell_of_row w q 1 _ _ _ h]; rfl
theorem Hd.c2 {w : World} {q n : Nat} {f l : Option Nat} (h : Hd w q f l n) : w.cell? ⟨q, 2, none⟩ = some (.int .i64 n) := by rw [cell_of_row w q 2 _ _ _ h]; rfl
theorem Hd.fz {w : World} {q n : Nat} {f l : Option Nat} (h : Hd w q f l n) (i : Nat) : w.frozen? ⟨q, i, none⟩ = false := frozen_of_row w q i _ _ h
theorem Hd.s0 {w : World} {q n : Nat} {f l : Option Nat} (h : Hd w q f l n) (m : Option Nat) : Hd (w.setCell ⟨q, 0, none⟩ (.pointer (adr m))) q m l n := by unfold Hd; rw [heap_setCell_same w q 0 _ _ _ h]; rfl
theorem Hd.s1 {w : World} {q n : Nat} {f l : Option Nat} (h : Hd w q f l n) (m : Option Nat) : Hd (w.setCell ⟨q, 1, none⟩ (.pointer (adr m))) q f m n := by unfold Hd; rw [heap_setCell_same w q 1 _ _ _ h]; rfl
theorem Hd.s2 {w : World} {q n : Nat} {f l : Option Nat} (h : Hd w q f l n) (m : Nat) : Hd (w.setCell ⟨q, 2, none⟩ (.int .i64 m)) q f l m := by unfold Hd; rw [heap_setCell_same w q 2 _ _ _ h]; rfl
theorem Hd.keep {w w' : World} {q n : Nat} {f l : Option Nat} (h : Hd w q f l n) (e : w'.heap[q]? = w.heap[q]?) : Hd w' q f l n := by unfold Hd; rw [e]; exact h
theorem Nd.keep {w w' : World} {b : Nat} {x : Wt} {p n : Option Nat} (h : Nd w b x p n) (e : w'.heap[b]? = w.heap[b]?) : Nd w' b x p n := by unfold Nd; rw [e]; exact h

/-- The link of the last one turned. -/
theorem Sg.next {w : World} {l : Ns} {a : Nat} {y : Wt} {p n : Option Nat} (h : Sg w p (l ++ [(a, y)]) n) (ha : ∀ m ∈ l, m.1 ≠ a) (m : Option Nat) : Sg (w.setCell ⟨a, 4, none⟩ (.pointer (adr m))) p (l ++ [(a, y)]) m := by
  rw [Sg.app] at h ⊢
  refine ⟨Sg.keep _ _ _ (fun k hk => Below.heap_setCell _ _ _ _ (ha k hk)) h.1, ?_, trivial⟩
  exact Nd.next h.2.1 m
theorem Sg.prev {w : World} {r : Ns} {c : Nat} {z : Wt} {p n : Option Nat} (h : Sg w p ((c, z) :: r) n) (hc : ∀ m ∈ r, m.1 ≠ c) (m : Option Nat) : Sg (w.setCell ⟨c, 3, none⟩ (.pointer (adr m))) m ((c, z) :: r) n :=
  ⟨Nd.prev h.1 m, Sg.keep _ _ _ (fun k hk => Below.heap_setCell _ _ _ _ (hc k hk)) h.2⟩
theorem Sg.other {w : World} {l : Ns} {p n : Option Nat} {b i : Nat} {v : Value} (h : Sg w p l n) (hb : ∀ m ∈ l, m.1 ≠ b) : Sg (w.setCell ⟨b, i, none⟩ v) p l n :=
  Sg.keep _ _ _ (fun k hk => Below.heap_setCell _ _ _ _ (hb k hk)) h

/-- Block q is a Queue, its links ns, all from block B on. -/
structure LQ (w : World) (B q : Nat) (ns : Ns) : Prop where
  hq : Hd w q (hd ns none) (lst ns none) ns.length
  sg : Sg w none ns none
  nd : (ns.map (·.1)).Nodup
  lo : B ≤ q ∧ ∀ m ∈ ns, B ≤ m.1
/-- Block q is a Queue of those who wait, l. -/
def QL (w : World) (B q : Nat) (l : List Wt) : Prop := ∃ ns : Ns, LQ w B q ns ∧ ns.map (·.2) = l

/-- A block of a Queue's kind, or of a link's. -/
def IsQ (w : World) (k : Nat) : Prop := ∃ cs t, w.heap[k]? = some (.cells cs t (0, 0)) ∧ (t = 48 ∨ t = 50)
theorem LQ.isq {w : World} {B q : Nat} {ns : Ns} (h : LQ w B q ns) : IsQ w q := ⟨_, _, h.hq, .inl rfl⟩
theorem LQ.isn {w : World} {B q : Nat} {ns : Ns} (h : LQ w B q ns) : ∀ m ∈ ns, IsQ w m.1 := fun m hm => by
  obtain ⟨cs, hc⟩ := Sg.tag _ _ _ h.sg m hm
  exact ⟨cs, 50, hc, .inr rfl⟩
theorem LQ.ne {w : World} {B q : Nat} {ns : Ns} (h : LQ w B q ns) : ∀ m ∈ ns, m.1 ≠ q := fun m hm e => by
  obtain ⟨cs, hc⟩ := Sg.tag _ _ _ h.sg m hm
  have := h.hq
  unfold Hd at this
  rw [e, this] at hc
  simp at hc
theorem LQ.keep {w w' : World} {B q : Nat} {ns : Ns} (h : LQ w B q ns) (k : ∀ b, B ≤ b → IsQ w b → w'.heap[b]? = w.heap[b]?) : LQ w' B q ns :=
  ⟨h.hq.keep (k q h.lo.1 h.isq), Sg.keep _ _ _ (fun m hm => k _ (h.lo.2 m hm) (h.isn m hm)) h.sg, h.nd, h.lo⟩
theorem QL.keep {w w' : World} {B q : Nat} {l : List Wt} (h : QL w B q l) (k : ∀ b, B ≤ b → IsQ w b → w'.heap[b]? = w.heap[b]?) : QL w' B q l := by
  obtain ⟨ns, h, e⟩ := h; exact ⟨ns, h.keep k, e⟩
theorem isq_lt {w : World} {k : Nat} (h : IsQ w k) : k < w.heap.size := by obtain ⟨_, _, h, _⟩ := h; exact lt_of_blk h
theorem LQ.later {w w' : World} {B q : Nat} {ns : Ns} (h : LQ w B q ns) (hb : Below w.heap.size w w') : LQ w' B q ns := h.keep fun b _ k => hb.block b (isq_lt k)
theorem QL.later {w w' : World} {B q : Nat} {l : List Wt} (h : QL w B q l) (hb : Below w.heap.size w w') : QL w' B q l := h.keep fun b _ k => hb.block b (isq_lt k)
theorem LQ.lt {w : World} {B q : Nat} {ns : Ns} (h : LQ w B q ns) : B < w.heap.size := by have := h.lo.1; have := isq_lt h.isq; omega
theorem QL.lt {w : World} {B q : Nat} {l : List Wt} (h : QL w B q l) : B < w.heap.size := by obtain ⟨ns, h, _⟩ := h; exact h.lt
theorem QL.of {w : World} {B q : Nat} {ns : Ns} (h : LQ w B q ns) : QL w B q (ns.map (·.2)) := ⟨ns, h, rfl⟩

/-- Nothing has turned but new blocks, and from block B on those of a Queue's kind and a link's. -/
structure Fr (B : Nat) (w w' : World) : Prop where
  os : w'.os = w.os
  tape : w'.tape = w.tape
  output : w'.output = w.output
  size : w.heap.size ≤ w'.heap.size
  block : ∀ k, k < w.heap.size → (k < B ∨ ¬ IsQ w k) → w'.heap[k]? = w.heap[k]?
theorem Fr.refl (B : Nat) (w : World) : Fr B w w := ⟨rfl, rfl, rfl, Nat.le_refl _, fun _ _ _ => rfl⟩
theorem Fr.of_below {B : Nat} {w w' : World} (h : Below w.heap.size w w') : Fr B w w' := ⟨h.os, h.tape, h.output, h.size, fun k hk _ => h.block k hk⟩
theorem Fr.trans {B : Nat} {u v w : World} (h : Fr B u v) (k : Fr B v w) : Fr B u w :=
  ⟨k.os.trans h.os, k.tape.trans h.tape, k.output.trans h.output, Nat.le_trans h.size k.size, fun i hi hn => by
    have e := h.block i hi hn
    rw [← e]
    refine k.block i (by have := h.size; omega) (hn.imp id fun hn hq => hn ?_)
    obtain ⟨cs, t, h1, h2⟩ := hq
    exact ⟨cs, t, by rw [← e]; exact h1, h2⟩⟩
theorem isq_set {w : World} {k : Nat} (h : IsQ w k) (a : Nat) (i : Nat) (v : Value) : IsQ (w.setCell ⟨a, i, none⟩ v) k := by
  obtain ⟨cs, t, h1, h2⟩ := h
  by_cases e : k = a
  · subst e
    exact ⟨_, t, heap_setCell_same w k i _ _ _ h1, h2⟩
  · exact ⟨cs, t, by rw [Below.heap_setCell _ _ _ _ e]; exact h1, h2⟩
theorem Fr.set {B b i : Nat} {u w : World} (h : Fr B u w) (hB : B ≤ b) (hq : IsQ w b) (v : Value) : Fr B u (w.setCell ⟨b, i, none⟩ v) :=
  h.trans ⟨rfl, rfl, rfl, by rw [size_set]; exact Nat.le_refl _, fun k _ hn => Below.heap_setCell _ _ _ _ (by rintro rfl; rcases hn with h1 | h1; omega; exact h1 hq)⟩
theorem Fr.below {B : Nat} {w w' : World} (h : Fr B w w') (hB : B ≤ w.heap.size) : Below B w w' := ⟨h.os, h.tape, h.output, h.size, fun k hk => h.block k (by omega) (.inl hk)⟩

def BoolR (b : Bool) (w : World) (e : Ending) (w' : World) : Prop := e = .returned (.bool b) ∧ Below w.heap.size w w'
theorem ret_bool {a b : Bool} (h : a = b) : Ending.returned (.bool a) = .returned (.bool b) := by rw [h]
theorem ret_int {k : IntKind} {a b : Int} (h : a = b) : Ending.returned (.int k a) = .returned (.int k b) := by rw [h]
end Go.Proofs.Ytdmdmaolbbjboaa
