/- Programs as memory: what a slice of cases, of instructions, of programs reads as; the table of operations; which instructions may be: plain mathematics. No condition. -/
import Derived.Test.YtgojnhbmelnpnaaDoorChecked
import Derived.WalkKit
import Derived.Below
import Derived.Laws.OwnMore
import Derived.Deep.AppendLies
import Derived.Laws.Rows
import Derived.Laws.BitsAllLaws
import Derived.Lib.Hide
import Derived.Outline
import Derived.BigQuiet
import Derived.Deep.QuietTactic
import Derived.Deep.RegionWith
namespace Go.Proofs.YtgojnhbmelnpnaaDoor.Pg
open Go.RowKit
set_option linter.unusedVariables false
set_option maxRecDepth 100000

/-- A slice of n elements, s cells each, reads as the row xs, below block B. -/
def Rd (w : World) (B : Nat) (A : Option Addr) (n s : Nat) (xs : List Value) : Prop :=
  xs.length = n * s ∧ (0 < n → ∃ b off, A = some ⟨b, off, none⟩ ∧ b < B ∧ ∀ j u, xs[j]? = some u → w.cell? ⟨b, off + j, none⟩ = some u)

theorem cell_blk {w w' : World} {b : Nat} (h : w'.heap[b]? = w.heap[b]?) (i : Nat) : w'.cell? ⟨b, i, none⟩ = w.cell? ⟨b, i, none⟩ := World.cell?_of_block (a := ⟨b, i, none⟩) h
theorem Rd.keep {w w' : World} {B B' : Nat} {A : Option Addr} {n s : Nat} {xs : List Value} (h : Rd w B A n s xs) (hB : B ≤ B') (hb : ∀ b, b < B → w'.heap[b]? = w.heap[b]?) : Rd w' B' A n s xs :=
  ⟨h.1, fun h0 => by
    obtain ⟨b, off, e, hl, hc⟩ := h.2 h0
    exact ⟨b, off, e, by omega, fun j u hu => (cell_blk (hb b hl) _).trans (hc j u hu)⟩⟩
theorem Rd.later {w w' : World} {A : Option Addr} {n s : Nat} {xs : List Value} (h : Rd w w.heap.size A n s xs) (hb : Below w.heap.size w w') : Rd w' w'.heap.size A n s xs :=
  h.keep hb.size fun b hl => hb.block b hl
theorem Rd.nil (w : World) (B s : Nat) (A : Option Addr) : Rd w B A 0 s [] := ⟨by simp, fun h => absurd h (by omega)⟩
theorem Rd.of_own {w : World} {base e s n c : Nat} {A : Option Addr} {xs : List Value} (h : w.ownsRow base e s (.slice A n c) n xs) : Rd w w.heap.size A n s xs := by
  refine ⟨h.1, fun hn => ?_⟩
  obtain ⟨g, cap, hv, _, hlt⟩ := h.form hn
  have hA : A = some ⟨g, 0, none⟩ := by injection hv
  subst hA
  exact ⟨g, 0, rfl, hlt, fun j u hu => by rw [Nat.zero_add, h.cellAt j (by rw [← h.1]; exact (List.getElem?_eq_some_iff.1 hu).1)]; exact hu⟩
/-- A row in a new block. -/
theorem Rd.new (w : World) (cs : Array Value) (n s : Nat) (t : TypeId) (h : cs.size = n * s) : Rd (w.alloc (.cells cs t)) (w.alloc (.cells cs t)).heap.size (some ⟨w.heap.size, 0, none⟩) n s cs.toList := by
  refine ⟨by simpa using h, fun _ => ⟨w.heap.size, 0, rfl, by simp, fun j u hu => ?_⟩⟩
  rw [Nat.zero_add, World.cell?_alloc_at _ _ _ _ rfl]
  simpa using hu
theorem below_al (w : World) (o : Obj) : Below w.heap.size w (w.alloc o) := (Below.refl _ _).alloc (Nat.le_refl _) _

theorem flat_len {α : Type} (f : α → List Value) (s : Nat) (hs : ∀ x, (f x).length = s) : ∀ l : List α, (l.flatMap f).length = l.length * s
  | [] => by simp
  | a :: l => by rw [List.flatMap_cons, List.length_append, hs, flat_len f s hs l, List.length_cons]; rw [Nat.add_mul]; omega
theorem flat_at {α : Type} (f : α → List Value) (s : Nat) (hs : ∀ x, (f x).length = s) : ∀ (l : List α) (i : Nat) (x : α), l[i]? = some x → ∀ j, j < s → (l.flatMap f)[i * s + j]? = (f x)[j]?
  | [], i, x, h, _, _ => by simp at h
  | a :: l, 0, x, h, j, hj => by
    simp at h; subst h
    rw [List.flatMap_cons, Nat.zero_mul, Nat.zero_add, List.getElem?_append_left (by rw [hs]; exact hj)]
  | a :: l, i + 1, x, h, j, hj => by
    rw [List.flatMap_cons, List.getElem?_append_right (by rw [hs, Nat.add_mul]; omega), hs, ← flat_at f s hs l i x (by simpa using h) j hj]
    congr 1
    rw [Nat.add_mul]; omega
theorem flat_mem {α : Type} (f : α → List Value) (s : Nat) (hs : ∀ x, (f x).length = s) (h0 : 0 < s) (l : List α) (j : Nat) (u : Value) (hu : (l.flatMap f)[j]? = some u) : ∃ i k x, j = i * s + k ∧ k < s ∧ l[i]? = some x ∧ (f x)[k]? = some u := by
  have hj : j < l.length * s := by rw [← flat_len f s hs]; exact (List.getElem?_eq_some_iff.1 hu).1
  have hi : j / s < l.length := Nat.div_lt_of_lt_mul (by rw [Nat.mul_comm]; exact hj)
  have hk : j % s < s := Nat.mod_lt _ h0
  have ej : j = j / s * s + j % s := by rw [Nat.mul_comm]; exact (Nat.div_add_mod j s).symm
  refine ⟨j / s, j % s, l[j / s]'hi, ej, hk, List.getElem?_eq_getElem hi, ?_⟩
  rw [← flat_at f s hs l _ _ (List.getElem?_eq_getElem hi) _ hk, ← ej]; exact hu
/-- A slice whose elements lie where they say. -/
theorem Rd.mk {α : Type} {f : α → List Value} {w : World} {b off n s : Nat} {l : List α} (hs : ∀ x, (f x).length = s) (h0 : 0 < s) (hn : l.length = n) (hb : b < w.heap.size)
    (h : ∀ i x, l[i]? = some x → ∀ k u, (f x)[k]? = some u → w.cell? ⟨b, off + i * s + k, none⟩ = some u) : Rd w w.heap.size (some ⟨b, off, none⟩) n s (l.flatMap f) := by
  refine ⟨by rw [flat_len f s hs, hn], fun _ => ⟨b, off, rfl, hb, fun j u hu => ?_⟩⟩
  obtain ⟨i, k, x, rfl, _, hx, hk⟩ := flat_mem f s hs h0 l j u hu
  rw [← Nat.add_assoc]
  exact h i x hx k u hk
theorem Rd.at {α : Type} {f : α → List Value} {w : World} {B n s : Nat} {A : Option Addr} {l : List α} (hs : ∀ x, (f x).length = s) (h : Rd w B A n s (l.flatMap f)) (h0 : 0 < n) :
    ∃ b off, A = some ⟨b, off, none⟩ ∧ b < B ∧ ∀ i x, l[i]? = some x → ∀ j, j < s → ∀ u, (f x)[j]? = some u → w.cell? ⟨b, off + i * s + j, none⟩ = some u := by
  obtain ⟨b, off, e, hl, hc⟩ := h.2 h0
  refine ⟨b, off, e, hl, fun i x hx j hj u hu => ?_⟩
  rw [Nat.add_assoc]
  exact hc _ _ ((flat_at f s hs l i x hx j hj).trans hu)

/-- A case: does it send, its channel's register, its value's. -/
structure Ca where
  s : Bool
  ch : Int
  v : Int
def cV (c : Ca) : List Value := [.bool c.s, .int .i64 c.ch, .int .i64 c.v]
theorem cV_len (c : Ca) : (cV c).length = 3 := rfl
/-- An instruction, with the words of its slice of cases. -/
structure In where
  op : Int
  a : Int
  b : Int
  c : Int
  A : Option Addr
  n : Nat
  cap : Nat
  d : Bool
  cs : List Ca
def iV (e : In) : List Value := [.int .i64 e.op, .int .i64 e.a, .int .i64 e.b, .int .i64 e.c, .slice e.A e.n e.cap, .bool e.d]
theorem iV_len (e : In) : (iV e).length = 6 := rfl
/-- A program, with the words of its slice. -/
structure Pr where
  A : Option Addr
  n : Nat
  cap : Nat
  l : List In
def pV (p : Pr) : List Value := [.slice p.A p.n p.cap]
theorem pV_len (p : Pr) : (pV p).length = 1 := rfl

def RdC (w : World) (A : Option Addr) (n : Nat) (cs : List Ca) : Prop := cs.length = n ∧ Rd w w.heap.size A n 3 (cs.flatMap cV)
def In.At (w : World) (e : In) : Prop := e.n ≤ e.cap ∧ e.cap ≤ 9223372036854775807 ∧ RdC w e.A e.n e.cs
def RdI (w : World) (A : Option Addr) (n : Nat) (l : List In) : Prop := l.length = n ∧ Rd w w.heap.size A n 6 (l.flatMap iV) ∧ ∀ e ∈ l, In.At w e
def Pr.At (w : World) (p : Pr) : Prop := p.n ≤ p.cap ∧ p.cap ≤ 9223372036854775807 ∧ RdI w p.A p.n p.l
def RdP (w : World) (A : Option Addr) (n : Nat) (l : List Pr) : Prop := l.length = n ∧ Rd w w.heap.size A n 1 (l.flatMap pV) ∧ ∀ p ∈ l, Pr.At w p
theorem RdC.later {w w' : World} {A : Option Addr} {n : Nat} {l : List Ca} (h : RdC w A n l) (hb : Below w.heap.size w w') : RdC w' A n l := ⟨h.1, h.2.later hb⟩
theorem In.At.later {w w' : World} {e : In} (h : In.At w e) (hb : Below w.heap.size w w') : In.At w' e := ⟨h.1, h.2.1, h.2.2.later hb⟩
theorem RdI.later {w w' : World} {A : Option Addr} {n : Nat} {l : List In} (h : RdI w A n l) (hb : Below w.heap.size w w') : RdI w' A n l := ⟨h.1, h.2.1.later hb, fun e he => (h.2.2 e he).later hb⟩
theorem Pr.At.later {w w' : World} {p : Pr} (h : Pr.At w p) (hb : Below w.heap.size w w') : Pr.At w' p := ⟨h.1, h.2.1, h.2.2.later hb⟩
theorem RdP.later {w w' : World} {A : Option Addr} {n : Nat} {l : List Pr} (h : RdP w A n l) (hb : Below w.heap.size w w') : RdP w' A n l := ⟨h.1, h.2.1.later hb, fun e he => (h.2.2 e he).later hb⟩
theorem RdC.nil (w : World) (A : Option Addr) : RdC w A 0 [] := ⟨rfl, Rd.nil _ _ _ _⟩
theorem RdI.nil (w : World) (A : Option Addr) : RdI w A 0 [] := ⟨rfl, Rd.nil _ _ _ _, fun e he => by simp at he⟩
theorem RdC.cells {w : World} {A : Option Addr} {n : Nat} {l : List Ca} (h : RdC w A n l) (h0 : 0 < n) : ∃ b off, A = some ⟨b, off, none⟩ ∧ b < w.heap.size ∧
    ∀ i c, l[i]? = some c → w.cell? ⟨b, off + i * 3, none⟩ = some (.bool c.s) ∧ w.cell? ⟨b, off + i * 3 + 1, none⟩ = some (.int .i64 c.ch) ∧ w.cell? ⟨b, off + i * 3 + 2, none⟩ = some (.int .i64 c.v) := by
  obtain ⟨b, off, e, hl, hc⟩ := Rd.at cV_len h.2 h0
  exact ⟨b, off, e, hl, fun i x hx => ⟨hc i x hx 0 (by omega) _ rfl, hc i x hx 1 (by omega) _ rfl, hc i x hx 2 (by omega) _ rfl⟩⟩
theorem RdI.cells {w : World} {A : Option Addr} {n : Nat} {l : List In} (h : RdI w A n l) (h0 : 0 < n) : ∃ b off, A = some ⟨b, off, none⟩ ∧ b < w.heap.size ∧
    ∀ i e, l[i]? = some e → w.cell? ⟨b, off + i * 6, none⟩ = some (.int .i64 e.op) ∧ w.cell? ⟨b, off + i * 6 + 1, none⟩ = some (.int .i64 e.a) ∧ w.cell? ⟨b, off + i * 6 + 2, none⟩ = some (.int .i64 e.b) ∧
      w.cell? ⟨b, off + i * 6 + 3, none⟩ = some (.int .i64 e.c) ∧ w.cell? ⟨b, off + i * 6 + 4, none⟩ = some (.slice e.A e.n e.cap) ∧ w.cell? ⟨b, off + i * 6 + 5, none⟩ = some (.bool e.d) := by
  obtain ⟨b, off, e, hl, hc⟩ := Rd.at iV_len h.2.1 h0
  exact ⟨b, off, e, hl, fun i x hx => ⟨hc i x hx 0 (by omega) _ rfl, hc i x hx 1 (by omega) _ rfl, hc i x hx 2 (by omega) _ rfl, hc i x hx 3 (by omega) _ rfl, hc i x hx 4 (by omega) _ rfl, hc i x hx 5 (by omega) _ rfl⟩⟩
theorem RdP.cells {w : World} {A : Option Addr} {n : Nat} {l : List Pr} (h : RdP w A n l) (h0 : 0 < n) : ∃ b off, A = some ⟨b, off, none⟩ ∧ b < w.heap.size ∧
    ∀ i p, l[i]? = some p → w.cell? ⟨b, off + i, none⟩ = some (.slice p.A p.n p.cap) := by
  obtain ⟨b, off, e, hl, hc⟩ := Rd.at pV_len h.2.1 h0
  exact ⟨b, off, e, hl, fun i x hx => by have h := hc i x hx 0 (by omega) _ rfl; rw [Nat.mul_one] at h; exact h⟩
theorem RdC.new (w : World) (l : List Ca) (n : Nat) (cs : Array Value) (t : TypeId) (hn : l.length = n) (h : cs.toList = l.flatMap cV) : RdC (w.alloc (.cells cs t)) (some ⟨w.heap.size, 0, none⟩) n l := by
  refine ⟨hn, ?_⟩
  rw [← h]
  exact Rd.new w cs n 3 t (by rw [← Array.length_toList, h, flat_len cV 3 cV_len, hn])
theorem RdI.new (w : World) (l : List In) (n : Nat) (cs : Array Value) (t : TypeId) (hn : l.length = n) (h : cs.toList = l.flatMap iV) (hat : ∀ e ∈ l, In.At w e) : RdI (w.alloc (.cells cs t)) (some ⟨w.heap.size, 0, none⟩) n l := by
  refine ⟨hn, ?_, fun e he => (hat e he).later (below_al w _)⟩
  rw [← h]
  exact Rd.new w cs n 6 t (by rw [← Array.length_toList, h, flat_len iV 6 iV_len, hn])
theorem RdP.new (w : World) (l : List Pr) (n : Nat) (cs : Array Value) (t : TypeId) (hn : l.length = n) (h : cs.toList = l.flatMap pV) (hat : ∀ e ∈ l, Pr.At w e) : RdP (w.alloc (.cells cs t)) (some ⟨w.heap.size, 0, none⟩) n l := by
  refine ⟨hn, ?_, fun e he => (hat e he).later (below_al w _)⟩
  rw [← h]
  exact Rd.new w cs n 1 t (by rw [← Array.length_toList, h, flat_len pV 1 pV_len, hn])

/-- An operation's form: its name, and what its fields may be. -/
structure Fm where
  nm : List UInt8
  a : Int
  b : Int
  c : Int
def fV (f : Fm) : List Value := [.string ⟨f.nm.toArray⟩, .int .u8 f.a, .int .u8 f.b, .int .u8 f.c]
theorem fV_len (f : Fm) : (fV f).length = 4 := rfl
def tab : List Fm := [⟨[], 0, 0, 0⟩, ⟨[115, 101, 116], 1, 4, 0⟩, ⟨[109, 111, 118, 101], 1, 1, 0⟩, ⟨[105, 110, 99], 1, 4, 0⟩, ⟨[106, 117, 109, 112], 2, 0, 0⟩, ⟨[122, 101, 114, 111], 1, 2, 0⟩, ⟨[101, 109, 105, 116], 1, 0, 0⟩, ⟨[101, 120, 105, 116], 0, 0, 0⟩,
  ⟨[103, 111], 1, 3, 0⟩, ⟨[109, 97, 107, 101], 1, 4, 0⟩, ⟨[115, 101, 110, 100], 1, 1, 0⟩, ⟨[114, 101, 99, 118], 1, 1, 1⟩, ⟨[99, 108, 111, 115, 101], 1, 0, 0⟩, ⟨[108, 101, 110], 1, 1, 0⟩, ⟨[99, 97, 112], 1, 1, 0⟩, ⟨[115, 101, 108, 101, 99, 116], 1, 1, 1⟩,
  ⟨[110, 111, 119], 1, 0, 0⟩, ⟨[110, 101, 119, 116, 105, 109, 101, 114], 1, 1, 1⟩, ⟨[116, 105, 99, 107, 101, 114], 1, 1, 1⟩, ⟨[102, 117, 110, 99], 1, 1, 3⟩, ⟨[115, 116, 111, 112], 1, 1, 0⟩, ⟨[114, 101, 115, 101, 116], 1, 1, 1⟩, ⟨[99, 97, 110, 99, 101, 108, 115], 1, 1, 0⟩,
  ⟨[100, 101, 97, 100, 108, 105, 110, 101], 1, 1, 1⟩, ⟨[116, 105, 109, 101, 111, 117, 116], 1, 1, 1⟩, ⟨[119, 105, 116, 104, 111, 117, 116], 1, 1, 0⟩, ⟨[99, 97, 110, 99, 101, 108], 1, 1, 0⟩, ⟨[101, 114, 114], 1, 1, 0⟩, ⟨[99, 97, 117, 115, 101], 1, 1, 0⟩,
  ⟨[100, 111, 110, 101], 1, 1, 0⟩, ⟨[117, 110, 116, 105, 108], 1, 1, 1⟩, ⟨[97, 102, 116, 101, 114], 1, 1, 3⟩, ⟨[117, 110, 97, 102, 116, 101, 114], 1, 1, 0⟩]
def row (k : Nat) : Fm := tab.getD k ⟨[], 0, 0, 0⟩
/-- The operation's row; none's is empty. -/
def rowI (op : Int) : Fm := if 1 ≤ op ∧ op ≤ 32 then row op.toNat else ⟨[], 0, 0, 0⟩
/-- The table lies in the variable's block. -/
def FT (w : World) : Prop := 0 < w.heap.size ∧ ∀ j u, (tab.flatMap fV)[j]? = some u → w.cell? ⟨0, j, none⟩ = some u
theorem FT.later {w w' : World} (h : FT w) (hb : Below w.heap.size w w') : FT w' :=
  ⟨Nat.lt_of_lt_of_le h.1 hb.size, fun j u hu => (cell_blk (hb.block 0 h.1) j).trans (h.2 j u hu)⟩
theorem FT.cells {w : World} (h : FT w) (k : Nat) (hk : k < 33) : w.cell? ⟨0, k * 4, none⟩ = some (.string ⟨(row k).nm.toArray⟩) ∧ w.cell? ⟨0, k * 4 + 1, none⟩ = some (.int .u8 (row k).a) ∧ w.cell? ⟨0, k * 4 + 2, none⟩ = some (.int .u8 (row k).b) ∧ w.cell? ⟨0, k * 4 + 3, none⟩ = some (.int .u8 (row k).c) := by
  have hr : tab[k]? = some (row k) := by
    have : k < tab.length := hk
    unfold YtgojnhbmelnpnaaDoor.Pg.row
    rw [List.getD_eq_getElem?_getD, List.getElem?_eq_getElem this]
    rfl
  exact ⟨h.2 _ _ (flat_at fV 4 fV_len tab k _ hr 0 (by omega)), h.2 _ _ (flat_at fV 4 fV_len tab k _ hr 1 (by omega)), h.2 _ _ (flat_at fV 4 fV_len tab k _ hr 2 (by omega)), h.2 _ _ (flat_at fV 4 fV_len tab k _ hr 3 (by omega))⟩

/-! Which instructions may be. -/
def mostB (ins pr k : Int) : Int := if k = 1 then 7 else if k = 2 then ins else if k = 3 then pr - 1 else 0
def fitsB (ins pr n k : Int) : Bool := decide (k = 4 ∨ 0 ≤ n ∧ n ≤ mostB ins pr k)
def regB (n : Int) : Bool := decide (0 ≤ n ∧ n ≤ 7)
def caB (c : Ca) : Bool := regB c.ch && (if c.s then regB c.v else decide (c.v = 0))
def casB (e : In) : Bool := if e.op = 15 then decide (e.cs.length ≤ 16) && e.cs.all caB else decide (e.cs.length = 0) && !e.d
def mayB (ins pr : Int) (e : In) : Bool := decide (1 ≤ e.op ∧ e.op ≤ 32) && (fitsB ins pr e.a (rowI e.op).a && (fitsB ins pr e.b (rowI e.op).b && (fitsB ins pr e.c (rowI e.op).c && casB e)))
def checkB (l : List In) (pr : Int) : Bool := decide (l.length ≤ 100) && l.all (mayB l.length pr)
def allB (l : List Pr) : Bool := decide (1 ≤ l.length ∧ l.length ≤ 16) && l.all fun p => checkB p.l l.length

def BoolR (b : Bool) (w : World) (e : Ending) (w' : World) : Prop := e = .returned (.bool b) ∧ Below w.heap.size w w'
def IntR (n : Int) (w : World) (e : Ending) (w' : World) : Prop := e = .returned (.int .i64 n) ∧ Below w.heap.size w w'
theorem ret_bool {a b : Bool} (h : a = b) : Ending.returned (.bool a) = .returned (.bool b) := by rw [h]
abbrev vI (e : In) : Value := .agg #[.int .i64 e.op, .int .i64 e.a, .int .i64 e.b, .int .i64 e.c, .slice e.A e.n e.cap, .bool e.d]
end Go.Proofs.YtgojnhbmelnpnaaDoor.Pg
