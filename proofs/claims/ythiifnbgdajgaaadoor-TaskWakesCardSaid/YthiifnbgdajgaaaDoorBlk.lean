/- A task's cells as one row; rows of blocks read and written at once. No condition. -/
import Derived.Test.YthiifnbgdajgaaaDoorRMem
import Derived.Test.YthiifnbgdajgaaaDoorPMem
import Derived.Deep.MidRow
import Derived.Deep.WholeRow
import Derived.Laws.ResultCell
namespace Go.Proofs.YthiifnbgdajgaaaDoor
open Go.RowKit
set_option linter.unusedVariables false
set_option maxRecDepth 100000

/-- A task's eighteen cells. -/
def tU (p pc st how r0 r1 r2 r3 r4 r5 r6 r7 op a b c : Int) (A : Option Addr) (n cap : Nat) (d : Bool) : Array Value := #[.int .i64 p, .int .i64 pc, .int .i64 st, .int .i64 how, .int .i64 r0, .int .i64 r1, .int .i64 r2, .int .i64 r3, .int .i64 r4, .int .i64 r5, .int .i64 r6, .int .i64 r7, .int .i64 op, .int .i64 a, .int .i64 b, .int .i64 c, .slice A n cap, .bool d]
theorem tU_size (p pc st how r0 r1 r2 r3 r4 r5 r6 r7 op a b c : Int) (A : Option Addr) (n cap : Nat) (d : Bool) : (tU p pc st how r0 r1 r2 r3 r4 r5 r6 r7 op a b c A n cap d).size = 18 := rfl
theorem tU_one (p pc st how r0 r1 r2 r3 r4 r5 r6 r7 op a b c : Int) (A : Option Addr) (n cap : Nat) (d : Bool) : (tU p pc st how r0 r1 r2 r3 r4 r5 r6 r7 op a b c A n cap d).all (·.oneCell') = true := by simp [tU, Value.oneCell']
/-- What it reads as. -/
theorem tU_get : (∀ (p pc st how r0 r1 r2 r3 r4 r5 r6 r7 op a b c : Int) (A : Option Addr) (n cap : Nat) (d : Bool) , (tU p pc st how r0 r1 r2 r3 r4 r5 r6 r7 op a b c A n cap d)[0]? = some (.int .i64 p)) ∧ (∀ (p pc st how r0 r1 r2 r3 r4 r5 r6 r7 op a b c : Int) (A : Option Addr) (n cap : Nat) (d : Bool) , (tU p pc st how r0 r1 r2 r3 r4 r5 r6 r7 op a b c A n cap d)[1]? = some (.int .i64 pc)) ∧ (∀ (p pc st how r0 r1 r2 r3 r4 r5 r6 r7 op a b c : Int) (A : Option Addr) (n cap : Nat) (d : Bool) , (tU p pc st how r0 r1 r2 r3 r4 r5 r6 r7 op a b c A n cap d)[2]? = some (.int .i64 st)) ∧ (∀ (p pc st how r0 r1 r2 r3 r4 r5 r6 r7 op a b c : Int) (A : Option Addr) (n cap : Nat) (d : Bool) , (tU p pc st how r0 r1 r2 r3 r4 r5 r6 r7 op a b c A n cap d)[3]? = some (.int .i64 how)) ∧ (∀ (p pc st how r0 r1 r2 r3 r4 r5 r6 r7 op a b c : Int) (A : Option Addr) (n cap : Nat) (d : Bool) , (tU p pc st how r0 r1 r2 r3 r4 r5 r6 r7 op a b c A n cap d)[4]? = some (.int .i64 r0)) ∧ (∀ (p pc st how r0 r1 r2 r3 r4 r5 r6 r7 op a b c : Int) (A : Option Addr) (n cap : Nat) (d : Bool) , (tU p pc st how r0 r1 r2 r3 r4 r5 r6 r7 op a b c A n cap d)[5]? = some (.int .i64 r1)) ∧ (∀ (p pc st how r0 r1 r2 r3 r4 r5 r6 r7 op a b c : Int) (A : Option Addr) (n cap : Nat) (d : Bool) , (tU p pc st how r0 r1 r2 r3 r4 r5 r6 r7 op a b c A n cap d)[6]? = some (.int .i64 r2)) ∧ (∀ (p pc st how r0 r1 r2 r3 r4 r5 r6 r7 op a b c : Int) (A : Option Addr) (n cap : Nat) (d : Bool) , (tU p pc st how r0 r1 r2 r3 r4 r5 r6 r7 op a b c A n cap d)[7]? = some (.int .i64 r3)) ∧ (∀ (p pc st how r0 r1 r2 r3 r4 r5 r6 r7 op a b c : Int) (A : Option Addr) (n cap : Nat) (d : Bool) , (tU p pc st how r0 r1 r2 r3 r4 r5 r6 r7 op a b c A n cap d)[8]? = some (.int .i64 r4)) ∧ (∀ (p pc st how r0 r1 r2 r3 r4 r5 r6 r7 op a b c : Int) (A : Option Addr) (n cap : Nat) (d : Bool) , (tU p pc st how r0 r1 r2 r3 r4 r5 r6 r7 op a b c A n cap d)[9]? = some (.int .i64 r5)) ∧ (∀ (p pc st how r0 r1 r2 r3 r4 r5 r6 r7 op a b c : Int) (A : Option Addr) (n cap : Nat) (d : Bool) , (tU p pc st how r0 r1 r2 r3 r4 r5 r6 r7 op a b c A n cap d)[10]? = some (.int .i64 r6)) ∧ (∀ (p pc st how r0 r1 r2 r3 r4 r5 r6 r7 op a b c : Int) (A : Option Addr) (n cap : Nat) (d : Bool) , (tU p pc st how r0 r1 r2 r3 r4 r5 r6 r7 op a b c A n cap d)[11]? = some (.int .i64 r7)) ∧ (∀ (p pc st how r0 r1 r2 r3 r4 r5 r6 r7 op a b c : Int) (A : Option Addr) (n cap : Nat) (d : Bool) , (tU p pc st how r0 r1 r2 r3 r4 r5 r6 r7 op a b c A n cap d)[12]? = some (.int .i64 op)) ∧ (∀ (p pc st how r0 r1 r2 r3 r4 r5 r6 r7 op a b c : Int) (A : Option Addr) (n cap : Nat) (d : Bool) , (tU p pc st how r0 r1 r2 r3 r4 r5 r6 r7 op a b c A n cap d)[13]? = some (.int .i64 a)) ∧ (∀ (p pc st how r0 r1 r2 r3 r4 r5 r6 r7 op a b c : Int) (A : Option Addr) (n cap : Nat) (d : Bool) , (tU p pc st how r0 r1 r2 r3 r4 r5 r6 r7 op a b c A n cap d)[14]? = some (.int .i64 b)) ∧ (∀ (p pc st how r0 r1 r2 r3 r4 r5 r6 r7 op a b c : Int) (A : Option Addr) (n cap : Nat) (d : Bool) , (tU p pc st how r0 r1 r2 r3 r4 r5 r6 r7 op a b c A n cap d)[15]? = some (.int .i64 c)) ∧ (∀ (p pc st how r0 r1 r2 r3 r4 r5 r6 r7 op a b c : Int) (A : Option Addr) (n cap : Nat) (d : Bool) , (tU p pc st how r0 r1 r2 r3 r4 r5 r6 r7 op a b c A n cap d)[16]? = some (.slice A n cap)) ∧ (∀ (p pc st how r0 r1 r2 r3 r4 r5 r6 r7 op a b c : Int) (A : Option Addr) (n cap : Nat) (d : Bool) , (tU p pc st how r0 r1 r2 r3 r4 r5 r6 r7 op a b c A n cap d)[17]? = some (.bool d)) :=
  ⟨by intros; rfl, by intros; rfl, by intros; rfl, by intros; rfl, by intros; rfl, by intros; rfl, by intros; rfl, by intros; rfl, by intros; rfl, by intros; rfl, by intros; rfl, by intros; rfl, by intros; rfl, by intros; rfl, by intros; rfl, by intros; rfl, by intros; rfl, by intros; rfl⟩
/-- What a store makes of it. -/
theorem tU_set : (∀ (p pc st how r0 r1 r2 r3 r4 r5 r6 r7 op a b c : Int) (A : Option Addr) (n cap : Nat) (d : Bool) (z : Int), (tU p pc st how r0 r1 r2 r3 r4 r5 r6 r7 op a b c A n cap d).setIfInBounds 0 (.int .i64 z) = tU z pc st how r0 r1 r2 r3 r4 r5 r6 r7 op a b c A n cap d) ∧ (∀ (p pc st how r0 r1 r2 r3 r4 r5 r6 r7 op a b c : Int) (A : Option Addr) (n cap : Nat) (d : Bool) (z : Int), (tU p pc st how r0 r1 r2 r3 r4 r5 r6 r7 op a b c A n cap d).setIfInBounds 1 (.int .i64 z) = tU p z st how r0 r1 r2 r3 r4 r5 r6 r7 op a b c A n cap d) ∧ (∀ (p pc st how r0 r1 r2 r3 r4 r5 r6 r7 op a b c : Int) (A : Option Addr) (n cap : Nat) (d : Bool) (z : Int), (tU p pc st how r0 r1 r2 r3 r4 r5 r6 r7 op a b c A n cap d).setIfInBounds 2 (.int .i64 z) = tU p pc z how r0 r1 r2 r3 r4 r5 r6 r7 op a b c A n cap d) ∧ (∀ (p pc st how r0 r1 r2 r3 r4 r5 r6 r7 op a b c : Int) (A : Option Addr) (n cap : Nat) (d : Bool) (z : Int), (tU p pc st how r0 r1 r2 r3 r4 r5 r6 r7 op a b c A n cap d).setIfInBounds 3 (.int .i64 z) = tU p pc st z r0 r1 r2 r3 r4 r5 r6 r7 op a b c A n cap d) ∧ (∀ (p pc st how r0 r1 r2 r3 r4 r5 r6 r7 op a b c : Int) (A : Option Addr) (n cap : Nat) (d : Bool) (z : Int), (tU p pc st how r0 r1 r2 r3 r4 r5 r6 r7 op a b c A n cap d).setIfInBounds 4 (.int .i64 z) = tU p pc st how z r1 r2 r3 r4 r5 r6 r7 op a b c A n cap d) ∧ (∀ (p pc st how r0 r1 r2 r3 r4 r5 r6 r7 op a b c : Int) (A : Option Addr) (n cap : Nat) (d : Bool) (z : Int), (tU p pc st how r0 r1 r2 r3 r4 r5 r6 r7 op a b c A n cap d).setIfInBounds 5 (.int .i64 z) = tU p pc st how r0 z r2 r3 r4 r5 r6 r7 op a b c A n cap d) ∧ (∀ (p pc st how r0 r1 r2 r3 r4 r5 r6 r7 op a b c : Int) (A : Option Addr) (n cap : Nat) (d : Bool) (z : Int), (tU p pc st how r0 r1 r2 r3 r4 r5 r6 r7 op a b c A n cap d).setIfInBounds 6 (.int .i64 z) = tU p pc st how r0 r1 z r3 r4 r5 r6 r7 op a b c A n cap d) ∧ (∀ (p pc st how r0 r1 r2 r3 r4 r5 r6 r7 op a b c : Int) (A : Option Addr) (n cap : Nat) (d : Bool) (z : Int), (tU p pc st how r0 r1 r2 r3 r4 r5 r6 r7 op a b c A n cap d).setIfInBounds 7 (.int .i64 z) = tU p pc st how r0 r1 r2 z r4 r5 r6 r7 op a b c A n cap d) ∧ (∀ (p pc st how r0 r1 r2 r3 r4 r5 r6 r7 op a b c : Int) (A : Option Addr) (n cap : Nat) (d : Bool) (z : Int), (tU p pc st how r0 r1 r2 r3 r4 r5 r6 r7 op a b c A n cap d).setIfInBounds 8 (.int .i64 z) = tU p pc st how r0 r1 r2 r3 z r5 r6 r7 op a b c A n cap d) ∧ (∀ (p pc st how r0 r1 r2 r3 r4 r5 r6 r7 op a b c : Int) (A : Option Addr) (n cap : Nat) (d : Bool) (z : Int), (tU p pc st how r0 r1 r2 r3 r4 r5 r6 r7 op a b c A n cap d).setIfInBounds 9 (.int .i64 z) = tU p pc st how r0 r1 r2 r3 r4 z r6 r7 op a b c A n cap d) ∧ (∀ (p pc st how r0 r1 r2 r3 r4 r5 r6 r7 op a b c : Int) (A : Option Addr) (n cap : Nat) (d : Bool) (z : Int), (tU p pc st how r0 r1 r2 r3 r4 r5 r6 r7 op a b c A n cap d).setIfInBounds 10 (.int .i64 z) = tU p pc st how r0 r1 r2 r3 r4 r5 z r7 op a b c A n cap d) ∧ (∀ (p pc st how r0 r1 r2 r3 r4 r5 r6 r7 op a b c : Int) (A : Option Addr) (n cap : Nat) (d : Bool) (z : Int), (tU p pc st how r0 r1 r2 r3 r4 r5 r6 r7 op a b c A n cap d).setIfInBounds 11 (.int .i64 z) = tU p pc st how r0 r1 r2 r3 r4 r5 r6 z op a b c A n cap d) ∧ (∀ (p pc st how r0 r1 r2 r3 r4 r5 r6 r7 op a b c : Int) (A : Option Addr) (n cap : Nat) (d : Bool) (z : Int), (tU p pc st how r0 r1 r2 r3 r4 r5 r6 r7 op a b c A n cap d).setIfInBounds 12 (.int .i64 z) = tU p pc st how r0 r1 r2 r3 r4 r5 r6 r7 z a b c A n cap d) ∧ (∀ (p pc st how r0 r1 r2 r3 r4 r5 r6 r7 op a b c : Int) (A : Option Addr) (n cap : Nat) (d : Bool) (z : Int), (tU p pc st how r0 r1 r2 r3 r4 r5 r6 r7 op a b c A n cap d).setIfInBounds 13 (.int .i64 z) = tU p pc st how r0 r1 r2 r3 r4 r5 r6 r7 op z b c A n cap d) ∧ (∀ (p pc st how r0 r1 r2 r3 r4 r5 r6 r7 op a b c : Int) (A : Option Addr) (n cap : Nat) (d : Bool) (z : Int), (tU p pc st how r0 r1 r2 r3 r4 r5 r6 r7 op a b c A n cap d).setIfInBounds 14 (.int .i64 z) = tU p pc st how r0 r1 r2 r3 r4 r5 r6 r7 op a z c A n cap d) ∧ (∀ (p pc st how r0 r1 r2 r3 r4 r5 r6 r7 op a b c : Int) (A : Option Addr) (n cap : Nat) (d : Bool) (z : Int), (tU p pc st how r0 r1 r2 r3 r4 r5 r6 r7 op a b c A n cap d).setIfInBounds 15 (.int .i64 z) = tU p pc st how r0 r1 r2 r3 r4 r5 r6 r7 op a b z A n cap d) ∧ (∀ (p pc st how r0 r1 r2 r3 r4 r5 r6 r7 op a b c : Int) (A : Option Addr) (n cap : Nat) (d : Bool) (B : Option Addr) (m e : Nat), (tU p pc st how r0 r1 r2 r3 r4 r5 r6 r7 op a b c A n cap d).setIfInBounds 16 (.slice B m e) = tU p pc st how r0 r1 r2 r3 r4 r5 r6 r7 op a b c B m e d) ∧ (∀ (p pc st how r0 r1 r2 r3 r4 r5 r6 r7 op a b c : Int) (A : Option Addr) (n cap : Nat) (d : Bool) (z : Bool), (tU p pc st how r0 r1 r2 r3 r4 r5 r6 r7 op a b c A n cap d).setIfInBounds 17 (.bool z) = tU p pc st how r0 r1 r2 r3 r4 r5 r6 r7 op a b c A n cap z) :=
  ⟨by intros; rfl, by intros; rfl, by intros; rfl, by intros; rfl, by intros; rfl, by intros; rfl, by intros; rfl, by intros; rfl, by intros; rfl, by intros; rfl, by intros; rfl, by intros; rfl, by intros; rfl, by intros; rfl, by intros; rfl, by intros; rfl, by intros; rfl, by intros; rfl⟩

/-! A block is just this row. -/
def Bk (w : World) (b T : Nat) (u : Array Value) : Prop := w.heap[b]? = some (.cells u T (0, 0))
section
variable {w w' : World} {b T : Nat} {u u' : Array Value}
theorem Bk.lt (h : Bk w b T u) : b < w.heap.size := lt_of_blk h
theorem Bk.keep (h : Bk w b T u) (e : w'.heap[b]? = w.heap[b]?) : Bk w' b T u := by unfold Bk; rw [e]; exact h
theorem Bk.later (h : Bk w b T u) (hb : Below w.heap.size w w') : Bk w' b T u := h.keep (hb.block _ h.lt)
theorem Bk.drewN (h : Bk w b T u) (q : Nat) : Bk (w.drewN q) b T u := h.keep rfl
theorem Bk.new (w : World) (u : Array Value) (T : Nat) : Bk (w.alloc (.cells u T)) w.heap.size T u := heap_alloc_new _ _
theorem Bk.cell (h : Bk w b T u) (i : Nat) : w.cell? ⟨b, i, none⟩ = u[i]? := cell_of_row w b i _ _ _ h
theorem Bk.fz (h : Bk w b T u) (i : Nat) : w.frozen? ⟨b, i, none⟩ = false := frozen_of_row w b i _ _ h
theorem Bk.set (h : Bk w b T u) (i : Nat) (v : Value) : Bk (w.setCell ⟨b, i, none⟩ v) b T (u.setIfInBounds i v) := by
  unfold Bk; rw [heap_setCell_same _ b i _ _ _ h]
theorem Bk.set_other (h : Bk w b T u) {a i : Nat} (e : b ≠ a) (v : Value) : Bk (w.setCell ⟨a, i, none⟩ v) b T u := h.keep (Below.heap_setCell _ _ _ _ e)
theorem Bk.row (h : Bk w b T u) (u' : Array Value) : Bk (w.setRow b u') b T u' := setRow_heap _ _ _ _ _ _ h
theorem Bk.row_other (h : Bk w b T u) {a : Nat} (e : b ≠ a) (u' : Array Value) : Bk (w.setRow a u') b T u := h.keep (setRow_other _ _ _ _ e)
theorem below_row {B : Nat} (h : Below B w w') {a : Nat} (ha : B ≤ a) (u' : Array Value) : Below B w (w'.setRow a u') := h.trans ⟨rfl, rfl, rfl, by simp [World.setRow], fun k hk => setRow_other _ _ _ _ (by omega)⟩
theorem below_set {B : Nat} (h : Below B w w') {a i : Nat} (ha : B ≤ a) (v : Value) : Below B w (w'.setCell ⟨a, i, none⟩ v) := h.setCell ha v
theorem Bk.range (h : Bk w b T u) : w.rangeAt b 0 u.toList := fun j v hv => by rw [Nat.zero_add, h.cell j]; simpa using hv
end
section
variable {P : Program} {ops : Array Oper} {rest : List Oper} {op : Oper} {a : Act} {w : World} {Q : Exit → Act → World → Prop} {b o T ty : Nat} {u : Array Value} {d : TypeDesc}
theorem run_ldM (hc : w.rangeAt b o u.toList) (hu : P.underlying ty = some d) (hd : d.isRow = true) (hi : (P.info? ty).map (·.size) = some u.size) : (Instr.loadAt ty (.pointer (some ⟨b, o, none⟩))).run P w = .ok (.agg u) w := by
  have h := run_loadAt_mid (P := P) w b o ty u.toList d hc hu hd (by rw [hi]; simp)
  simpa using h
/-- A whole row is read. -/
theorem wp_ldM (hgd : op.guard = none) (x : Operand) (ho : op.op = .load ty x) (hx : a.eval x = .pointer (some ⟨b, o, none⟩)) (hc : w.rangeAt b o u.toList)
    (hu : P.underlying ty = some d) (hd : d.isRow = true) (hi : (P.info? ty).map (·.size) = some u.size) (h : wpList P ops Q rest (a.put op.dst (.agg u)) w) : wpList P ops Q (op :: rest) a w := by
  refine wpList_load_mid hgd ty x ho b o hx u.toList d hc hu hd (by rw [hi]; simp) ?_
  rw [Array.toArray_toList]; exact h
theorem wp_ldB (hgd : op.guard = none) (x : Operand) (ho : op.op = .load ty x) (hx : a.eval x = .pointer (some ⟨b, 0, none⟩)) (hb : Bk w b T u)
    (hu : P.underlying ty = some d) (hd : d.isRow = true) (hi : (P.info? ty).map (·.size) = some u.size) (h : wpList P ops Q rest (a.put op.dst (.agg u)) w) : wpList P ops Q (op :: rest) a w :=
  wp_ldM hgd x ho hx hb.range hu hd hi h
/-- .. and written. -/
theorem wp_stB {v : Array Value} (hgd : op.guard = none) (x y : Operand) (ho : op.op = .store ty x y) (hx : a.eval x = .pointer (some ⟨b, 0, none⟩)) (hy : a.eval y = .agg v) (hb : Bk w b T u)
    (hs : u.size = v.size) (hi : (P.info? ty).map (·.size) = some v.size) (h1 : v.all (·.oneCell') = true) (h : wpList P ops Q rest (a.put op.dst undef) (w.setRow b v)) : wpList P ops Q (op :: rest) a w := by
  refine wpList_plain hgd fun K hK => ?_
  unfold Oper.wp execOp
  simp only [ho, hx, hy, Instr.storeAt, Instr.sureAddr, Sem.run_bind, Sem.run_pure, Result.andThen_ok, run_storeVar_row (P := P) w b T ty u v hb hi hs h1]
  exact hK _ _ h
theorem wp_stN {v : Array Value} (hgd : op.guard = none) (x y : Operand) (ho : op.op = .store ty x y) (hx : a.eval x = .pointer (some ⟨w.heap.size, 0, none⟩)) (hy : a.eval y = .agg v)
    (hs : u.size = v.size) (hi : (P.info? ty).map (·.size) = some v.size) (h1 : v.all (·.oneCell') = true) (h : wpList P ops Q rest (a.put op.dst undef) (w.alloc (.cells v T))) : wpList P ops Q (op :: rest) a (w.alloc (.cells u T)) := by
  refine wp_stB hgd x y ho hx hy (Bk.new w u T) hs hi h1 ?_
  rw [World.setRow_alloc_new]; exact h
theorem res_cell {fn : Func} {p q : Tmp} (hf : fn.results = #[.cell p ty, .tmp q]) (tmps : Array Value) (hp : tmps.getD p undef = .pointer (some ⟨b, 0, none⟩)) (hb : Bk w b T u)
    (hu : P.underlying ty = some d) (hd : d.isRow = true) (hi : (P.info? ty).map (·.size) = some u.size) : (results fn tmps).run P w = .ok (.tuple #[.agg u, tmps.getD q undef]) w := by
  rw [results_cell_tmp hf, hp]
  simp only [asAddr, Sem.run_pure, Result.andThen_ok]
  rw [run_loadVar_row (P := P) w b T ty u (0, 0) d hb hu (by cases d <;> simp_all [TypeDesc.isRow]) hi]
  rfl
end
/-! Many cells of a block written. -/
theorem Bk.sets {w : World} {b T : Nat} : ∀ (vs : List Value) (o : Nat) (w : World) (u : Array Value), Bk w b T u → Bk (w.setCells b o vs) b T (vs.foldl (fun (x : Array Value × Nat) v => (x.1.setIfInBounds x.2 v, x.2 + 1)) (u, o)).1
  | [], o, w, u, h => h
  | v :: vs, o, w, u, h => Bk.sets (w := w) vs (o + 1) _ _ (h.set o v)
theorem Bk.sets_other {w : World} {b a T : Nat} {u : Array Value} (h : Bk w b T u) (e : b ≠ a) (vs : List Value) (o : Nat) : Bk (w.setCells a o vs) b T u := h.keep ((set_os vs o w).2.2.2.2 b e)
theorem below_sets {B : Nat} {w w' : World} (h : Below B w w') {a : Nat} (ha : B ≤ a) (vs : List Value) (o : Nat) : Below B w (w'.setCells a o vs) := by
  obtain ⟨k1, k2, k3, k4, k5⟩ := set_os (g := a) vs o w'
  exact h.trans ⟨k1, k2, k3, Nat.le_of_eq k4.symm, fun k hk => k5 k (by omega)⟩
theorem Bk.there {w : World} {b T o n : Nat} {u : Array Value} (h : Bk w b T u) (hn : o + n ≤ u.size) : w.there b o n := fun j hj => by
  refine ⟨?_, h.fz _⟩
  rw [h.cell, Array.getElem?_eq_getElem (by omega)]; rfl
section
variable {p pc st how r0 r1 r2 r3 r4 r5 r6 r7 op a b c : Int} {A : Option Addr} {n cap : Nat} {d : Bool} {w : World}
theorem build_slice : (Instr.buildSlice 74 1 #[(0, .agg (tU p pc st how r0 r1 r2 r3 r4 r5 r6 r7 op a b c A n cap d))]).run Tryd.prog w = .ok (.slice (some ⟨w.heap.size, 0, none⟩) 1 1) (w.alloc (.cells (tU p pc st how r0 r1 r2 r3 r4 r5 r6 r7 op a b c A n cap d) 47)) := by kernel_rfl
theorem build_task : (Instr.build 47 #[(0, .int .i64 p), (4, .agg #[.int .i64 r0, .int .i64 r1, .int .i64 r2, .int .i64 r3, .int .i64 r4, .int .i64 r5, .int .i64 r6, .int .i64 r7]), (2, .int .i64 0)]).run Tryd.prog w = .ok (.agg (tU p 0 0 0 r0 r1 r2 r3 r4 r5 r6 r7 0 0 0 0 none 0 0 false)) w := by kernel_rfl
theorem build_zero : (Instr.build 47 #[]).run Tryd.prog w = .ok (.agg (tU 0 0 0 0 0 0 0 0 0 0 0 0 0 0 0 0 none 0 0 false)) w := by kernel_rfl
theorem build_instr : (Instr.build 34 #[]).run Tryd.prog w = .ok (.agg #[.int .i64 0, .int .i64 0, .int .i64 0, .int .i64 0, .slice none 0 0, .bool false]) w := by kernel_rfl
end
theorem i47 : (Tryd.prog.info? 47).map (·.size) = some 18 := by kernel_rfl
theorem i30 : (Tryd.prog.info? 30).map (·.size) = some 8 := by kernel_rfl
theorem i34 : (Tryd.prog.info? 34).map (·.size) = some 6 := by kernel_rfl
end Go.Proofs.YthiifnbgdajgaaaDoor
