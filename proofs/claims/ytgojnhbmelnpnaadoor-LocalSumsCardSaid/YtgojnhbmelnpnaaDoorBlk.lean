/- Rows of blocks read and written at once; eight registers; what came of an instruction. No condition. -/
import Derived.Test.YtgojnhbmelnpnaaDoorPChk
import Derived.Deep.MidRow
import Derived.Deep.WholeRow
import Derived.Laws.ResultCell
import Derived.Laws.Tables
import Derived.Deep.RegionHeld3
import Derived.Deep.RegionLaw
import Derived.Deep.Cut
import Derived.StillTailTactics
namespace Go.Proofs.YtgojnhbmelnpnaaDoor.Pg
open Go.RowKit
set_option linter.unusedVariables false
set_option maxRecDepth 100000

theorem below_drewN (w : World) (q : Nat) : Below w.heap.size w (w.drewN q) := ⟨rfl, rfl, rfl, Nat.le_refl _, fun _ _ => rfl⟩
theorem lt_of_blk {w : World} {b : Nat} {o : Obj} (h : w.heap[b]? = some o) : b < w.heap.size := (Array.getElem?_eq_some_iff.1 h).1
theorem set_os {g : Nat} : ∀ (vs : List Value) (o : Nat) (w : World), (w.setCells g o vs).os = w.os ∧ (w.setCells g o vs).tape = w.tape ∧ (w.setCells g o vs).output = w.output ∧ (w.setCells g o vs).heap.size = w.heap.size ∧ ∀ k, k ≠ g → (w.setCells g o vs).heap[k]? = w.heap[k]?
  | [], o, w => ⟨rfl, rfl, rfl, rfl, fun _ _ => rfl⟩
  | v :: vs, o, w => by
    obtain ⟨h1, h2, h3, h4, h5⟩ := set_os (g := g) vs (o + 1) (w.setCell ⟨g, o, none⟩ v)
    exact ⟨h1, h2, h3, h4.trans (by simp [World.setCell]), fun k hk => (h5 k hk).trans (Below.heap_setCell _ _ _ _ hk)⟩
/-! A block is just this row. -/
def Bk (w : World) (b T : Nat) (u : Array Value) : Prop := w.heap[b]? = some (.cells u T (0, 0))
section
variable {w w' : World} {b T : Nat} {u u' : Array Value}
theorem Bk.lt (h : Bk w b T u) : b < w.heap.size := lt_of_blk h
theorem Bk.keep (h : Bk w b T u) (e : w'.heap[b]? = w.heap[b]?) : Bk w' b T u := by unfold Bk; rw [e]; exact h
theorem Bk.later (h : Bk w b T u) (hb : Below w.heap.size w w') : Bk w' b T u := h.keep (hb.block _ h.lt)
theorem Bk.drewN (h : Bk w b T u) (q : Nat) : Bk (w.drewN q) b T u := h.keep rfl
theorem Bk.new (w : World) (u : Array Value) (T : Nat) : Bk (w.alloc (.cells u T)) w.heap.size T u := heap_alloc_new _ _
theorem Bk.cell (h : Bk w b T u) (i : Nat) : w.cell? ⟨b, i, none⟩ = u[i]? := cell_of_row w b i _ _ _ h
theorem Bk.fz (h : Bk w b T u) (i : Nat) : w.frozen? ⟨b, i, none⟩ = false := frozen_of_row w b i _ _ h
theorem Bk.set (h : Bk w b T u) (i : Nat) (v : Value) : Bk (w.setCell ⟨b, i, none⟩ v) b T (u.setIfInBounds i v) := by
  unfold Bk; rw [heap_setCell_same _ b i _ _ _ h]
theorem Bk.set_other (h : Bk w b T u) {a i : Nat} (e : b ≠ a) (v : Value) : Bk (w.setCell ⟨a, i, none⟩ v) b T u := h.keep (Below.heap_setCell _ _ _ _ e)
theorem Bk.row (h : Bk w b T u) (u' : Array Value) : Bk (w.setRow b u') b T u' := setRow_heap _ _ _ _ _ _ h
theorem Bk.row_other (h : Bk w b T u) {a : Nat} (e : b ≠ a) (u' : Array Value) : Bk (w.setRow a u') b T u := h.keep (setRow_other _ _ _ _ e)
theorem below_row {B : Nat} (h : Below B w w') {a : Nat} (ha : B ≤ a) (u' : Array Value) : Below B w (w'.setRow a u') := h.trans ⟨rfl, rfl, rfl, by simp [World.setRow], fun k hk => setRow_other _ _ _ _ (by omega)⟩
theorem below_set {B : Nat} (h : Below B w w') {a i : Nat} (ha : B ≤ a) (v : Value) : Below B w (w'.setCell ⟨a, i, none⟩ v) := h.setCell ha v
theorem Bk.range (h : Bk w b T u) : w.rangeAt b 0 u.toList := fun j v hv => by rw [Nat.zero_add, h.cell j]; simpa using hv
end
section
variable {P : Program} {ops : Array Oper} {rest : List Oper} {op : Oper} {a : Act} {w : World} {Q : Exit → Act → World → Prop} {b o T ty : Nat} {u : Array Value} {d : TypeDesc}
theorem run_ldM (hc : w.rangeAt b o u.toList) (hu : P.underlying ty = some d) (hd : d.isRow = true) (hi : (P.info? ty).map (·.size) = some u.size) : (Instr.loadAt ty (.pointer (some ⟨b, o, none⟩))).run P w = .ok (.agg u) w := by
  have h := run_loadAt_mid (P := P) w b o ty u.toList d hc hu hd (by rw [hi]; simp)
  simpa using h
/-- A whole row is read. -/
theorem wp_ldM (hgd : op.guard = none) (x : Operand) (ho : op.op = .load ty x) (hx : a.eval x = .pointer (some ⟨b, o, none⟩)) (hc : w.rangeAt b o u.toList)
    (hu : P.underlying ty = some d) (hd : d.isRow = true) (hi : (P.info? ty).map (·.size) = some u.size) (h : wpList P ops Q rest (a.put op.dst (.agg u)) w) : wpList P ops Q (op :: rest) a w := by
  refine wpList_load_mid hgd ty x ho b o hx u.toList d hc hu hd (by rw [hi]; simp) ?_
  rw [Array.toArray_toList]; exact h
theorem wp_ldB (hgd : op.guard = none) (x : Operand) (ho : op.op = .load ty x) (hx : a.eval x = .pointer (some ⟨b, 0, none⟩)) (hb : Bk w b T u)
    (hu : P.underlying ty = some d) (hd : d.isRow = true) (hi : (P.info? ty).map (·.size) = some u.size) (h : wpList P ops Q rest (a.put op.dst (.agg u)) w) : wpList P ops Q (op :: rest) a w :=
  wp_ldM hgd x ho hx hb.range hu hd hi h
/-- .. and written. -/
theorem wp_stB {v : Array Value} (hgd : op.guard = none) (x y : Operand) (ho : op.op = .store ty x y) (hx : a.eval x = .pointer (some ⟨b, 0, none⟩)) (hy : a.eval y = .agg v) (hb : Bk w b T u)
    (hs : u.size = v.size) (hi : (P.info? ty).map (·.size) = some v.size) (h1 : v.all (·.oneCell') = true) (h : wpList P ops Q rest (a.put op.dst undef) (w.setRow b v)) : wpList P ops Q (op :: rest) a w := by
  refine wpList_plain hgd fun K hK => ?_
  unfold Oper.wp execOp
  simp only [ho, hx, hy, Instr.storeAt, Instr.sureAddr, Sem.run_bind, Sem.run_pure, Result.andThen_ok, run_storeVar_row (P := P) w b T ty u v hb hi hs h1]
  exact hK _ _ h
theorem wp_stN {v : Array Value} (hgd : op.guard = none) (x y : Operand) (ho : op.op = .store ty x y) (hx : a.eval x = .pointer (some ⟨w.heap.size, 0, none⟩)) (hy : a.eval y = .agg v)
    (hs : u.size = v.size) (hi : (P.info? ty).map (·.size) = some v.size) (h1 : v.all (·.oneCell') = true) (h : wpList P ops Q rest (a.put op.dst undef) (w.alloc (.cells v T))) : wpList P ops Q (op :: rest) a (w.alloc (.cells u T)) := by
  refine wp_stB hgd x y ho hx hy (Bk.new w u T) hs hi h1 ?_
  rw [World.setRow_alloc_new]; exact h
theorem res_cell {fn : Func} {p q : Tmp} (hf : fn.results = #[.cell p ty, .tmp q]) (tmps : Array Value) (hp : tmps.getD p undef = .pointer (some ⟨b, 0, none⟩)) (hb : Bk w b T u)
    (hu : P.underlying ty = some d) (hd : d.isRow = true) (hi : (P.info? ty).map (·.size) = some u.size) : (results fn tmps).run P w = .ok (.tuple #[.agg u, tmps.getD q undef]) w := by
  rw [results_cell_tmp hf, hp]
  simp only [asAddr, Sem.run_pure, Result.andThen_ok]
  rw [run_loadVar_row (P := P) w b T ty u (0, 0) d hb hu (by cases d <;> simp_all [TypeDesc.isRow]) hi]
  rfl
end
/-! Many cells of a block written. -/
theorem Bk.sets {w : World} {b T : Nat} : ∀ (vs : List Value) (o : Nat) (w : World) (u : Array Value), Bk w b T u → Bk (w.setCells b o vs) b T (vs.foldl (fun (x : Array Value × Nat) v => (x.1.setIfInBounds x.2 v, x.2 + 1)) (u, o)).1
  | [], o, w, u, h => h
  | v :: vs, o, w, u, h => Bk.sets (w := w) vs (o + 1) _ _ (h.set o v)
theorem Bk.sets_other {w : World} {b a T : Nat} {u : Array Value} (h : Bk w b T u) (e : b ≠ a) (vs : List Value) (o : Nat) : Bk (w.setCells a o vs) b T u := h.keep ((set_os vs o w).2.2.2.2 b e)
theorem below_sets {B : Nat} {w w' : World} (h : Below B w w') {a : Nat} (ha : B ≤ a) (vs : List Value) (o : Nat) : Below B w (w'.setCells a o vs) := by
  obtain ⟨k1, k2, k3, k4, k5⟩ := set_os (g := a) vs o w'
  exact h.trans ⟨k1, k2, k3, Nat.le_of_eq k4.symm, fun k hk => k5 k (by omega)⟩
theorem Bk.there {w : World} {b T o n : Nat} {u : Array Value} (h : Bk w b T u) (hn : o + n ≤ u.size) : w.there b o n := fun j hj => by
  refine ⟨?_, h.fz _⟩
  rw [h.cell, Array.getElem?_eq_getElem (by omega)]; rfl
/-- Eight registers. -/
def gR (g : Nat → Int) : Array Value := #[.int .i64 (g 0), .int .i64 (g 1), .int .i64 (g 2), .int .i64 (g 3), .int .i64 (g 4), .int .i64 (g 5), .int .i64 (g 6), .int .i64 (g 7)]
theorem gR_size (g : Nat → Int) : (gR g).size = 8 := rfl
theorem gR_one (g : Nat → Int) : (gR g).all (·.oneCell') = true := by simp [gR, Value.oneCell']
theorem gR_at (g : Nat → Int) {k : Nat} (h : k < 8) : (gR g)[k]? = some (.int .i64 (g k)) := by
  match k, h with
  | 0, _ => rfl
  | 1, _ => rfl
  | 2, _ => rfl
  | 3, _ => rfl
  | 4, _ => rfl
  | 5, _ => rfl
  | 6, _ => rfl
  | 7, _ => rfl
def upd (g : Nat → Int) (k : Nat) (v : Int) (j : Nat) : Int := if j = k then v else g j
theorem gR_set (g : Nat → Int) {k : Nat} (h : k < 8) (v : Int) : (gR g).setIfInBounds k (.int .i64 v) = gR (upd g k v) := by
  match k, h with
  | 0, _ => rfl
  | 1, _ => rfl
  | 2, _ => rfl
  | 3, _ => rfl
  | 4, _ => rfl
  | 5, _ => rfl
  | 6, _ => rfl
  | 7, _ => rfl
section
variable {P : Program} {op : Oper} {a : Act} {w w' : World} {K : Act → World → Prop} {Q : Exit → Act → World → Prop} {b T ty : Nat} {u v : Array Value}
theorem wp_st1 (x y : Operand) (ho : op.op = .store ty x y) (hx : a.eval x = .pointer (some ⟨b, 0, none⟩)) (hy : a.eval y = .agg v) (hb : Bk w b T u)
    (hs : u.size = v.size) (hi : (P.info? ty).map (·.size) = some v.size) (h1 : v.all (·.oneCell') = true) (h : K (a.put op.dst undef) (w.setRow b v)) : op.wp P a w K Q := by
  unfold Oper.wp execOp
  simp only [ho, hx, hy, Instr.storeAt, Instr.sureAddr, Sem.run_bind, Sem.run_pure, Result.andThen_ok, run_storeVar_row (P := P) w b T ty u v hb hi hs h1]
  exact h
theorem wp_stI {ops : Array Oper} {rest : List Oper} {j : Nat} {z : Int} (hgd : op.guard = none) (x y : Operand) (ho : op.op = .store 3 x y) (hx : a.eval x = .pointer (some ⟨b, j, none⟩)) (hy : a.eval y = .int .i64 z) (hb : Bk w b T u) (hj : j < u.size)
    (h : wpList Tryd.prog ops Q rest (a.put op.dst undef) (w.setCell ⟨b, j, none⟩ (.int .i64 z))) : wpList Tryd.prog ops Q (op :: rest) a w := by
  have hc : w.cell? ⟨b, j, none⟩ = some (u[j]'hj) := by rw [hb.cell, Array.getElem?_eq_getElem hj]
  have hf := hb.fz j
  refine wpList_plain hgd fun K hK => ?_
  have hst := run_store Tryd.prog w ⟨b, j, none⟩ (.int .i64 z) .plain rfl
  rw [hc] at hst
  simp only [hf] at hst
  unfold Oper.wp execOp
  simp only [ho, hx, hy, Instr.storeAt, Instr.sureAddr, Sem.run_bind, Sem.run_pure, Result.andThen_ok, storeVar, Tryd.sizeOf3, Value.cells]
  simp [storeCells, hst, Addr.add]
  exact hK _ _ h
end
section
variable {P : Program} {op : Oper} {a : Act} {w w' : World} {K : Act → World → Prop} {Q : Exit → Act → World → Prop} {b T ty : Nat} {u v : Array Value}
theorem wp_stJ {j : Nat} {z : Int} (x y : Operand) (ho : op.op = .store 3 x y) (hx : a.eval x = .pointer (some ⟨b, j, none⟩)) (hy : a.eval y = .int .i64 z) (hb : Bk w b T u) (hj : j < u.size)
    (h : K (a.put op.dst undef) (w.setCell ⟨b, j, none⟩ (.int .i64 z))) : op.wp Tryd.prog a w K Q := by
  have hc : w.cell? ⟨b, j, none⟩ = some (u[j]'hj) := by rw [hb.cell, Array.getElem?_eq_getElem hj]
  have hf := hb.fz j
  have hst := run_store Tryd.prog w ⟨b, j, none⟩ (.int .i64 z) .plain rfl
  rw [hc] at hst
  simp only [hf] at hst
  unfold Oper.wp execOp
  simp only [ho, hx, hy, Instr.storeAt, Instr.sureAddr, Sem.run_bind, Sem.run_pure, Result.andThen_ok, storeVar, Tryd.sizeOf3, Value.cells]
  simp [storeCells, hst, Addr.add]
  exact h
theorem wp_stT {ops : Array Oper} {rest : List Oper} {j : Nat} {z : Bool} (hgd : op.guard = none) (x y : Operand) (ho : op.op = .store 4 x y) (hx : a.eval x = .pointer (some ⟨b, j, none⟩)) (hy : a.eval y = .bool z) (hb : Bk w b T u) (hj : j < u.size)
    (h : wpList Tryd.prog ops Q rest (a.put op.dst undef) (w.setCell ⟨b, j, none⟩ (.bool z))) : wpList Tryd.prog ops Q (op :: rest) a w := by
  have hc : w.cell? ⟨b, j, none⟩ = some (u[j]'hj) := by rw [hb.cell, Array.getElem?_eq_getElem hj]
  have hf := hb.fz j
  refine wpList_plain hgd fun K hK => ?_
  have hst := run_store Tryd.prog w ⟨b, j, none⟩ (.bool z) .plain rfl
  rw [hc] at hst
  simp only [hf] at hst
  unfold Oper.wp execOp
  simp only [ho, hx, hy, Instr.storeAt, Instr.sureAddr, Sem.run_bind, Sem.run_pure, Result.andThen_ok, storeVar, Tryd.sizeOf4, Value.cells]
  simp [storeCells, hst, Addr.add]
  exact hK _ _ h
theorem wp_stU {j : Nat} {z : Bool} (x y : Operand) (ho : op.op = .store 4 x y) (hx : a.eval x = .pointer (some ⟨b, j, none⟩)) (hy : a.eval y = .bool z) (hb : Bk w b T u) (hj : j < u.size)
    (h : K (a.put op.dst undef) (w.setCell ⟨b, j, none⟩ (.bool z))) : op.wp Tryd.prog a w K Q := by
  have hc : w.cell? ⟨b, j, none⟩ = some (u[j]'hj) := by rw [hb.cell, Array.getElem?_eq_getElem hj]
  have hf := hb.fz j
  have hst := run_store Tryd.prog w ⟨b, j, none⟩ (.bool z) .plain rfl
  rw [hc] at hst
  simp only [hf] at hst
  unfold Oper.wp execOp
  simp only [ho, hx, hy, Instr.storeAt, Instr.sureAddr, Sem.run_bind, Sem.run_pure, Result.andThen_ok, storeVar, Tryd.sizeOf4, Value.cells]
  simp [storeCells, hst, Addr.add]
  exact h
end
theorem i23 : (Tryd.prog.info? 23).map (·.size) = some 8 := by kernel_rfl
theorem i28 : (Tryd.prog.info? 28).map (·.size) = some 12 := by kernel_rfl
theorem i32 : (Tryd.prog.info? 32).map (·.size) = some 12 := by kernel_rfl
theorem i39 : (Tryd.prog.info? 39).map (·.size) = some 6 := by kernel_rfl

/-! What came of an instruction. -/
structure Ot where
  pc : Int
  rg : Nat → Int
  told : Bool
  v : Int
  en : Bool
def oR (o : Ot) : Array Value := #[.int .i64 o.pc, .int .i64 (o.rg 0), .int .i64 (o.rg 1), .int .i64 (o.rg 2), .int .i64 (o.rg 3), .int .i64 (o.rg 4), .int .i64 (o.rg 5), .int .i64 (o.rg 6), .int .i64 (o.rg 7), .bool o.told, .int .i64 o.v, .bool o.en]
theorem oR_size (o : Ot) : (oR o).size = 12 := rfl
theorem oR_one (o : Ot) : (oR o).all (·.oneCell') = true := by simp [oR, Value.oneCell']
theorem oR_reg (o : Ot) {k : Nat} (h : k < 8) : (oR o)[1 + k]? = some (.int .i64 (o.rg k)) := by
  match k, h with
  | 0, _ => rfl
  | 1, _ => rfl
  | 2, _ => rfl
  | 3, _ => rfl
  | 4, _ => rfl
  | 5, _ => rfl
  | 6, _ => rfl
  | 7, _ => rfl
theorem oR_put (pc : Int) (g : Nat → Int) (t : Bool) (v : Int) (n : Bool) {k : Nat} (h : k < 8) (z : Int) : (oR ⟨pc, g, t, v, n⟩).setIfInBounds (1 + k) (.int .i64 z) = oR ⟨pc, upd g k z, t, v, n⟩ := by
  match k, h with
  | 0, _ => rfl
  | 1, _ => rfl
  | 2, _ => rfl
  | 3, _ => rfl
  | 4, _ => rfl
  | 5, _ => rfl
  | 6, _ => rfl
  | 7, _ => rfl
abbrev zG : Nat → Int := fun _ => 0
abbrev zO : Ot := ⟨0, zG, false, 0, false⟩
/-- A part of a block. -/
theorem Bk.part {w : World} {b T o n : Nat} {u v : Array Value} (h : Bk w b T u) (hv : v.size = n) (he : ∀ j, j < n → u[o + j]? = v[j]?) : w.rangeAt b o v.toList := by
  intro j x hx
  have hj : j < n := by have := (List.getElem?_eq_some_iff.1 hx).1; simp at this; omega
  rw [h.cell, he j hj]; simpa using hx
theorem regs_part {w : World} {b T : Nat} {o : Ot} (h : Bk w b T (oR o)) : w.rangeAt b 1 (gR o.rg).toList :=
  h.part (n := 8) rfl fun j hj => by rw [oR_reg o hj, gR_at o.rg hj]

/-- The six cells of an instruction. -/
def iW (e : In) : Array Value := #[.int .i64 e.op, .int .i64 e.a, .int .i64 e.b, .int .i64 e.c, .slice e.A e.n e.cap, .bool e.d]
theorem iW_one (e : In) : (iW e).all (·.oneCell') = true := by simp [iW, Value.oneCell']
theorem vI_iW (e : In) : vI e = .agg (iW e) := rfl

/-! Plain mathematics. -/
def mineB (op : Int) : Bool := decide (1 ≤ op ∧ op ≤ 7 ∨ op = 16)
def hd (x : Int) : Int := max (-4611686018427387904) (min x 4611686018427387904)
theorem hd_lo (x : Int) : -4611686018427387904 ≤ hd x := by unfold hd; omega
theorem hd_hi (x : Int) : hd x ≤ 4611686018427387904 := by unfold hd; omega
/-- the sum of two that are held, held -/
def ad (t d : Int) : Int := hd (hd t + hd d)
theorem ad_eq (t d : Int) : ad t d = max (-4611686018427387904) (min (hd t + hd d) 4611686018427387904) := rfl
def nxt (e : In) (pc : Int) (g : Nat → Int) : Int := if e.op = 5 ∧ g e.a.toNat = 0 then e.b else if e.op = 4 then e.a else if e.op = 7 then pc else pc + 1
def wri (e : In) (g : Nat → Int) (now : Int) : Nat → Int :=
  if e.op = 1 then upd g e.a.toNat e.b else if e.op = 2 then upd g e.a.toNat (g e.b.toNat) else if e.op = 3 then upd g e.a.toNat (ad (g e.a.toNat) e.b) else if e.op = 16 then upd g e.a.toNat now else g
/-- What one that is mine makes. -/
def doO (e : In) (pc : Int) (g : Nat → Int) (now : Int) : Ot := ⟨nxt e pc g, wri e g now, decide (e.op = 6), if e.op = 6 then g e.a.toNat else 0, decide (e.op = 7)⟩
/-- What comes of any: and an error. -/
def doX (l : List In) (pc : Int) (g : Nat → Int) (now : Int) : Ot × Int :=
  if checkB l 16 = false ∨ pc < 0 ∨ (l.length : Int) < pc then (zO, 1) else
  match l[pc.toNat]? with
  | none => (⟨pc, g, false, 0, true⟩, 0)
  | some e => if mineB e.op then (doO e pc g now, 0) else (zO, 7)
def DoR (o : Ot) (n : Int) (w : World) (x : Ending) (w' : World) : Prop := x = .returned (.tuple #[.agg (oR o), .int .i64 n]) ∧ Below w.heap.size w w'
def GrR (g : Nat → Int) (w : World) (x : Ending) (w' : World) : Prop := x = .returned (.agg (gR g)) ∧ Below w.heap.size w w'

/-! What an instruction that may be has. -/
theorem may_a {ins : Int} {e : In} (h : mayB ins 16 e = true) (ho : e.op = 1 ∨ e.op = 2 ∨ e.op = 3 ∨ e.op = 5 ∨ e.op = 6 ∨ e.op = 16) : ∃ k : Nat, k < 8 ∧ e.a = (k : Int) := by
  obtain ⟨op, a, b, c, A, n, cap, d, cs⟩ := e
  simp only at ho
  rcases ho with rfl | rfl | rfl | rfl | rfl | rfl <;>
  · simp [mayB, rowI, row, tab, fitsB, mostB] at h
    exact ⟨a.toNat, by omega, by simp; omega⟩
theorem may_b {ins : Int} {e : In} (h : mayB ins 16 e = true) (ho : e.op = 2) : ∃ k : Nat, k < 8 ∧ e.b = (k : Int) := by
  obtain ⟨op, a, b, c, A, n, cap, d, cs⟩ := e
  simp only at ho
  subst ho
  simp [mayB, rowI, row, tab, fitsB, mostB] at h
  exact ⟨b.toNat, by omega, by simp; omega⟩
theorem chk_at {l : List In} {k : Nat} {e : In} (h : checkB l 16 = true) (hk : l[k]? = some e) : mayB l.length 16 e = true := by
  unfold checkB at h
  rw [Bool.and_eq_true, List.all_eq_true] at h
  exact h.2 e (List.mem_of_getElem? hk)
theorem chk_len {l : List In} (h : checkB l 16 = true) : l.length ≤ 100 := by
  unfold checkB at h
  rw [Bool.and_eq_true] at h
  simpa using h.1
end Go.Proofs.YtgojnhbmelnpnaaDoor.Pg
