/- What concerns others is not done, and what may not be neither: the program's state. Condition: the table of operations lies in its variable. -/
import Derived.Test.YtgojnhbmelnpnaaDoorEqs
namespace Go.Proofs.YtgojnhbmelnpnaaDoor.Pg
open Go.RowKit
set_option linter.unusedVariables false
set_option maxRecDepth 100000

theorem gd28 : Tryd.prog.eqGuardType Tryd.prog.depth 28 = false := by kernel_rfl
theorem gd23 : Tryd.prog.eqGuardType Tryd.prog.depth 23 = false := by kernel_rfl
theorem run_cmp {op : Oper} {a : Act} {w : World} {t : Nat} {u v : Array Value} {r : Bool} (ne : Bool) (x y : Operand) (ho : op.op = .binOp (if ne then .neq else .eql) t x y t) (hx : a.eval x = .agg u) (hy : a.eval y = .agg v) (hg : Tryd.prog.eqGuardType Tryd.prog.depth t = false)
    (q : (Op.equalIn 10000 t (.agg u) (.agg v)).run Tryd.prog w = .ok r w) : (execOp a.eval op).run Tryd.prog w = .ok (.value (.bool (if ne then !r else r))) w := by
  have q' : (Op.equal t (.agg u) (.agg v)).run Tryd.prog w = .ok r w := q
  unfold execOp
  cases ne <;> simp [ho, hx, hy, eqGuard, hg, binOp, q', Result.andThen]
theorem run_ne28 {op : Oper} {a : Act} {w : World} {u : Ot} (x y : Operand) (ho : op.op = .binOp .neq 28 x y 28) (hx : a.eval x = .agg (oR u)) (hy : a.eval y = .agg (oR u)) : (execOp a.eval op).run Tryd.prog w = .ok (.value (.bool false)) w :=
  run_cmp true x y ho hx hy gd28 (eq_out u w)
theorem run_eq28 {op : Oper} {a : Act} {w : World} {u : Ot} (x y : Operand) (ho : op.op = .binOp .eql 28 x y 28) (hx : a.eval x = .agg (oR u)) (hy : a.eval y = .agg (oR u)) : (execOp a.eval op).run Tryd.prog w = .ok (.value (.bool true)) w :=
  run_cmp false x y ho hx hy gd28 (eq_out u w)
theorem run_ne23 {op : Oper} {a : Act} {w : World} {g : Nat → Int} (x y : Operand) (ho : op.op = .binOp .neq 23 x y 23) (hx : a.eval x = .agg (gR g)) (hy : a.eval y = .agg (gR g)) : (execOp a.eval op).run Tryd.prog w = .ok (.value (.bool false)) w :=
  run_cmp true x y ho hx hy gd23 (eq_regs 9998 g w)
theorem run_eq23 {op : Oper} {a : Act} {w : World} {g : Nat → Int} (x y : Operand) (ho : op.op = .binOp .eql 23 x y 23) (hx : a.eval x = .agg (gR g)) (hy : a.eval y = .agg (gR g)) : (execOp a.eval op).run Tryd.prog w = .ok (.value (.bool true)) w :=
  run_cmp false x y ho hx hy gd23 (eq_regs 9998 g w)
theorem chk1 : ∀ k : Fin 32, checkB [pI ((k.val + 1 : Nat) : Int) 0 0 0] 16 = true := by decide +kernel
theorem chk2 : ∀ k : Fin 32, checkB [pI ((k.val + 1 : Nat) : Int) 0 0 0, pI 33 0 0 0] 16 = false := by decide +kernel
theorem bs1 (e : In) (w : World) : (Instr.buildSlice 22 1 #[(0, .agg (iW e))]).run Tryd.prog w = .ok (.slice (some ⟨w.heap.size, 0, none⟩) 1 1) (w.alloc (.cells (iW e) 39)) := by kernel_rfl
theorem bs2 (e f : In) (w : World) : (Instr.buildSlice 22 2 #[(0, .agg (iW e)), (1, .agg (iW f))]).run Tryd.prog w = .ok (.slice (some ⟨w.heap.size, 0, none⟩) 2 2) (w.alloc (.cells (iW e ++ iW f) 39)) := by kernel_rfl
theorem b39 (z : Int) (w : World) : (Instr.build 39 #[(0, .int .i64 z)]).run Tryd.prog w = .ok (.agg (iW (pI z 0 0 0))) w := by kernel_rfl
theorem ex_bs2 {P : Program} {op : Oper} {a : Act} {w w' : World} {u v r : Value} {x y : Operand} {ty n : Nat} (hop : op.op = .buildSlice ty n #[(0, x), (1, y)]) (hx : a.eval x = u) (hy : a.eval y = v) (h : (Instr.buildSlice ty n #[(0, u), (1, v)]).run P w = .ok r w') : (execOp a.eval op).run P w = .ok (.value r) w' := by
  unfold execOp; simp [hop, hx, hy, h, Result.andThen]
theorem rd1 {w : World} (z : Int) : RdI (w.alloc (.cells (iW (pI z 0 0 0)) 39)) (some ⟨w.heap.size, 0, none⟩) 1 [pI z 0 0 0] := RdI.new w [pI z 0 0 0] 1 _ 39 rfl rfl (fun e he => by rw [List.mem_singleton.1 he]; exact pI_at _ _ _ _ _)
theorem rd2 {w : World} (z y : Int) : RdI (w.alloc (.cells (iW (pI z 0 0 0) ++ iW (pI y 0 0 0)) 39)) (some ⟨w.heap.size, 0, none⟩) 2 [pI z 0 0 0, pI y 0 0 0] := RdI.new w [pI z 0 0 0, pI y 0 0 0] 2 _ 39 rfl rfl (fun e he => by
  rcases List.mem_cons.1 he with rfl | he
  · exact pI_at _ _ _ _ _
  · rw [List.mem_singleton.1 he]; exact pI_at _ _ _ _ _)
section
variable {P : Program} {ops : Array Oper} {rest : List Oper} {op : Oper} {a : Act} {w w' : World} {Q : Exit → Act → World → Prop} {b o T ty : Nat} {u : Array Value} {d : TypeDesc}
/-- .. of an operation whose guard says yes. -/
theorem wpl_wrun {v : Value} (h : (execOp a.eval op).run P w = .ok (.value v) w') (hK : wpList P ops Q rest (a.put op.dst v) w') (hw : Region.wanted op (yielded ops a.tmps) = true) : wpList P ops Q (op :: rest) a w :=
  BigFrame.wpList_want hw fun K hK' => wp_run h (hK' _ _ hK)
theorem run_ldB (x : Operand) (ho : op.op = .load ty x) (hx : a.eval x = .pointer (some ⟨b, 0, none⟩)) (hb : Bk w b T u) (hu : P.underlying ty = some d) (hd : d.isRow = true) (hi : (P.info? ty).map (·.size) = some u.size) : (execOp a.eval op).run P w = .ok (.value (.agg u)) w := by
  have h := run_ldM (P := P) hb.range hu hd hi
  unfold execOp
  simp only [ho, hx, h, Sem.run_bind, Sem.run_pure, Result.andThen_ok]
end
/-- The law's registers and its instruction, since W. -/
structure RfS (W : World) (g : Nat → Int) (e : In) (w : World) : Prop where
  ft : FT w
  g : Bk w W.heap.size 23 (gR g)
  i : Bk w (W.heap.size + 1) 39 (iW e)
  bel : Below W.heap.size W w
theorem RfS.new {W : World} (hF : FT W) (g : Nat → Int) (e : In) : RfS W g e ((W.alloc (.cells (gR g) 23)).alloc (.cells (iW e) 39)) := by
  refine ⟨hF.later (two_new _ _ _), (Bk.new W _ 23).later (below_al _ _), ?_, two_new _ _ _⟩
  have h := Bk.new (W.alloc (.cells (gR g) 23)) (iW e) 39
  rw [World.size_alloc] at h; exact h
theorem RfS.later {W w w' : World} {g : Nat → Int} {e : In} (h : RfS W g e w) (hb : Below w.heap.size w w') : RfS W g e w' := ⟨h.ft.later hb, h.g.later hb, h.i.later hb, h.bel.trans (hb.mono h.bel.size)⟩
/-- What the three calls answer. -/
theorem rf_a {k : Nat} (hk : k < 32) (g : Nat → Int) (hm : mineB ((k + 1 : Nat) : Int) = true) : doX [pI ((k + 1 : Nat) : Int) 0 0 0] 0 g 1 = (doO (pI ((k + 1 : Nat) : Int) 0 0 0) 0 g 1, 0) :=
  (doX_at g 1 (chk1 ⟨k, hk⟩) (k := 0) rfl).trans (if_pos hm)
theorem rf_n {k : Nat} (hk : k < 32) (g : Nat → Int) (hm : mineB ((k + 1 : Nat) : Int) = false) : doX [pI ((k + 1 : Nat) : Int) 0 0 0] 0 g 1 = (zO, 7) :=
  (doX_at g 1 (chk1 ⟨k, hk⟩) (k := 0) rfl).trans (if_neg (by rw [hm]; simp))
theorem rf_b {k : Nat} (hk : k < 32) (g : Nat → Int) : doX [pI ((k + 1 : Nat) : Int) 0 0 0, pI 33 0 0 0] 0 g 1 = (zO, 1) := doX_bad g 1 (.inl (chk2 ⟨k, hk⟩))
theorem rf_o {k : Nat} (hk : k < 32) (g : Nat → Int) {pc : Int} (h : pc < 0 ∨ 1 < pc) : doX [pI ((k + 1 : Nat) : Int) 0 0 0] pc g 1 = (zO, 1) := doX_bad g 1 (.inr h)
theorem rf_1 {k : Nat} (hk : k < 32) (g : Nat → Int) : doX [pI ((k + 1 : Nat) : Int) 0 0 0] 1 g 1 = (⟨1, g, false, 0, true⟩, 0) := doX_end g 1 (chk1 ⟨k, hk⟩)
end Go.Proofs.YtgojnhbmelnpnaaDoor.Pg
