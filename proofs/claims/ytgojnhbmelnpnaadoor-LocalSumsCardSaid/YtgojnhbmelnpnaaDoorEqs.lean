/- Registers, and outcomes, that are the same are told so. No condition. -/
import Derived.Test.YtgojnhbmelnpnaaDoorAwk
import Derived.ChangeKeysEq
import Derived.Laws.StructEq
namespace Go.Proofs.YtgojnhbmelnpnaaDoor.Pg
open Go.RowKit
set_option linter.unusedVariables false
set_option maxRecDepth 100000

theorem part_regs (g : Nat → Int) (w : World) {i : Nat} (h : i < 8) : (part 3 (gR g) i).run Tryd.prog w = .ok (.int .i64 (g i)) w := by
  have h1 := gR_at g h
  unfold part
  simp only [Sem.run_bind, Tryd.isAgg3, Result.andThen_ok, h1]
  simp
theorem items_regs (d : Nat) (g : Nat → Int) (w : World) : ∀ is : List Nat, (∀ i ∈ is, i < 8) → (Op.eqItems (d + 1) 3 1 (gR g) (gR g) is).run Tryd.prog w = .ok true w
  | [], _ => by simp [Op.eqItems]
  | i :: is, h => by
    have h1 := part_regs g w (h i (by simp))
    have h2 := run_equalIn_int w d 3 .i64 .i64 (g i) (g i) Tryd.underlying3
    have h3 := items_regs d g w is fun j hj => h j (by simp [hj])
    simp only [Op.eqItems, Sem.run_bind, Nat.mul_one, h1, h2, Result.andThen_ok]
    simpa using h3
theorem eq_regs (d : Nat) (g : Nat → Int) (w : World) : (Op.equalIn (d + 2) 23 (.agg (gR g)) (.agg (gR g))).run Tryd.prog w = .ok true w := by
  obtain ⟨i0, hi⟩ : ∃ i, Tryd.prog.info? 3 = some i := by
    cases e : Tryd.prog.info? 3 with
    | none => exact absurd e (by decide +kernel)
    | some i => exact ⟨i, rfl⟩
  have h := run_equalIn_array (P := Tryd.prog) (w := w) (d + 1) (gR g) (gR g) Tryd.underlying23 hi
  rw [h, show Tryd.prog.cellsOf 3 = 1 by kernel_rfl]
  exact items_regs d g w _ fun i hi => List.mem_range.1 hi
theorem pt0 (u : Ot) (w : World) : (part 3 (oR u) 0).run Tryd.prog w = .ok (.int .i64 u.pc) w := by kernel_rfl
theorem pt1 (u : Ot) (w : World) : (part 23 (oR u) 1).run Tryd.prog w = .ok (.agg (gR u.rg)) w := by kernel_rfl
theorem pt9 (u : Ot) (w : World) : (part 4 (oR u) 9).run Tryd.prog w = .ok (.bool u.told) w := by kernel_rfl
theorem pt10 (u : Ot) (w : World) : (part 3 (oR u) 10).run Tryd.prog w = .ok (.int .i64 u.v) w := by kernel_rfl
theorem pt11 (u : Ot) (w : World) : (part 4 (oR u) 11).run Tryd.prog w = .ok (.bool u.en) w := by kernel_rfl
theorem eq_out (u : Ot) (w : World) : (Op.equalIn 10000 28 (.agg (oR u)) (.agg (oR u))).run Tryd.prog w = .ok true w := by
  have hS : Tryd.prog.underlying 28 = some (.struct (Tryd.prog.fieldsOf 28)) := by kernel_rfl
  refine (run_equalIn_struct w 9999 28 (oR u) (oR u) hS (by kernel_rfl)).trans ?_
  have h0 := run_equalIn_int w 9998 3 .i64 .i64 u.pc u.pc Tryd.underlying3
  have h1 := eq_regs 9997 u.rg w
  have h9 := run_equalIn_bool w 9998 4 u.told u.told Tryd.underlying4
  have h10 := run_equalIn_int w 9998 3 .i64 .i64 u.v u.v Tryd.underlying3
  have h11 := run_equalIn_bool w 9998 4 u.en u.en Tryd.underlying4
  simp only [Program.fieldsOf, Tryd.underlying28, Op.eqFields]
  simp [pt0, pt1, pt9, pt10, pt11, h0, h1, h9, h10, h11, Result.andThen]
end Go.Proofs.YtgojnhbmelnpnaaDoor.Pg
