/- Registers that are the same are told so. No condition. -/
import Derived.Test.YthiifnbgdajgaaaDoorReg
import Derived.ChangeKeysEq
namespace Go.Proofs.YthiifnbgdajgaaaDoor
open Go.RowKit
set_option linter.unusedVariables false
set_option maxRecDepth 100000

theorem part_regs (g : Nat → Int) (w : World) {i : Nat} (h : i < 8) : (part 3 (gR g) i).run Tryd.prog w = .ok (.int .i64 (g i)) w := by
  have h1 := gR_at g h
  unfold part
  simp only [Sem.run_bind, Tryd.isAgg3, Result.andThen_ok, h1]
  simp
theorem items_regs (g : Nat → Int) (w : World) : ∀ is : List Nat, (∀ i ∈ is, i < 8) → (Op.eqItems 9999 3 1 (gR g) (gR g) is).run Tryd.prog w = .ok true w
  | [], _ => by simp [Op.eqItems]
  | i :: is, h => by
    have h1 := part_regs g w (h i (by simp))
    have h2 := run_equalIn_int w 9998 3 .i64 .i64 (g i) (g i) Tryd.underlying3
    have h3 := items_regs g w is fun j hj => h j (by simp [hj])
    simp only [Op.eqItems, Sem.run_bind, Nat.mul_one, h1, h2, Result.andThen_ok]
    simpa using h3
theorem eq_regs (g : Nat → Int) (w : World) : (Op.equalIn 10000 30 (.agg (gR g)) (.agg (gR g))).run Tryd.prog w = .ok true w := by
  obtain ⟨i0, hi⟩ : ∃ i, Tryd.prog.info? 3 = some i := by
    cases e : Tryd.prog.info? 3 with
    | none => exact absurd e (by decide +kernel)
    | some i => exact ⟨i, rfl⟩
  have h := run_equalIn_array (P := Tryd.prog) (w := w) 9999 (gR g) (gR g) Tryd.underlying30 hi
  rw [h, show Tryd.prog.cellsOf 3 = 1 by kernel_rfl]
  exact items_regs g w _ fun i hi => List.mem_range.1 hi
theorem eq8 (r0 r1 r2 r3 r4 r5 r6 r7 : Int) (w : World) : (Op.equalIn 10000 30 (.agg #[.int .i64 r0, .int .i64 r1, .int .i64 r2, .int .i64 r3, .int .i64 r4, .int .i64 r5, .int .i64 r6, .int .i64 r7]) (.agg #[.int .i64 r0, .int .i64 r1, .int .i64 r2, .int .i64 r3, .int .i64 r4, .int .i64 r5, .int .i64 r6, .int .i64 r7])).run Tryd.prog w = .ok true w :=
  eq_regs (fun j => [r0, r1, r2, r3, r4, r5, r6, r7].getD j 0) w
end Go.Proofs.YthiifnbgdajgaaaDoor
