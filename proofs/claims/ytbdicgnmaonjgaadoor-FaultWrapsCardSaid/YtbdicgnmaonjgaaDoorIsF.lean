/- Closed facts on the types' method sets and on equality of two errors, which errors.Is and errors.As ask. No condition. -/
import Derived.Test.YtbdicgnmaonjgaaDoorSha
import Derived.LaidEql
namespace Go.Proofs.YtbdicgnmaonjgaaDoor
open Go.RowKit Go.Extern.Stop Go.Stop Go.Extern

theorem Tryd.isTypeOf (v : Value) (w : World) : (Extern.ReflectliteType.typeOf #[.iface 40 v]).run Tryd.prog w = .ok (.iface 78 (.agg #[.pointer (some ⟨5, 40, none⟩)])) w := by kernel_rfl
theorem Tryd.isComparable (w : World) : ((Extern.ReflectliteType.method fun t => (fun a => Value.bool a.comparable) <$> typeInfo t) #[.agg #[.pointer (some ⟨5, 40, none⟩)]]).run Tryd.prog w = .ok (.bool true) w := by kernel_rfl
theorem Tryd.comp40 : (Tryd.prog.info? 40).map (·.comparable) = some true := by kernel_rfl
theorem Tryd.eqCodeIn (a b : Int) (w : World) : (Op.equalIn 9999 40 (.agg #[.int .i64 a]) (.agg #[.int .i64 b])).run Tryd.prog w = .ok (a == b) w := by
  have hS : Tryd.prog.underlying 40 = some (.struct (Tryd.prog.fieldsOf 40)) := by kernel_rfl
  have hp : Tryd.prog.stoodInHeld 40 = false := by kernel_rfl
  have a3 := Tryd.isAgg3
  have z3 := Tryd.sizeOf3
  rw [show (9999 : Nat) = 9998 + 1 from rfl, run_equalIn_agg w 9998 40 _ _ hS hp]
  simp only [Program.fieldsOf, Tryd.underlying40]
  go_simp
  by_cases h1 : a = b <;> simp [h1]
theorem Tryd.eqCode (a b : Int) (w : World) : (binOp .eql 29 (.iface 40 (.agg #[.int .i64 a])) (.iface 40 (.agg #[.int .i64 b]))).run Tryd.prog w = .ok (.bool (a == b)) w := by
  obtain ⟨i, hi, hcmp⟩ := Option.map_eq_some_iff.1 Tryd.comp40
  have h : (Op.equalIn (9999 + 1) 29 (.iface 40 (.agg #[.int .i64 a])) (.iface 40 (.agg #[.int .i64 b]))).run Tryd.prog w = .ok (a == b) w := by
    rw [Op.equalIn]
    simp only [Sem.run_bind, run_underlying Tryd.underlying29, Result.andThen_ok]
    simp [typeInfo, hi, hcmp, Tryd.eqCodeIn]
  simp only [binOp]
  simp [Op.equal, Op.maxDepth, h]
theorem Tryd.eqGroup (x v : Value) (w : World) : (binOp .eql 29 (.iface 63 x) (.iface 40 v)).run Tryd.prog w = .ok (.bool false) w := by kernel_rfl
theorem Tryd.eqForeign (x v : Value) (w : World) : (binOp .eql 29 (.iface 52 x) (.iface 40 v)).run Tryd.prog w = .ok (.bool false) w := by kernel_rfl
theorem Tryd.eqNil (v : Value) (w : World) : (binOp .eql 29 .nilIface (.iface 40 v)).run Tryd.prog w = .ok (.bool false) w := by kernel_rfl

theorem Tryd.isMethodComparable (v : Value) (w : World) : (Go.method 250 78 v "Comparable").run Tryd.prog w = .ok (83, v) w := by kernel_rfl
theorem Tryd.noIsC (v : Value) (xT : TypeId) (w : World) : (Instr.typeAssert (.iface 40 v) xT 80 true).run Tryd.prog w = .ok (.tuple #[.nilIface, .bool false]) w := run_typeAssert_lacksB Tryd.underlying80 (by kernel_rfl) (by kernel_rfl) v xT w
theorem Tryd.noIsG (v : Value) (xT : TypeId) (w : World) : (Instr.typeAssert (.iface 63 v) xT 80 true).run Tryd.prog w = .ok (.tuple #[.nilIface, .bool false]) w := run_typeAssert_lacksB Tryd.underlying80 (by kernel_rfl) (by kernel_rfl) v xT w
theorem Tryd.noIsF (v : Value) (xT : TypeId) (w : World) : (Instr.typeAssert (.iface 52 v) xT 80 true).run Tryd.prog w = .ok (.tuple #[.nilIface, .bool false]) w := run_typeAssert_lacksB Tryd.underlying80 (by kernel_rfl) (by kernel_rfl) v xT w
theorem Tryd.noAsC (v : Value) (xT : TypeId) (w : World) : (Instr.typeAssert (.iface 40 v) xT 90 true).run Tryd.prog w = .ok (.tuple #[.nilIface, .bool false]) w := run_typeAssert_lacksB Tryd.underlying90 (by kernel_rfl) (by kernel_rfl) v xT w
theorem Tryd.noAsG (v : Value) (xT : TypeId) (w : World) : (Instr.typeAssert (.iface 63 v) xT 90 true).run Tryd.prog w = .ok (.tuple #[.nilIface, .bool false]) w := run_typeAssert_lacksB Tryd.underlying90 (by kernel_rfl) (by kernel_rfl) v xT w
theorem Tryd.noAsF (v : Value) (xT : TypeId) (w : World) : (Instr.typeAssert (.iface 52 v) xT 90 true).run Tryd.prog w = .ok (.tuple #[.nilIface, .bool false]) w := run_typeAssert_lacksB Tryd.underlying90 (by kernel_rfl) (by kernel_rfl) v xT w
theorem Tryd.noUnC (v : Value) (xT : TypeId) (w : World) : (Instr.typeAssert (.iface 40 v) xT 83 true).run Tryd.prog w = .ok (.tuple #[.nilIface, .bool false]) w := run_typeAssert_lacksB Tryd.underlying83 (by kernel_rfl) (by kernel_rfl) v xT w
theorem Tryd.noUnG (v : Value) (xT : TypeId) (w : World) : (Instr.typeAssert (.iface 63 v) xT 83 true).run Tryd.prog w = .ok (.tuple #[.nilIface, .bool false]) w := run_typeAssert_lacksB Tryd.underlying83 (by kernel_rfl) (by kernel_rfl) v xT w
theorem Tryd.noUnF (v : Value) (xT : TypeId) (w : World) : (Instr.typeAssert (.iface 52 v) xT 83 true).run Tryd.prog w = .ok (.tuple #[.nilIface, .bool false]) w := run_typeAssert_lacksB Tryd.underlying83 (by kernel_rfl) (by kernel_rfl) v xT w
theorem Tryd.noUnsC (v : Value) (xT : TypeId) (w : World) : (Instr.typeAssert (.iface 40 v) xT 85 true).run Tryd.prog w = .ok (.tuple #[.nilIface, .bool false]) w := run_typeAssert_lacksB Tryd.underlying85 (by kernel_rfl) (by kernel_rfl) v xT w
theorem Tryd.noUnsF (v : Value) (xT : TypeId) (w : World) : (Instr.typeAssert (.iface 52 v) xT 85 true).run Tryd.prog w = .ok (.tuple #[.nilIface, .bool false]) w := run_typeAssert_lacksB Tryd.underlying85 (by kernel_rfl) (by kernel_rfl) v xT w
theorem Tryd.hasUnsG (v : Value) (xT : TypeId) (w : World) : (Instr.typeAssert (.iface 63 v) xT 85 true).run Tryd.prog w = .ok (.tuple #[.iface 63 v, .bool true]) w := run_typeAssert_hasB Tryd.underlying85 (by kernel_rfl) v xT w
theorem Tryd.methodUnwrap (v : Value) (w : World) : (Go.method 250 63 v "Unwrap").run Tryd.prog w = .ok (68, v) w := by kernel_rfl
end Go.Proofs.YtbdicgnmaonjgaaDoor
