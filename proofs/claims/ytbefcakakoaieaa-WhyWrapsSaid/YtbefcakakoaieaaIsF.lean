/- Closed facts on the types' method sets and on equality of two errors, which errors.Is and errors.As ask. No condition. -/
import Derived.Test.YtbefcakakoaieaaSha
import Derived.LaidEql
namespace Go.Proofs.Ytbefcakakoaieaa
open Go.RowKit Go.Extern.Stop Go.Stop Go.Extern

theorem Try.isTypeOf (v : Value) (w : World) : (Extern.ReflectliteType.typeOf #[.iface 51 v]).run Try.prog w = .ok (.iface 73 (.agg #[.pointer (some ⟨4, 51, none⟩)])) w := by kernel_rfl
theorem Try.isComparable (w : World) : ((Extern.ReflectliteType.method fun t => (fun a => Value.bool a.comparable) <$> typeInfo t) #[.agg #[.pointer (some ⟨4, 51, none⟩)]]).run Try.prog w = .ok (.bool true) w := by kernel_rfl
theorem Try.comp40 : (Try.prog.info? 51).map (·.comparable) = some true := by kernel_rfl
theorem Try.eqCodeIn (a b : Int) (w : World) : (Op.equalIn 9999 51 (.agg #[.int .i64 a]) (.agg #[.int .i64 b])).run Try.prog w = .ok (a == b) w := by
  have hS : Try.prog.underlying 51 = some (.struct (Try.prog.fieldsOf 51)) := by kernel_rfl
  have hp : Try.prog.stoodInHeld 51 = false := by kernel_rfl
  have a3 := Try.isAgg3
  have z3 := Try.sizeOf3
  rw [show (9999 : Nat) = 9998 + 1 from rfl, run_equalIn_agg w 9998 51 _ _ hS hp]
  simp only [Program.fieldsOf, Try.underlying51]
  go_simp
  by_cases h1 : a = b <;> simp [h1]
theorem Try.eqCode (a b : Int) (w : World) : (binOp .eql 29 (.iface 51 (.agg #[.int .i64 a])) (.iface 51 (.agg #[.int .i64 b]))).run Try.prog w = .ok (.bool (a == b)) w := by
  obtain ⟨i, hi, hcmp⟩ := Option.map_eq_some_iff.1 Try.comp40
  have h : (Op.equalIn (9999 + 1) 29 (.iface 51 (.agg #[.int .i64 a])) (.iface 51 (.agg #[.int .i64 b]))).run Try.prog w = .ok (a == b) w := by
    rw [Op.equalIn]
    simp only [Sem.run_bind, run_underlying Try.underlying29, Result.andThen_ok]
    simp [typeInfo, hi, hcmp, Try.eqCodeIn]
  simp only [binOp]
  simp [Op.equal, Op.maxDepth, h]
theorem Try.eqGroup (x v : Value) (w : World) : (binOp .eql 29 (.iface 63 x) (.iface 51 v)).run Try.prog w = .ok (.bool false) w := by kernel_rfl
theorem Try.eqNil (v : Value) (w : World) : (binOp .eql 29 .nilIface (.iface 51 v)).run Try.prog w = .ok (.bool false) w := by kernel_rfl

theorem Try.isMethodComparable (v : Value) (w : World) : (Go.method 241 73 v "Comparable").run Try.prog w = .ok (82, v) w := by kernel_rfl
theorem Try.noIsC (v : Value) (xT : TypeId) (w : World) : (Instr.typeAssert (.iface 51 v) xT 75 true).run Try.prog w = .ok (.tuple #[.nilIface, .bool false]) w := run_typeAssert_lacksB Try.underlying75 (by kernel_rfl) (by kernel_rfl) v xT w
theorem Try.noIsG (v : Value) (xT : TypeId) (w : World) : (Instr.typeAssert (.iface 63 v) xT 75 true).run Try.prog w = .ok (.tuple #[.nilIface, .bool false]) w := run_typeAssert_lacksB Try.underlying75 (by kernel_rfl) (by kernel_rfl) v xT w
theorem Try.noUnC (v : Value) (xT : TypeId) (w : World) : (Instr.typeAssert (.iface 51 v) xT 77 true).run Try.prog w = .ok (.tuple #[.nilIface, .bool false]) w := run_typeAssert_lacksB Try.underlying77 (by kernel_rfl) (by kernel_rfl) v xT w
theorem Try.noUnG (v : Value) (xT : TypeId) (w : World) : (Instr.typeAssert (.iface 63 v) xT 77 true).run Try.prog w = .ok (.tuple #[.nilIface, .bool false]) w := run_typeAssert_lacksB Try.underlying77 (by kernel_rfl) (by kernel_rfl) v xT w
theorem Try.noUnsC (v : Value) (xT : TypeId) (w : World) : (Instr.typeAssert (.iface 51 v) xT 79 true).run Try.prog w = .ok (.tuple #[.nilIface, .bool false]) w := run_typeAssert_lacksB Try.underlying79 (by kernel_rfl) (by kernel_rfl) v xT w
theorem Try.hasUnsG (v : Value) (xT : TypeId) (w : World) : (Instr.typeAssert (.iface 63 v) xT 79 true).run Try.prog w = .ok (.tuple #[.iface 63 v, .bool true]) w := run_typeAssert_hasB Try.underlying79 (by kernel_rfl) v xT w
theorem Try.methodUnwrap (v : Value) (w : World) : (Go.method 241 63 v "Unwrap").run Try.prog w = .ok (69, v) w := by kernel_rfl
end Go.Proofs.Ytbefcakakoaieaa
