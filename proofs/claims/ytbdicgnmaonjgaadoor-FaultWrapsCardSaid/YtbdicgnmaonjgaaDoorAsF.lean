/- Closed facts on the model's entries for internal/reflectlite at this program's types, which errors.As asks. Conditions: the cells that they read. -/
import Derived.Test.YtbdicgnmaonjgaaDoorHas
namespace Go.Proofs.YtbdicgnmaonjgaaDoor
open Go.RowKit Go.Extern.Stop Go.Stop Go.Extern

theorem Tryd.tyOf63 (v : Value) (w : World) : (callFunc 26 #[.iface 63 v]).run Tryd.prog w = .ok (.value (.iface 78 (.agg #[.pointer (some ⟨5, 63, none⟩)]))) w := by kernel_rfl
theorem Tryd.tyOf52 (v : Value) (w : World) : (callFunc 26 #[.iface 52 v]).run Tryd.prog w = .ok (.value (.iface 78 (.agg #[.pointer (some ⟨5, 52, none⟩)]))) w := by kernel_rfl
theorem Tryd.mAssign (v : Value) (w : World) : (Go.method 250 78 v "AssignableTo").run Tryd.prog w = .ok (82, v) w := by kernel_rfl
theorem Tryd.asg40 (w : World) : (callFunc 82 #[.agg #[.pointer (some ⟨5, 40, none⟩)], .iface 78 (.agg #[.pointer (some ⟨5, 40, none⟩)])]).run Tryd.prog w = .ok (.value (.bool true)) w := by kernel_rfl
theorem Tryd.asg63 (w : World) : (callFunc 82 #[.agg #[.pointer (some ⟨5, 63, none⟩)], .iface 78 (.agg #[.pointer (some ⟨5, 40, none⟩)])]).run Tryd.prog w = .ok (.value (.bool false)) w := by kernel_rfl
theorem Tryd.asg52 (w : World) : (callFunc 82 #[.agg #[.pointer (some ⟨5, 52, none⟩)], .iface 78 (.agg #[.pointer (some ⟨5, 40, none⟩)])]).run Tryd.prog w = .ok (.value (.bool false)) w := by kernel_rfl
theorem Tryd.vOf40 (c : Int) (w : World) : (callFunc 31 #[.iface 40 (.agg #[.int .i64 c])]).run Tryd.prog w
    = .ok (.value (.agg #[.pointer (some ⟨5, 40, none⟩), .pointer (some ⟨w.heap.size, 0, none⟩), .int .u64 153])) (w.alloc (.cells #[.int .i64 c] 40)) := by kernel_rfl
theorem Tryd.vOf56 (a : Addr) (w : World) : (callFunc 31 #[.iface 56 (.pointer (some a))]).run Tryd.prog w
    = .ok (.value (.agg #[.pointer (some ⟨5, 56, none⟩), .pointer (some ⟨w.heap.size, 0, none⟩), .int .u64 150])) (w.alloc (.cells #[.pointer (some a)] 56)) := by kernel_rfl
theorem Tryd.vType56 (a : Addr) (w : World) : (callFunc 32 #[.agg #[.pointer (some ⟨5, 56, none⟩), .pointer (some a), .int .u64 150]]).run Tryd.prog w = .ok (.value (.iface 78 (.agg #[.pointer (some ⟨5, 56, none⟩)]))) w := by kernel_rfl
theorem Tryd.mKind (h : Value) (w : World) : (Go.method 250 78 (.agg #[h]) "Kind").run Tryd.prog w = .ok (63, h) w := by kernel_rfl
theorem Tryd.kind56 (w : World) : (callFunc 63 #[.pointer (some ⟨5, 56, none⟩)]).run Tryd.prog w = .ok (.value (.int .u8 22)) w := by kernel_rfl
theorem Tryd.kind40 (w : World) : (callFunc 63 #[.pointer (some ⟨5, 40, none⟩)]).run Tryd.prog w = .ok (.value (.int .u8 25)) w := by kernel_rfl
theorem Tryd.mElem (h : Value) (w : World) : (Go.method 250 78 (.agg #[h]) "Elem").run Tryd.prog w = .ok (84, .agg #[h]) w := by kernel_rfl
theorem Tryd.mImpl (h : Value) (w : World) : (Go.method 250 78 (.agg #[h]) "Implements").run Tryd.prog w = .ok (85, .agg #[h]) w := by kernel_rfl
theorem Tryd.elem56 (w : World) : (callFunc 84 #[.agg #[.pointer (some ⟨5, 56, none⟩)]]).run Tryd.prog w = .ok (.value (.iface 78 (.agg #[.pointer (some ⟨5, 40, none⟩)]))) w := by kernel_rfl
theorem Tryd.impl40 (w : World) : (callFunc 85 #[.agg #[.pointer (some ⟨5, 40, none⟩)], .iface 78 (.agg #[.pointer (some ⟨5, 29, none⟩)])]).run Tryd.prog w = .ok (.value (.bool true)) w := by kernel_rfl
end Go.Proofs.YtbdicgnmaonjgaaDoor
