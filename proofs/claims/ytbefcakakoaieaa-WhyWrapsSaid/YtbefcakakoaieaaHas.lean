/- Is and Has find in an error just the codes of its shape. Conditions: the error lies in memory, each group of it was made here. -/
import Derived.Test.YtbefcakakoaieaaIs
import Derived.Defers
import Derived.Recover
namespace Go.Proofs.Ytbefcakakoaieaa
open Go.RowKit Go.Extern.Stop Go.Stop Go.Extern
set_option linter.unusedVariables false

theorem Try.call83 (w : World) : (callFunc 82 #[.agg #[.pointer (some ⟨4, 51, none⟩)]]).run Try.prog w = .ok (.value (.bool true)) w := by kernel_rfl
theorem Try.call26 (v : Value) (w : World) : (callFunc 36 #[.iface 51 v]).run Try.prog w = .ok (.value (.iface 73 (.agg #[.pointer (some ⟨4, 51, none⟩)]))) w := by kernel_rfl

theorem idle22 (w : World) : CallsD Try.prog 32 #[] .returning w fun e u' w' => e = .returned (.tuple #[]) ∧ u' = .returning ∧ w' = w := by
  refine callsD_of_wpS Try.func32 rfl fun c₀ cs hu => ?_
  apply wpS_region
  simp [wpOpsS, go_sem, recoverD, hu, Try.ntmps32]
  cases c₀
  simp_all [bodyPostS, results, Try.results32]

def BoolPost (b : Bool) (W : World) (e : Ending) (w : World) : Prop := e = .returned (.bool b) ∧ Below W.heap.size W w

set_option maxRecDepth 100000 in
theorem gois_of (x : Int) (T : TypeId) (u : Value) (W : World) (b : Bool) (h : Calls Try.prog 37 #[.iface T u, .iface 51 (.agg #[.int .i64 x]), .bool true] W (BoolPost b W)) :
    Calls Try.prog 33 #[.iface T u, .iface 51 (.agg #[.int .i64 x])] W (BoolPost b W) := by
  have HC := Lib.hid h
  clear h
  have h26 := Try.call26
  have h83 := Try.call83
  have mR := Try.isMethodComparable
  go_enter Try.func33, Try.ntmps33
  go_wp2_with (first | (go_at_call 37; (with_reducible refine HC.out.mono ?_); rintro e w' ⟨rfl, hb⟩; have HB := Lib.hid hb; clear hb) | go_in)
  go_ret
  exact ⟨rfl, HB.out⟩

set_option maxRecDepth 100000 in
theorem gois_nil (x : Int) (W : World) :
    Calls Try.prog 33 #[.nilIface, .iface 51 (.agg #[.int .i64 x])] W (BoolPost false W) := by
  have h1 := Try.eqNil
  go_enter Try.func33, Try.ntmps33
  go_wp2_with fail
  go_ret
  exact ⟨rfl, Below.refl _ _⟩

/-- errors.Is at an error that was made here. -/
theorem gois_made (x c : Int) (o : ByteArray) (ks : Fo) (hok : okF (.cons c o ks .nil)) (hsh : shortF (.cons c o ks .nil)) (W : World) (v : Value) (hv : EIs W (Lt W.heap.size) c o ks v) :
    Calls Try.prog 33 #[v, .iface 51 (.agg #[.int .i64 x])] W (BoolPost (hasF x (.cons c o ks .nil)) W) := by
  obtain ⟨T, u, rfl⟩ := hv.made hok
  exact gois_of x T u W _ (is_any x c o ks hok hsh W _ hv)

set_option maxRecDepth 100000 in
theorem has_of (x : Int) (v : Value) (W : World) (b : Bool) (h : Calls Try.prog 33 #[v, .iface 51 (.agg #[.int .i64 x])] W (BoolPost b W)) :
    Calls Try.prog 25 #[v, .int .i64 x] W (BoolPost b W) := by
  have HC := Lib.hid h
  clear h
  go_enter_defers Try.func25, Try.ntmps25
  go_wp2_with (first | (go_at_call 33; (with_reducible refine HC.out.mono ?_); rintro e w' ⟨rfl, hb⟩; have HB := Lib.hid hb; clear hb))
  refine leaves_cons (f := 32) (args := #[]) (by simp) (by simp [go_sem]) ?_
  refine (idle22 _).mono ?_
  rintro e u' w'' ⟨rfl, rfl, rfl⟩
  simp [Leaves, settle, results, Try.results25, go_sem]
  exact ⟨rfl, HB.out⟩
end Go.Proofs.Ytbefcakakoaieaa
