/- Is and Has find in an error just the codes of its shape. Conditions: the error lies in memory, each group of it was made here. -/
import Derived.Test.YtbdicgnmaonjgaaDoorIs
import Derived.Defers
import Derived.Recover
namespace Go.Proofs.YtbdicgnmaonjgaaDoor
open Go.RowKit Go.Extern.Stop Go.Stop Go.Extern
set_option linter.unusedVariables false

theorem Tryd.call83 (w : World) : (callFunc 83 #[.agg #[.pointer (some ⟨5, 40, none⟩)]]).run Tryd.prog w = .ok (.value (.bool true)) w := by kernel_rfl
theorem Tryd.call26 (v : Value) (w : World) : (callFunc 26 #[.iface 40 v]).run Tryd.prog w = .ok (.value (.iface 78 (.agg #[.pointer (some ⟨5, 40, none⟩)]))) w := by kernel_rfl

theorem idle22 (w : World) : CallsD Tryd.prog 22 #[] .returning w fun e u' w' => e = .returned (.tuple #[]) ∧ u' = .returning ∧ w' = w := by
  refine callsD_of_wpS Tryd.func22 rfl fun c₀ cs hu => ?_
  apply wpS_region
  simp [wpOpsS, go_sem, recoverD, hu, Tryd.ntmps22]
  cases c₀
  simp_all [bodyPostS, results, Tryd.results22]
theorem idle24 (w : World) : CallsD Tryd.prog 24 #[] .returning w fun e u' w' => e = .returned (.tuple #[]) ∧ u' = .returning ∧ w' = w := by
  refine callsD_of_wpS Tryd.func24 rfl fun c₀ cs hu => ?_
  apply wpS_region
  simp [wpOpsS, go_sem, recoverD, hu, Tryd.ntmps24]
  cases c₀
  simp_all [bodyPostS, results, Tryd.results24]

def BoolPost (b : Bool) (W : World) (e : Ending) (w : World) : Prop := e = .returned (.bool b) ∧ Below W.heap.size W w

set_option maxRecDepth 100000 in
theorem gois_of (x : Int) (T : TypeId) (u : Value) (W : World) (b : Bool) (h : Calls Tryd.prog 27 #[.iface T u, .iface 40 (.agg #[.int .i64 x]), .bool true] W (BoolPost b W)) :
    Calls Tryd.prog 17 #[.iface T u, .iface 40 (.agg #[.int .i64 x])] W (BoolPost b W) := by
  have HC := Lib.hid h
  clear h
  have h26 := Tryd.call26
  have h83 := Tryd.call83
  have mR := Tryd.isMethodComparable
  go_enter Tryd.func17, Tryd.ntmps17
  go_wp2_with (first | (go_at_call 27; (with_reducible refine HC.out.mono ?_); rintro e w' ⟨rfl, hb⟩; have HB := Lib.hid hb; clear hb) | go_in)
  go_ret
  exact ⟨rfl, HB.out⟩

set_option maxRecDepth 100000 in
theorem gois_nil (x : Int) (W : World) :
    Calls Tryd.prog 17 #[.nilIface, .iface 40 (.agg #[.int .i64 x])] W (BoolPost false W) := by
  have h1 := Tryd.eqNil
  go_enter Tryd.func17, Tryd.ntmps17
  go_wp2_with fail
  go_ret
  exact ⟨rfl, Below.refl _ _⟩

/-- errors.Is at an error that was made here. -/
theorem gois_made (x c : Int) (o : ByteArray) (ks : Fo) (hok : okF (.cons c o ks .nil)) (hsh : shortF (.cons c o ks .nil)) (W : World) (v : Value) (hv : EIs W (Lt W.heap.size) c o ks v) :
    Calls Tryd.prog 17 #[v, .iface 40 (.agg #[.int .i64 x])] W (BoolPost (hasF x (.cons c o ks .nil)) W) := by
  obtain ⟨T, u, rfl⟩ := hv.made hok
  exact gois_of x T u W _ (is_any x c o ks hok hsh W _ hv)
theorem gois_foreign (x : Int) (a : Value) (W : World) :
    Calls Tryd.prog 17 #[.iface 52 a, .iface 40 (.agg #[.int .i64 x])] W (BoolPost false W) :=
  gois_of x 52 a W _ ((is_foreign x W a).mono fun e w ⟨h1, h2⟩ => ⟨h1, by subst h2; exact Below.refl _ _⟩)

set_option maxRecDepth 100000 in
theorem has_of (x : Int) (v : Value) (W : World) (b : Bool) (h : Calls Tryd.prog 17 #[v, .iface 40 (.agg #[.int .i64 x])] W (BoolPost b W)) :
    Calls Tryd.prog 13 #[v, .int .i64 x] W (BoolPost b W) := by
  have HC := Lib.hid h
  clear h
  go_enter_defers Tryd.func13, Tryd.ntmps13
  go_wp2_with (first | (go_at_call 17; (with_reducible refine HC.out.mono ?_); rintro e w' ⟨rfl, hb⟩; have HB := Lib.hid hb; clear hb))
  refine leaves_cons (f := 22) (args := #[]) (by simp) (by simp [go_sem]) ?_
  refine (idle22 _).mono ?_
  rintro e u' w'' ⟨rfl, rfl, rfl⟩
  simp [Leaves, settle, results, Tryd.results13, go_sem]
  exact ⟨rfl, HB.out⟩
end Go.Proofs.YtbdicgnmaonjgaaDoor
