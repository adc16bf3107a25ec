/- The law on deep and wide shapes returns true. Condition: the variable errors.errorType reads as its program lays it. -/
import Derived.Test.YtbdicgnmaonjgaaDoorDeepW
namespace Go.Proofs.YtbdicgnmaonjgaaDoor
open Go.RowKit Go.Extern.Stop Go.Stop Go.Extern
set_option linter.unusedVariables false

theorem deep_walk (a0 a1 a2 : Int) (W : World) (hE : ETy W) : Calls Tryd.prog 4 #[.int .i64 a0, .int .i64 a1, .int .i64 a2] W (BoolPost true W) := by
  have HC := Lib.hid (awake_any W hE)
  by_cases r1 : a0 < 1
  · clear hE
    go_enter Tryd.func4, Tryd.ntmps4
    go_wp2_with (go_at_call 7; (with_reducible refine HC.out.mono ?_); rintro e w1 ⟨rfl, hb⟩; have HB := Lib.hid hb; clear hb)
    go_ret
    exact ⟨rfl, HB.out⟩
  by_cases r2 : 30 < a0
  · clear hE
    go_enter Tryd.func4, Tryd.ntmps4
    go_wp2_with (go_at_call 7; (with_reducible refine HC.out.mono ?_); rintro e w1 ⟨rfl, hb⟩; have HB := Lib.hid hb; clear hb)
    go_ret
    exact ⟨rfl, HB.out⟩
  by_cases r3 : a1 < 1
  · clear hE
    go_enter Tryd.func4, Tryd.ntmps4
    go_wp2_with (go_at_call 7; (with_reducible refine HC.out.mono ?_); rintro e w1 ⟨rfl, hb⟩; have HB := Lib.hid hb; clear hb)
    go_ret
    exact ⟨rfl, HB.out⟩
  by_cases r4 : 60 < a1
  · clear hE
    go_enter Tryd.func4, Tryd.ntmps4
    go_wp2_with (go_at_call 7; (with_reducible refine HC.out.mono ?_); rintro e w1 ⟨rfl, hb⟩; have HB := Lib.hid hb; clear hb)
    go_ret
    exact ⟨rfl, HB.out⟩
  by_cases r5 : a2 < 1
  · clear hE
    go_enter Tryd.func4, Tryd.ntmps4
    go_wp2_with (go_at_call 7; (with_reducible refine HC.out.mono ?_); rintro e w1 ⟨rfl, hb⟩; have HB := Lib.hid hb; clear hb)
    go_ret
    exact ⟨rfl, HB.out⟩
  obtain ⟨D, rfl⟩ := Int.eq_ofNat_of_zero_le (show 0 ≤ a0 by omega)
  obtain ⟨J, rfl⟩ := Int.eq_ofNat_of_zero_le (show 0 ≤ a1 by omega)
  exact deep_in D J a2 (by omega) (by omega) (by omega) (by omega) (by omega) W hE
end Go.Proofs.YtbdicgnmaonjgaaDoor
