/- Slices that came in; what has been added one by one. No condition. -/
import Derived.Test.YtbpoippgioincaaAwk
import Derived.Test.YtbpoippgioincaaAdn
namespace Go.Proofs.Ytbpoippgioincaa
open Go.RowKit
set_option linter.unusedVariables false
set_option maxRecDepth 100000
theorem round1 (a : Int) (m : Nat) (w : World) (hm : m < 1000) : Calls Try.prog 40 #[.int .i64 a, .int .i64 ((m : Int) + 1)] w fun e w' => e = .returned (.int .i64 (pk a (m + 1) : Int)) ∧ w = w' := by
  have := round_any a (m + 1) w (by omega) (by omega)
  rwa [show ((m + 1 : Nat) : Int) = (m : Int) + 1 by omega] at this
end Go.Proofs.Ytbpoippgioincaa
