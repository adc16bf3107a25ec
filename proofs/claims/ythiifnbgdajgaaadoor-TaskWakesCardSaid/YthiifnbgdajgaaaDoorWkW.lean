/- A wake writes what was received where its instruction says, and nothing else. Conditions: the table of operations lies in its variable. -/
import Derived.Test.YthiifnbgdajgaaaDoorWkSnd
import Derived.Test.YthiifnbgdajgaaaDoorWkRc1
import Derived.Test.YthiifnbgdajgaaaDoorWkRc0
import Derived.Test.YthiifnbgdajgaaaDoorWkSl0
import Derived.Test.YthiifnbgdajgaaaDoorWkSl1
import Derived.Test.YthiifnbgdajgaaaDoorWkSl2
namespace Go.Proofs.YthiifnbgdajgaaaDoor
open Go.RowKit
set_option linter.unusedVariables false

theorem wakes_walk (op a b c kase value : Int) (ok : Bool) (W : World) (hF : Hid (Pg.FT W)) : Calls Tryd.prog 4 #[.int .i64 op, .int .i64 a, .int .i64 b, .int .i64 c, .int .i64 kase, .int .i64 value, .bool ok] W (BoolR true W) := by
  have h1 := pk_lt op (m := 3) (by omega)
  have h2 := pk_lt kase (m := 2) (by omega)
  have h3 : pk op 3 = 0 ∨ pk op 3 = 1 ∨ pk op 3 = 2 := by omega
  have h4 : pk kase 2 = 0 ∨ pk kase 2 = 1 := by omega
  rcases h3 with h3 | h3 | h3
  · exact wakes_snd op a b c kase value ok W hF h3
  · cases ok with
    | true => exact wakes_rc1 op a b c kase value W hF h3
    | false => exact wakes_rc0 op a b c kase value W hF h3
  · rcases h4 with h4 | h4
    · exact wakes_sl0 op a b c kase value ok W hF h3 h4
    · cases ok with
      | true => exact wakes_sl1 op a b c kase value W hF h3 h4
      | false => exact wakes_sl2 op a b c kase value W hF h3 h4
end Go.Proofs.YthiifnbgdajgaaaDoor
