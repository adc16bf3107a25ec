/- What concerns others is not done, and what may not be neither: the law's walk. Condition: the table of operations lies in its variable. -/
import Derived.Test.YtgojnhbmelnpnaaDoorRfW1
import Derived.Test.YtgojnhbmelnpnaaDoorRfW2
import Derived.Test.YtgojnhbmelnpnaaDoorRfW3
import Derived.Test.YtgojnhbmelnpnaaDoorRfW4
namespace Go.Proofs.YtgojnhbmelnpnaaDoor.Pg
open Go.RowKit
set_option linter.unusedVariables false
set_option maxRecDepth 100000

theorem refuses_walk (op pc : Int) (g : Nat → Int) (W : World) (hF : Hid (FT W)) : Calls Tryd.prog 6 #[.int .i64 op, .int .i64 pc, .agg (gR g)] W (BoolR true W) := by
  obtain ⟨k, hk⟩ : ∃ k, pk op 32 = k := ⟨_, rfl⟩
  cases hm : mineB ((k + 1 : Nat) : Int) with
  | true =>
    by_cases h1 : pc < 0
    · exact rf_mine_low op k hk g hm pc (.inl h1) h1 W hF
    · by_cases h2 : 1 < pc
      · exact rf_mine_high op k hk g hm pc (.inr h2) h2 W hF
      · rcases (show pc = 0 ∨ pc = 1 by omega) with rfl | rfl
        · exact rf_mine_0 op k hk g hm W hF
        · exact rf_mine_1 op k hk g hm W hF
  | false =>
    by_cases h1 : pc < 0
    · exact rf_not_low op k hk g hm pc (.inl h1) h1 W hF
    · by_cases h2 : 1 < pc
      · exact rf_not_high op k hk g hm pc (.inr h2) h2 W hF
      · rcases (show pc = 0 ∨ pc = 1 by omega) with rfl | rfl
        · exact rf_not_0 op k hk g hm W hF
        · exact rf_not_1 op k hk g hm W hF
end Go.Proofs.YtgojnhbmelnpnaaDoor.Pg
