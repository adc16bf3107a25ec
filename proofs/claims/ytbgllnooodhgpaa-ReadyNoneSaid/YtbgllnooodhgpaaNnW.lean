/- Of nobody nobody is picked; one alone is always picked. Conditions: a0 and a1 are ints. -/
import Derived.Test.YtbgllnooodhgpaaAwk
namespace Go.Proofs.Ytbgllnooodhgpaa
open Go.RowKit
set_option linter.unusedVariables false

theorem pk_one (n : Int) : pk n 1 = 0 := by have := pk_lt n (m := 1) (by omega); omega
set_option maxRecDepth 100000 in
set_option maxHeartbeats 2000000 in
theorem none_walk (a0 a1 : Int) (W : World) (hw : Wf a0) : Calls Try.prog 6 #[.int .i64 a0, .int .i64 a1] W (BoolR true W) := by
  by_cases c1 : a0 < 0
  · go_enter Try.func6, Try.ntmps6
    go_wp2_with fail
    refine (new_any W).mono ?_
    rintro e w1 h1
    obtain rfl := h1.1
    have S1 := Lib.hid (start h1)
    clear h1
    go_wp2_with fail
    refine (g_pick_none S1.out.rg).mono ?_
    rintro e w' ⟨rfl, rfl⟩
    go_wp2_with fail
    refine (add_low a0 w1 c1).mono ?_
    rintro e w' ⟨rfl, rfl⟩
    go_wp2_with fail
    refine (g_pick_none S1.out.rg).mono ?_
    rintro e w' ⟨rfl, rfl⟩
    go_wp2_with fail
    refine (awake_any w1).mono ?_
    rintro e w2 ⟨rfl, b2⟩
    have S2 := Lib.hid (S1.out.later b2)
    clear S1 b2
    go_wp2_with fail
    go_ret
    exact ⟨rfl, S2.out.bel⟩
  · go_enter Try.func6, Try.ntmps6
    go_wp2_with fail
    refine (new_any W).mono ?_
    rintro e w1 h1
    obtain rfl := h1.1
    have S1 := Lib.hid (start h1)
    clear h1
    go_wp2_with fail
    refine (g_pick_none S1.out.rg).mono ?_
    rintro e w' ⟨rfl, rfl⟩
    go_wp2_with fail
    refine (g_add_new (x := a0) S1.out.rg ⟨by omega, hw⟩ (by simp) (by simp) S1.out.bel.size).mono ?_
    rintro e w2 r2
    obtain rfl := r2.1
    obtain ⟨P2, c2, S2⟩ := S1.out.add r2
    replace S2 : Hid (ST W P2 c2 [a0] w2) := S2
    clear r2 S1
    go_wp2_with fail
    refine (g_pick_any (n := a1) (x := a0) S2.out.rg (by simp) (by rw [show ([a0] : List Int).length = 1 from rfl, pk_one]; rfl)).mono ?_
    rintro e w' ⟨rfl, q, rfl⟩
    have S4 := Lib.hid (S2.out.drewN q)
    generalize w2.drewN q = w4 at *
    clear S2
    go_wp2_with fail
    refine (g_remove_yes (x := a0) (p := 0) S4.out.rg rfl (by simp)).mono ?_
    rintro e w5 ⟨rfl, r1, r2⟩
    have S5 : Hid (ST W P2 c2 [] w5) := S4.out.go ⟨r1, r2⟩
    clear r1 r2 S4
    go_wp2_with fail
    refine (g_pick_none S5.out.rg).mono ?_
    rintro e w' ⟨rfl, rfl⟩
    go_wp2_with fail
    refine (awake_any w5).mono ?_
    rintro e w2 ⟨rfl, b2⟩
    have S6 := Lib.hid (S5.out.later b2)
    clear S5 b2
    go_wp2_with fail
    go_ret
    exact ⟨rfl, S6.out.bel⟩
end Go.Proofs.Ytbgllnooodhgpaa
