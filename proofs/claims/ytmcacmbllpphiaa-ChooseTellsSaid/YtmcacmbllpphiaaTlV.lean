/- The walk of ChooseTells, whatever comes in. Conditions: the slices that came in read as lists. -/
import Derived.Test.YtmcacmbllpphiaaTlW
namespace Go.Proofs.Ytmcacmbllpphiaa
open Go.RowKit
set_option linter.unusedVariables false

set_option maxRecDepth 100000 in
set_option maxHeartbeats 4000000 in
theorem tells_walk (A1 A2 A3 A4 : Option Addr) (n1 n2 n3 n4 p1 p2 p3 p4 : Nat) (L1 L2 : List Int) (L3 : List Sa) (L4 : List Pk) (df : Bool) (draw task : Int) (W : World)
    (h1 : IsN W A1 n1 p1 L1) (h2 : IsN W A2 n2 p2 L2) (h3 : IsL W A3 n3 p3 L3) (h4 : IsP W A4 n4 p4 L4) (hT : Wf task) :
    Calls Try.prog 3 #[.slice A1 n1 p1, .slice A2 n2 p2, .slice A3 n3 p3, .slice A4 n4 p4, .bool df, .int .i64 draw, .int .i64 task] W (BoolR true W) := by
  have HW := Lib.hid (awake_any W)
  by_cases g1 : ¬ n1 ≤ 4
  · have b : 4 < (n1 : Int) := by omega
    clear h1 h2 h3 h4 hT g1
    go_enter Try.func3, Try.ntmps3
    go_wp2_with fail
    refine HW.out.mono ?_
    rintro e w' ⟨rfl, hb⟩
    have HB := Lib.hid hb
    clear hb
    go_wp2_with fail
    go_ret
    exact ⟨rfl, HB.out⟩
  by_cases g2 : ¬ n1 ≤ n2
  · have b : (n2 : Int) < (n1 : Int) := by omega
    have b1 : ¬ 4 < (n1 : Int) := by omega
    clear h1 h2 h3 h4 hT g1 g2
    go_enter Try.func3, Try.ntmps3
    go_wp2_with fail
    refine HW.out.mono ?_
    rintro e w' ⟨rfl, hb⟩
    have HB := Lib.hid hb
    clear hb
    go_wp2_with fail
    go_ret
    exact ⟨rfl, HB.out⟩
  by_cases g3 : ¬ n1 ≤ n3
  · have b : (n3 : Int) < (n1 : Int) := by omega
    have b1 : ¬ 4 < (n1 : Int) := by omega
    have b2 : ¬ (n2 : Int) < (n1 : Int) := by omega
    clear h1 h2 h3 h4 hT g1 g2 g3
    go_enter Try.func3, Try.ntmps3
    go_wp2_with fail
    refine HW.out.mono ?_
    rintro e w' ⟨rfl, hb⟩
    have HB := Lib.hid hb
    clear hb
    go_wp2_with fail
    go_ret
    exact ⟨rfl, HB.out⟩
  by_cases g4 : ¬ n2 ≤ 8
  · have b : 8 < (n2 : Int) := by omega
    have b1 : ¬ 4 < (n1 : Int) := by omega
    have b2 : ¬ (n2 : Int) < (n1 : Int) := by omega
    have b3 : ¬ (n3 : Int) < (n1 : Int) := by omega
    clear h1 h2 h3 h4 hT g1 g2 g3 g4
    go_enter Try.func3, Try.ntmps3
    go_wp2_with fail
    refine HW.out.mono ?_
    rintro e w' ⟨rfl, hb⟩
    have HB := Lib.hid hb
    clear hb
    go_wp2_with fail
    go_ret
    exact ⟨rfl, HB.out⟩
  by_cases g5 : ¬ n3 ≤ 8
  · have b : 8 < (n3 : Int) := by omega
    have b1 : ¬ 4 < (n1 : Int) := by omega
    have b2 : ¬ (n2 : Int) < (n1 : Int) := by omega
    have b3 : ¬ (n3 : Int) < (n1 : Int) := by omega
    have b4 : ¬ 8 < (n2 : Int) := by omega
    clear h1 h2 h3 h4 hT g1 g2 g3 g4 g5
    go_enter Try.func3, Try.ntmps3
    go_wp2_with fail
    refine HW.out.mono ?_
    rintro e w' ⟨rfl, hb⟩
    have HB := Lib.hid hb
    clear hb
    go_wp2_with fail
    go_ret
    exact ⟨rfl, HB.out⟩
  by_cases g6 : ¬ n4 ≤ 20
  · have b : 20 < (n4 : Int) := by omega
    have b1 : ¬ 4 < (n1 : Int) := by omega
    have b2 : ¬ (n2 : Int) < (n1 : Int) := by omega
    have b3 : ¬ (n3 : Int) < (n1 : Int) := by omega
    have b4 : ¬ 8 < (n2 : Int) := by omega
    have b5 : ¬ 8 < (n3 : Int) := by omega
    clear h1 h2 h3 h4 hT g1 g2 g3 g4 g5 g6
    go_enter Try.func3, Try.ntmps3
    go_wp2_with fail
    refine HW.out.mono ?_
    rintro e w' ⟨rfl, hb⟩
    have HB := Lib.hid hb
    clear hb
    go_wp2_with fail
    go_ret
    exact ⟨rfl, HB.out⟩
  exact tells_in A1 A2 A3 A4 n1 n2 n3 n4 p1 p2 p3 p4 L1 L2 L3 L4 df draw task W h1 h2 h3 h4 hT (by omega) (by omega) (by omega) (by omega) (by omega) (by omega)
end Go.Proofs.Ytmcacmbllpphiaa
