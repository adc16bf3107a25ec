/- The law on what is wrapped and put together returns true. Condition: the variable errors.errorType reads as its program lays it. -/
import Derived.Test.YtbdicgnmaonjgaaDoorWrW
import Derived.Test.YtbdicgnmaonjgaaDoorTxX
namespace Go.Proofs.YtbdicgnmaonjgaaDoor
open Go.RowKit Go.Extern.Stop Go.Stop Go.Extern
set_option linter.unusedVariables false

theorem wraps_walk (op : ByteArray) (a : Option Addr) (n cap : Nat) (zs : List Int) (W : World) (ho : op.size ≤ maxLen) (hR : IsRow .i64 W a n cap zs) (hE : ETy W) : Calls Tryd.prog 3 #[.slice a n cap, .string op] W (BoolPost true W) := by
  have hnm : n ≤ maxLen ∧ n ≤ cap := by rcases hR with ⟨_, h, h1, _⟩ | ⟨_, _, h, h2, _⟩ <;> omega
  obtain ⟨hnm, hnc⟩ := hnm
  unfold maxLen at ho hnm
  have HC := Lib.hid (awake_any W hE)
  have HR := Lib.hid hR
  have HE := Lib.hid hE
  clear hR hE
  by_cases r1 : 15 < n
  · go_enter Tryd.func3, Tryd.ntmps3
    go_wp2_with (go_at_call 7; (with_reducible refine HC.out.mono ?_); rintro e w1 ⟨rfl, hb⟩; have HB := Lib.hid hb; clear hb)
    go_ret
    exact ⟨rfl, HB.out⟩
  by_cases r2 : 50 < op.size
  · go_enter Tryd.func3, Tryd.ntmps3
    go_wp2_with (go_at_call 7; (with_reducible refine HC.out.mono ?_); rintro e w1 ⟨rfl, hb⟩; have HB := Lib.hid hb; clear hb)
    go_ret
    exact ⟨rfl, HB.out⟩
  by_cases r3 : 0 < n
  · obtain ⟨b, off, rfl, hb, hc, ys, hy1, hy2, hy3⟩ := row_open HR.out r3
    exact wraps_loop op ys W _ b off n cap (fun _ => rfl) hy1 (by omega) hc (by omega) (fun _ => hb) hy2 HE.out
  · exact wraps_loop op [] W a 0 0 n cap (fun h => absurd h r3) (show 0 = n by omega) (by omega) hnc (by omega) (fun h => absurd h r3) (fun i z h => by simp at h) HE.out
end Go.Proofs.YtbdicgnmaonjgaaDoor
