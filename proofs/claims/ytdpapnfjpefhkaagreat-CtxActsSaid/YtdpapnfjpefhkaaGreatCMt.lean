/- The document's own channel: Remove, NewTimed; two rows of who is woken, alike. Conditions: each theorem's own premises. -/
import Derived.Test.YtdpapnfjpefhkaaGreatCMdm
import Derived.Test.YtdpapnfjpefhkaaGreatCAllm
import Derived.IntWalk
namespace Go.Proofs.YtdpapnfjpefhkaaGreat.Ch
open Go.RowKit
set_option linter.unusedVariables false
set_option maxRecDepth 100000
theorem wakes_yes (A A' : Option Addr) (n c c' : Nat) (l : List Wk) (w : World) (h : RdK w A n l) (h' : RdK w A' n l) (hn : n ≤ 1000000) :
  Calls Tryz.prog 59 #[.slice A n c, .slice A' n c'] w fun e w' => e = .returned (.bool true) ∧ ∃ m, w' = w.drewN m := by
 replace h := Lib.hid h
 replace h' := Lib.hid h'
 have b1 : (n : Int) ≤ 1000000 := by omega
 go_enter Tryz.func59, Tryz.ntmps59
 go_wp2_with fail
 go_loopw [5] (fun i wr => ∃ k : Nat, k ≤ n ∧ i = .int .i64 k ∧ ∃ m, wr = w.drewN m) (fun i _ => n - (intOf i).toNat)
 case atStart => exact ⟨0, by omega, rfl, 0, rfl⟩
 case round =>
  obtain ⟨k, hk, rfl, m, rfl⟩ := hrel
  by_cases hlt : k < n
  · have hky : k < l.length := by rw [h.out.1]; exact hlt
    obtain ⟨b, cs, e1, hb, hc⟩ := h.out.2 (by omega)
    obtain ⟨b', cs', e2, hb', hc'⟩ := h'.out.2 (by omega)
    subst e1 e2
    obtain ⟨c0, c1, c2, c3, c4⟩ := hc k (l[k]'hky) (List.getElem?_eq_getElem hky)
    obtain ⟨d0, d1, d2, d3, d4⟩ := hc' k (l[k]'hky) (List.getElem?_eq_getElem hky)
    generalize l[k]'hky = x at *
    obtain ⟨xt, xc, xv, xo, xp⟩ := x
    simp only at c0 c1 c2 c3 c4 d0 d1 d2 d3 d4
    have q1 : (k : Int) < (n : Int) := by omega
    have q2 : 0 ≤ (k : Int) := by omega
    clear hc hc' hky hb hb'
    go_wp2_with fail
    go_quiet (fail)
    go_wp2_with fail
    go_roundw
    case rel => exact ⟨k + 1, by omega, by go_num, _, rfl⟩
    case measure => simp [intOf]; omega
  · obtain rfl : k = n := by omega
    go_wp2_with fail
    go_ret
    exact ⟨rfl, _, rfl⟩
end Go.Proofs.YtdpapnfjpefhkaaGreat.Ch
