/- CtxActs says true. Condition: the slice of acts reads as it came, each number fits. -/
import Derived.Test.YtdpapnfjpefhkaaGreatDow0m
import Derived.Test.YtdpapnfjpefhkaaGreatDow5m
import Derived.Test.YtdpapnfjpefhkaaGreatDow7
import Derived.Test.YtdpapnfjpefhkaaGreatDow8
import Derived.Test.YtdpapnfjpefhkaaGreatShw
import Derived.Test.YtdpapnfjpefhkaaGreatFrb
import Derived.Test.YtdpapnfjpefhkaaGreatOpn
import Derived.Test.YtdpapnfjpefhkaaGreatCwk
namespace Go.Proofs.YtdpapnfjpefhkaaGreat
open Go.RowKit Tr
set_option linter.unusedVariables false
set_option maxRecDepth 100000
def BoolT (W : World) (e : Ending) (w' : World) : Prop := e = .returned (.bool true) ∧ Below W.heap.size W w'
section
variable {W w w' : World} {b t ts mo m k q R : Nat} {d : St} {now : Int}
theorem does_any (h : BM W b ts t mo m now R R d d w) (hR : R + 1 ≤ 1000) (k a c : Int) (hc : Ch.Wf c) : Calls Tryz.prog 6 #[.pointer (some ⟨b, 0, none⟩), .agg #[.int .i64 k, .int .i64 a, .int .i64 c]] w (DoR W b ts t mo m R) := by
 by_cases e1 : k = 1
 · subst e1; exact does_1 h
 by_cases e2 : k = 2
 · subst e2; exact does_2 h
 by_cases e3 : k = 3
 · subst e3; exact does_3 h
 by_cases e4 : k = 4
 · subst e4; exact does_4 h
 by_cases e5 : k = 5
 · subst e5; exact does_5 h
 by_cases e6 : k = 6
 · subst e6; exact does_6 h
 by_cases e7 : k = 7
 · subst e7; exact does_7 h
 by_cases e8 : k = 8
 · subst e8; exact does_8 h hR hc
 by_cases e9 : k = 9
 · subst e9; exact does_9 h
 exact does_0 h e1 e2 e3 e4 e5 e6 e7 e8 e9
end
set_option maxHeartbeats 16000000 in
theorem acts_in (A : Option Addr) (n c : Nat) (l : List Ac) (W : World) (hR : RdA W A n l) (hwf : ∀ a ∈ l, Ch.Wf a.w) (hn : n ≤ 60) : Calls Tryz.prog 3 #[.slice A n c] W (BoolT W) := by
 have q0 : ¬ (60 : Int) < (n : Int) := by omega
 have R1 := Lib.hid hR
 have F1 := Lib.hid hwf
 clear hR hwf
 go_enter Tryz.func3, Tryz.ntmps3
 go_wp2_with fail
 refine (fresh_two W).mono ?_
 rintro e w0 ⟨b, ts, t, mo, m, rfl, h0⟩
 go_wp2_with fail
 go_loopw [5] (fun i wr => ∃ (k : Nat) (now : Int) (d : St) (R : Nat), k ≤ n ∧ i = .int .i64 k ∧ R ≤ k ∧ Hid (BM W b ts t mo m now R R d d wr)) (fun i _ => n - (intOf i).toNat)
 case atStart =>
  obtain ⟨d, h1⟩ := h0.out
  exact ⟨0, 0, d, 0, by omega, rfl, by omega, h1⟩
 case round =>
  clear h0
  obtain ⟨k, now, d, R, hk, rfl, hRk, hB⟩ := hrel
  by_cases hlt : k < n
  · obtain ⟨bb, off, a, rfl, hbb, hza, y0, y1, y2⟩ := R1.out.cells hB.out.bel hlt
    have k3 : (k : Int) < (n : Int) := by omega
    have b1 : IntKind.i64.wrap ((k : Int) + 1) = (k : Int) + 1 := by rw [IntKind.wrap_i64]; omega
    have HD := Lib.hid (does_any hB.out (by omega) a.k a.id a.w (F1.out a (List.mem_of_getElem? hza)))
    clear hza
    go_wp2_with fail
    refine HD.out.mono ?_
    rintro e w2 ⟨rfl, hbe⟩
    obtain ⟨now', d', R', hR', hb2⟩ := hbe.out
    have HS := Lib.hid (shows_yes hb2)
    clear hbe HD y0 y1 y2 hB hb2
    go_wp2_with fail
    refine HS.out.mono ?_
    rintro e w3 ⟨rfl, hb3⟩
    clear HS
    go_wp2_with fail
    go_roundw
    case rel => exact ⟨k + 1, now', d', R', by omega, by go_num, by omega, hb3⟩
    case measure => simp [intOf]; omega
  · obtain rfl : k = n := by omega
    have k3 : ¬ (k : Int) < (k : Int) := by omega
    go_wp2_with fail
    refine (awake_any _).mono ?_
    rintro e w9 ⟨rfl, hb⟩
    have HL := Lib.hid (hB.out.bel.trans (hb.mono hB.out.bel.size))
    clear hb
    go_wp2_with fail
    go_ret
    exact ⟨rfl, HL.out⟩
theorem acts_walk (A : Option Addr) (n c : Nat) (l : List Ac) (W : World) (hR : RdA W A n l) (hwf : ∀ a ∈ l, Ch.Wf a.w) : Calls Tryz.prog 3 #[.slice A n c] W (BoolT W) := by
 by_cases q0 : n ≤ 60
 · exact acts_in A n c l W hR hwf q0
 · have q1 : (60 : Int) < (n : Int) := by omega
   clear hR hwf q0
   go_enter Tryz.func3, Tryz.ntmps3
   go_wp2_with fail
   refine (awake_any _).mono ?_
   rintro e w' ⟨rfl, hb⟩
   have HB := Lib.hid hb
   clear hb
   go_wp2_with fail
   go_ret
   exact ⟨rfl, HB.out⟩
end Go.Proofs.YtdpapnfjpefhkaaGreat
