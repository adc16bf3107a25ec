/- The walk of ChanActs. Condition: the slice that came in reads as l. -/
import Derived.Test.YtnldodpmfkekbaaDn
import Derived.Test.YtnldodpmfkekbaaSh
import Derived.Test.YtnldodpmfkekbaaAwk
namespace Go.Proofs.Ytnldodpmfkekbaa
open Go.RowKit
set_option linter.unusedVariables false

set_option maxRecDepth 100000 in
set_option maxHeartbeats 8000000 in
theorem acts_in (kind size : Int) (A : Option Addr) (n cap : Nat) (l : List Ac) (W : World) (hA : IsA W A n cap l) (hn : n ≤ 60) : Calls Try.prog 3 #[.int .i64 kind, .int .i64 size, .slice A n cap] W (BoolR true W) := by
  have b1 : (n : Int) ≤ 60 := by omega
  have b2 : 0 ≤ (n : Int) := by omega
  have HA := Lib.hid hA
  have HLN := Lib.hid hA.2.2.1
  clear hA
  go_enter Try.func3, Try.ntmps3
  go_wp2_with fail
  refine (pair_any kind size W).mono ?_
  rintro e w1 (⟨rfl, hb⟩ | ⟨c, m, s, rfl, hs, hj⟩)
  · have HB := Lib.hid hb
    clear hb
    go_wp2_with fail
    go_loopw [9] (fun i wr => ∃ k : Nat, k ≤ n ∧ i = .int .i64 k ∧ Hid (Below W.heap.size W wr)) (fun i _ => n - (intOf i).toNat)
    case atStart => exact ⟨0, by omega, rfl, HB⟩
    case round =>
      clear HB
      obtain ⟨k, hk, rfl, hB⟩ := hrel
      by_cases hlt : k < n
      · have k1 : (k : Int) < (n : Int) := by omega
        have k2 : 0 ≤ (k : Int) := by omega
        have hkl : k < l.length := by rw [HLN.out]; exact hlt
        obtain ⟨_, bb, off, rfl, hbb, c0, c1, c2, c3, c4, c5⟩ := IsA.at HA.out hB.out (List.getElem?_eq_getElem hkl)
        generalize l[k]'hkl = a at *
        clear hkl hbb
        go_wp2_with fail
        refine (doesn_any a wr).mono ?_
        rintro e w2 ⟨rfl, hb2⟩
        have HB2 := Lib.hid (hB.out.trans (hb2.mono hB.out.size))
        clear hb2 hB c0 c1 c2 c3 c4 c5
        go_wp2_with fail
        refine (showsn w2).mono ?_
        rintro e w' ⟨rfl, rfl⟩
        go_wp2_with fail
        go_roundw
        case rel => exact ⟨k + 1, by omega, by go_num, HB2⟩
        case measure => simp [intOf]; omega
      · obtain rfl : k = n := by omega
        go_wp2_with fail
        refine (awake_any _).mono ?_
        rintro e w' ⟨rfl, hb⟩
        have HB := Lib.hid (hB.out.trans (hb.mono hB.out.size))
        clear hb hB
        go_wp2_with fail
        go_ret
        exact ⟨rfl, HB.out⟩
  · have HJ := Lib.hid hj
    have HS : Hid (nw s ≤ 0) := by show _ ≤ _; omega
    clear hj hs
    go_wp2_with fail
    go_loopw [9] (fun i wr => ∃ (k : Nat) (s : CS), k ≤ n ∧ i = .int .i64 k ∧ Hid (nw s ≤ k) ∧ Hid (JS W c m s s wr)) (fun i _ => n - (intOf i).toNat)
    case atStart => exact ⟨0, s, by omega, rfl, HS, HJ⟩
    case round =>
      clear HJ HS
      obtain ⟨k, s, hk, rfl, hN, hJ⟩ := hrel
      by_cases hlt : k < n
      · have k1 : (k : Int) < (n : Int) := by omega
        have k2 : 0 ≤ (k : Int) := by omega
        have hkl : k < l.length := by rw [HLN.out]; exact hlt
        obtain ⟨hwf, bb, off, rfl, hbb, c0, c1, c2, c3, c4, c5⟩ := IsA.at HA.out hJ.out.bel (List.getElem?_eq_getElem hkl)
        generalize l[k]'hkl = a at *
        have HWF := Lib.hid hwf
        clear hkl hbb hwf
        go_wp2_with fail
        refine (does_any a HWF.out hJ.out (by have := hN.out; omega)).mono ?_
        rintro e w2 ⟨rfl, s', hs', hj'⟩
        have HJ2 := Lib.hid hj'
        have HN2 : Hid (nw s' ≤ k + 1) := by have := hN.out; show _ ≤ _; omega
        clear hj' hs' hJ hN c0 c1 c2 c3 c4 c5
        go_wp2_with fail
        refine (shows_any HJ2.out (by have := HN2.out; omega)).mono ?_
        rintro e w3 ⟨rfl, hj3⟩
        have HJ3 := Lib.hid hj3
        clear hj3 HJ2
        go_wp2_with fail
        go_roundw
        case rel => exact ⟨k + 1, s', by omega, by go_num, HN2, HJ3⟩
        case measure => simp [intOf]; omega
      · obtain rfl : k = n := by omega
        have HB0 := Lib.hid hJ.out.bel
        clear hJ hN
        go_wp2_with fail
        refine (awake_any _).mono ?_
        rintro e w' ⟨rfl, hb⟩
        have HB := Lib.hid (HB0.out.trans (hb.mono HB0.out.size))
        clear hb HB0
        go_wp2_with fail
        go_ret
        exact ⟨rfl, HB.out⟩
set_option maxRecDepth 100000 in
theorem acts_walk (kind size : Int) (A : Option Addr) (n cap : Nat) (l : List Ac) (W : World) (hA : IsA W A n cap l) : Calls Try.prog 3 #[.int .i64 kind, .int .i64 size, .slice A n cap] W (BoolR true W) := by
  by_cases hn : n ≤ 60
  · exact acts_in kind size A n cap l W hA hn
  · have b1 : 60 < (n : Int) := by omega
    go_enter Try.func3, Try.ntmps3
    go_wp2_with fail
    refine (awake_any W).mono ?_
    rintro e w' ⟨rfl, hb⟩
    have HB := Lib.hid hb
    clear hb
    go_wp2_with fail
    go_ret
    exact ⟨rfl, HB.out⟩
end Go.Proofs.Ytnldodpmfkekbaa
