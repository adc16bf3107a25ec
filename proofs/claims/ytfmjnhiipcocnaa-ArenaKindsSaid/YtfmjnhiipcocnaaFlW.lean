/- The walk of ArenaFills. No condition. -/
import Derived.Test.YtfmjnhiipcocnaaAwk
namespace Go.Proofs.Ytfmjnhiipcocnaa
open Go.RowKit
set_option linter.unusedVariables false

/-- Thrice the numbers. -/
def thr (n : Nat) : List Value := (List.range n).map fun (i : Nat) => .int .i64 (3 * (i : Int))
theorem thr_snoc (n : Nat) : thr n ++ [.int .i64 (3 * (n : Int))] = thr (n + 1) := by simp [thr, List.range_succ]
theorem thr_at {n i : Nat} (h : i < n) : (thr n)[i]? = some (.int .i64 (3 * (i : Int))) := by simp [thr, h]

set_option maxRecDepth 100000 in
set_option maxHeartbeats 1000000 in
theorem fills_out (most more : Int) (W : World) (h : most < 1 ∨ 200 < most ∨ more < 0 ∨ 20 < more) : Calls Try.prog 5 #[.int .i64 most, .int .i64 more] W (BoolR true W) := by
  by_cases c1 : most < 1
  · go_enter Try.func5, Try.ntmps5
    go_wp2_with fail
    refine (awake_any W).mono ?_
    rintro e w' ⟨rfl, hb⟩
    have HB := Lib.hid hb
    clear hb
    go_wp2_with fail
    go_ret
    exact ⟨rfl, HB.out⟩
  by_cases c2 : 200 < most
  · go_enter Try.func5, Try.ntmps5
    go_wp2_with fail
    refine (awake_any W).mono ?_
    rintro e w' ⟨rfl, hb⟩
    have HB := Lib.hid hb
    clear hb
    go_wp2_with fail
    go_ret
    exact ⟨rfl, HB.out⟩
  by_cases c3 : more < 0
  · go_enter Try.func5, Try.ntmps5
    go_wp2_with fail
    refine (awake_any W).mono ?_
    rintro e w' ⟨rfl, hb⟩
    have HB := Lib.hid hb
    clear hb
    go_wp2_with fail
    go_ret
    exact ⟨rfl, HB.out⟩
  have c4 : 20 < more := by omega
  clear h
  go_enter Try.func5, Try.ntmps5
  go_wp2_with fail
  refine (awake_any W).mono ?_
  rintro e w' ⟨rfl, hb⟩
  have HB := Lib.hid hb
  clear hb
  go_wp2_with fail
  go_ret
  exact ⟨rfl, HB.out⟩

set_option maxRecDepth 100000 in
set_option maxHeartbeats 1000000 in
theorem fills_in (m q : Nat) (W : World) (h1 : 1 ≤ m) (h2 : m ≤ 200) (h3 : q ≤ 20) : Calls Try.prog 5 #[.int .i64 (m : Int), .int .i64 (q : Int)] W (BoolR true W) := by
  have b1 : (1 : Int) ≤ (m : Int) := by omega
  have b2 : (m : Int) ≤ 200 := by omega
  have b3 : (q : Int) ≤ 20 := by omega
  have b4 : (0 : Int) ≤ (q : Int) := by omega
  go_enter Try.func5, Try.ntmps5
  go_wp2_with fail
  refine (I.new_yes m W h1 (by omega)).mono ?_
  rintro e w1 q1
  obtain rfl := q1.1
  have S1 := Lib.hid (I.start q1)
  clear q1
  go_wp2_with fail
  go_loopw [7] (fun i wr => ∃ (k n : Nat) (P : Option Addr) (c : Nat), k ≤ m + q ∧ n = min k m ∧ i = .int .i64 (k : Int) ∧ Hid (ST 3 54 1 W W.heap.size m n P c (thr n) wr)) (fun i _ => m + q - (intOf i).toNat)
  case atStart => exact ⟨0, 0, none, 0, by omega, by omega, rfl, S1⟩
  case round =>
    clear S1
    obtain ⟨k, n, P, c, hk, hn, rfl, hS⟩ := hrel
    have k1 : (0 : Int) ≤ (k : Int) := by omega
    have k2 : (k : Int) ≤ 220 := by omega
    by_cases hlt : k < m + q
    · have k3 : (k : Int) < (m : Int) + (q : Int) := by omega
      by_cases hm : k < m
      · obtain rfl : n = k := by omega
        clear hn
        have k4 : (n : Int) < (m : Int) := by omega
        go_wp2_with fail
        refine (I.add_room (3 * (n : Int)) wr hS.out.ar (by omega) hm hS.out.bel.size).mono ?_
        rintro e w2 ⟨rfl, g, c2, r2⟩
        rw [thr_snoc] at r2
        have S2 := Lib.hid (hS.out.go r2)
        clear r2 hS
        go_wp2_with fail
        go_roundw
        case rel => exact ⟨n + 1, n + 1, _, _, by omega, by omega, by go_num, S2⟩
        case measure => simp [intOf]; omega
      · obtain rfl : n = m := by omega
        clear hn
        have k4 : ¬ (k : Int) < (n : Int) := by omega
        go_wp2_with fail
        refine (I.add_full (3 * (k : Int)) wr hS.out.ar (by omega) rfl).mono ?_
        rintro e w2 ⟨rfl, r2⟩
        have S2 := Lib.hid (hS.out.later r2)
        clear r2 hS
        go_wp2_with fail
        go_roundw
        case rel => exact ⟨k + 1, n, P, c, by omega, by omega, by go_num, S2⟩
        case measure => simp [intOf]; omega
    · have k3 : ¬ (k : Int) < (m : Int) + (q : Int) := by omega
      obtain rfl : n = m := by omega
      clear hn hk hlt
      go_wp2_with fail
      go_loopw [10] (fun i wq => ∃ j : Nat, j ≤ n ∧ i = .int .i64 (j : Int) ∧ wq = wr) (fun i _ => n - (intOf i).toNat)
      case atStart => exact ⟨0, by omega, rfl, rfl⟩
      case round =>
        obtain ⟨j, hj, rfl, rfl⟩ := hrel
        have j1 : (0 : Int) ≤ (j : Int) := by omega
        have j2 : (j : Int) ≤ 200 := by omega
        by_cases hjn : j < n
        · have j3 : (j : Int) < (n : Int) := by omega
          go_wp2_with fail
          refine (I.get_yes (3 * (j : Int)) _ hS.out.ar j hjn (thr_at hjn)).mono ?_
          rintro e w' ⟨rfl, rfl⟩
          go_wp2_with fail
          go_roundw
          case rel => exact ⟨j + 1, by omega, by go_num, by first | rfl | trivial⟩
          case measure => simp [intOf]; omega
        · have j3 : ¬ (j : Int) < (n : Int) := by omega
          go_wp2_with fail
          refine (I.left_any _ hS.out.ar (by omega)).mono ?_
          rintro e w' ⟨rfl, qq, rfl⟩
          have e1 : ((n : Int) - (n : Int)) = 0 := by omega
          rw [e1]
          have S5 := Lib.hid (hS.out.drewN qq)
          clear hS
          go_wp2_with fail
          refine (I.len_any _ S5.out.ar).mono ?_
          rintro e w' ⟨rfl, rfl⟩
          go_wp2_with fail
          refine (awake_any _).mono ?_
          rintro e w4 ⟨rfl, hb⟩
          have HB := Lib.hid (S5.out.later hb)
          clear hb
          go_wp2_with fail
          go_ret
          exact ⟨rfl, HB.out.bel⟩
theorem fills_walk (most more : Int) (W : World) : Calls Try.prog 5 #[.int .i64 most, .int .i64 more] W (BoolR true W) := by
  by_cases h : most < 1 ∨ 200 < most ∨ more < 0 ∨ 20 < more
  · exact fills_out most more W h
  · obtain ⟨m, rfl⟩ := Int.eq_ofNat_of_zero_le (show 0 ≤ most by omega)
    obtain ⟨q, rfl⟩ := Int.eq_ofNat_of_zero_le (show 0 ≤ more by omega)
    exact fills_in m q W (by omega) (by omega) (by omega)
end Go.Proofs.Ytfmjnhiipcocnaa
