/- The walk of the law on picks. No condition. -/
import Derived.Test.YtfjphbljdijceaaAwk
namespace Go.Proofs.Ytfjphbljdijceaa
open Go.RowKit
set_option linter.unusedVariables false

theorem picks_h1 (n c k : Int) (w : World)  (h1 : c < 1) : Calls Try.prog 5 #[.int .i64 n, .int .i64 c, .int .i64 k] w (BoolR true w) := by
  have HP := Lib.hid (pick_low n c w (by omega))
  have HA := Lib.hid (awake_any w)
  go_enter Try.func5, Try.ntmps5
  go_wp2_with fail
  refine HP.out.mono ?_
  rintro e w1 ⟨rfl, rfl⟩
  go_wp2_with fail
  refine HA.out.mono ?_
  rintro e w1 ⟨rfl, hb⟩
  go_wp2_with fail
  go_ret
  exact ⟨rfl, hb⟩
theorem picks_h2 (n c k : Int) (w : World) (h1 : 1 ≤ c) (h2 : 1000 < c) : Calls Try.prog 5 #[.int .i64 n, .int .i64 c, .int .i64 k] w (BoolR true w) := by
  have HP := Lib.hid (pick_low n 0 w (by omega))
  have HA := Lib.hid (awake_any w)
  go_enter Try.func5, Try.ntmps5
  go_wp2_with fail
  refine HP.out.mono ?_
  rintro e w1 ⟨rfl, rfl⟩
  go_wp2_with fail
  refine HA.out.mono ?_
  rintro e w1 ⟨rfl, hb⟩
  go_wp2_with fail
  go_ret
  exact ⟨rfl, hb⟩
theorem picks_h3 (n c k : Int) (w : World) (h1 : 1 ≤ c) (h2 : c ≤ 1000) (h3 : n < -1099511627776) : Calls Try.prog 5 #[.int .i64 n, .int .i64 c, .int .i64 k] w (BoolR true w) := by
  have HP := Lib.hid (pick_low n 0 w (by omega))
  have HA := Lib.hid (awake_any w)
  go_enter Try.func5, Try.ntmps5
  go_wp2_with fail
  refine HP.out.mono ?_
  rintro e w1 ⟨rfl, rfl⟩
  go_wp2_with fail
  refine HA.out.mono ?_
  rintro e w1 ⟨rfl, hb⟩
  go_wp2_with fail
  go_ret
  exact ⟨rfl, hb⟩
theorem picks_h4 (n c k : Int) (w : World) (h1 : 1 ≤ c) (h2 : c ≤ 1000) (h3 : -1099511627776 ≤ n) (h4 : 1099511627776 < n) : Calls Try.prog 5 #[.int .i64 n, .int .i64 c, .int .i64 k] w (BoolR true w) := by
  have HP := Lib.hid (pick_low n 0 w (by omega))
  have HA := Lib.hid (awake_any w)
  go_enter Try.func5, Try.ntmps5
  go_wp2_with fail
  refine HP.out.mono ?_
  rintro e w1 ⟨rfl, rfl⟩
  go_wp2_with fail
  refine HA.out.mono ?_
  rintro e w1 ⟨rfl, hb⟩
  go_wp2_with fail
  go_ret
  exact ⟨rfl, hb⟩
theorem picks_h5 (n c k : Int) (w : World) (h1 : 1 ≤ c) (h2 : c ≤ 1000) (h3 : -1099511627776 ≤ n) (h4 : n ≤ 1099511627776) (h5 : k < -1000) : Calls Try.prog 5 #[.int .i64 n, .int .i64 c, .int .i64 k] w (BoolR true w) := by
  have HP := Lib.hid (pick_low n 0 w (by omega))
  have HA := Lib.hid (awake_any w)
  go_enter Try.func5, Try.ntmps5
  go_wp2_with fail
  refine HP.out.mono ?_
  rintro e w1 ⟨rfl, rfl⟩
  go_wp2_with fail
  refine HA.out.mono ?_
  rintro e w1 ⟨rfl, hb⟩
  go_wp2_with fail
  go_ret
  exact ⟨rfl, hb⟩
theorem picks_h6 (n c k : Int) (w : World) (h1 : 1 ≤ c) (h2 : c ≤ 1000) (h3 : -1099511627776 ≤ n) (h4 : n ≤ 1099511627776) (h5 : -1000 ≤ k) (h6 : 1000 < k) : Calls Try.prog 5 #[.int .i64 n, .int .i64 c, .int .i64 k] w (BoolR true w) := by
  have HP := Lib.hid (pick_low n 0 w (by omega))
  have HA := Lib.hid (awake_any w)
  go_enter Try.func5, Try.ntmps5
  go_wp2_with fail
  refine HP.out.mono ?_
  rintro e w1 ⟨rfl, rfl⟩
  go_wp2_with fail
  refine HA.out.mono ?_
  rintro e w1 ⟨rfl, hb⟩
  go_wp2_with fail
  go_ret
  exact ⟨rfl, hb⟩
theorem picks_in (n c k : Int) (w : World) (h1 : 1 ≤ c) (h2 : c ≤ 1000) (h3 : -1099511627776 ≤ n) (h4 : n ≤ 1099511627776) (h5 : -1000 ≤ k) (h6 : k ≤ 1000) : Calls Try.prog 5 #[.int .i64 n, .int .i64 c, .int .i64 k] w (BoolR true w) := by
  have b0 := Int.emod_nonneg n (show c ≠ 0 by omega)
  have b1 := Int.emod_lt_of_pos n (show 0 < c by omega)
  have b2 : -1000000 ≤ k * c := by
    have h := Int.mul_le_mul_of_nonneg_right (show -1000 ≤ k by omega) (show 0 ≤ c by omega)
    omega
  have b3 : k * c ≤ 1000000 := by
    have h := Int.mul_le_mul_of_nonneg_right (show k ≤ 1000 by omega) (show 0 ≤ c by omega)
    omega
  have e1 : (n - n % c).tmod c = 0 := Int.tmod_eq_zero_of_dvd ⟨n / c, by have := Int.emod_add_mul_ediv n c; omega⟩
  have HP := Lib.hid (fun w => pick_any n c w (by omega) (by omega))
  have HQ : Hid (∀ w, Calls Try.prog 15 #[.int .i64 (n + k * c), .int .i64 c] w fun e w' => e = .returned (.int .i64 (n % c)) ∧ w = w') := fun w => by
    have h := pick_any (n + k * c) c w (by omega) (by omega)
    rw [Int.add_mul_emod_self_right] at h
    exact h
  have e3 : (c == 0) = false := by rw [beq_eq_false_iff_ne]; omega
  generalize n % c = p at *
  go_enter Try.func5, Try.ntmps5
  go_wp2_with fail
  refine (HP.out _).mono ?_
  rintro e w1 ⟨rfl, rfl⟩
  go_wp2_with fail
  refine (HQ.out _).mono ?_
  rintro e w1 ⟨rfl, rfl⟩
  go_wp2_with fail
  refine (awake_any _).mono ?_
  rintro e w1 ⟨rfl, hb⟩
  go_wp2_with fail
  go_ret
  exact ⟨rfl, hb⟩
theorem picks_any (n c k : Int) (w : World) : Calls Try.prog 5 #[.int .i64 n, .int .i64 c, .int .i64 k] w (BoolR true w) := by
  by_cases h1 : c < 1
  · exact picks_h1 n c k w h1
  · by_cases h2 : 1000 < c
    · exact picks_h2 n c k w (by omega) h2
    · by_cases h3 : n < -1099511627776
      · exact picks_h3 n c k w (by omega) (by omega) h3
      · by_cases h4 : 1099511627776 < n
        · exact picks_h4 n c k w (by omega) (by omega) (by omega) h4
        · by_cases h5 : k < -1000
          · exact picks_h5 n c k w (by omega) (by omega) (by omega) (by omega) h5
          · by_cases h6 : 1000 < k
            · exact picks_h6 n c k w (by omega) (by omega) (by omega) (by omega) (by omega) h6
            · exact picks_in n c k w (by omega) (by omega) (by omega) (by omega) (by omega) (by omega)
end Go.Proofs.Ytfjphbljdijceaa
