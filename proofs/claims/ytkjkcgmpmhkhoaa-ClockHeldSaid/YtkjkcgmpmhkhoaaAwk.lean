/-
  Proved here: a clock is made, read and put on as told; the law's own examples hold. Conditions: each theorem's own premises.
-/
import Derived.Test.YtkjkcgmpmhkhoaaNxt
namespace Go.Proofs.Ytkjkcgmpmhkhoaa
open Go.RowKit

theorem new_any (w : World) : Calls Try.prog 17 #[] w fun e w' => e = .returned (.pointer (some ⟨w.heap.size, 0, none⟩)) ∧ w' = w.alloc (.cells #[.int .i64 0] 39) := by
  go_enter Try.func17, Try.ntmps17
  go_wp2
  go_ret
  exact ⟨rfl, rfl⟩

theorem now_nil (w : World) : Calls Try.prog 19 #[.pointer none] w fun e w' => e = .returned (.int .i64 0) ∧ w = w' := by
  go_enter Try.func19, Try.ntmps19
  go_wp2
  go_ret
  exact ⟨rfl, rfl⟩

theorem now_at (a : Addr) (n : Int) (w : World) (hc : w.cell? a = some (.int .i64 n)) : Calls Try.prog 19 #[.pointer (some a)] w fun e w' => e = .returned (.int .i64 n) ∧ w = w' := by
  go_enter Try.func19, Try.ntmps19
  go_wp2
  go_ret
  exact ⟨rfl, rfl⟩

theorem adv_nil (d : Int) (w : World) : Calls Try.prog 18 #[.pointer none, .int .i64 d] w fun e w' => e = .returned (.int .i64 1) ∧ w = w' := by
  go_enter Try.func18, Try.ntmps18
  go_wp2
  go_ret
  exact ⟨rfl, rfl⟩

theorem adv_neg (a : Addr) (d : Int) (w : World) (h : d < 0) : Calls Try.prog 18 #[.pointer (some a), .int .i64 d] w fun e w' => e = .returned (.int .i64 1) ∧ w = w' := by
  go_enter Try.func18, Try.ntmps18
  go_wp2
  go_ret
  exact ⟨rfl, rfl⟩

theorem adv_pos (b : Nat) (n d : Int) (w : World) (hc : w.cell? ⟨b, 0, none⟩ = some (.int .i64 n)) (hf : w.frozen? ⟨b, 0, none⟩ = false) (h : 0 ≤ d) : Calls Try.prog 18 #[.pointer (some ⟨b, 0, none⟩), .int .i64 d] w fun e w' => e = .returned (.int .i64 0) ∧ w' = w.setCell ⟨b, 0, none⟩ (.int .i64 (ad n d)) := by
  go_enter Try.func18, Try.ntmps18
  go_wp2_with (go_at_call 11; refine (add_any _ _ _).mono ?_; rintro e w' ⟨rfl, rfl⟩)
  go_ret
  exact ⟨rfl, rfl⟩

theorem next22 (w : World) : Calls Try.prog 9 #[.int .i64 10, .int .i64 5, .int .i64 22] w fun e w' => e = .returned (.tuple #[.int .i64 25, .int .i64 0]) ∧ w = w' :=
  next_yes 10 5 22 w (by omega) (by omega) (by omega) (by omega) (by omega) (by omega)
theorem next25 (w : World) : Calls Try.prog 9 #[.int .i64 10, .int .i64 5, .int .i64 25] w fun e w' => e = .returned (.tuple #[.int .i64 30, .int .i64 0]) ∧ w = w' :=
  next_yes 10 5 25 w (by omega) (by omega) (by omega) (by omega) (by omega) (by omega)
theorem next0 (w : World) : Calls Try.prog 9 #[.int .i64 10, .int .i64 0, .int .i64 22] w fun e w' => e = .returned (.tuple #[.int .i64 0, .int .i64 1]) ∧ w = w' :=
  next_no 10 0 22 w (by decide)

theorem addMax (w : World) : Calls Try.prog 11 #[.int .i64 4611686018427387904, .int .i64 1] w fun e w' => e = .returned (.int .i64 4611686018427387904) ∧ w = w' := add_any 4611686018427387904 1 w
theorem sub35 (w : World) : Calls Try.prog 13 #[.int .i64 3, .int .i64 5] w fun e w' => e = .returned (.int .i64 (-2)) ∧ w = w' := sub_any 3 5 w
theorem least42 (w : World) : Calls Try.prog 15 #[.int .i64 4, .int .i64 2] w fun e w' => e = .returned (.int .i64 2) ∧ w = w' := least_any 4 2 w
theorem adv7 (b : Nat) (w : World) (hc : w.cell? ⟨b, 0, none⟩ = some (.int .i64 0)) (hf : w.frozen? ⟨b, 0, none⟩ = false) : Calls Try.prog 18 #[.pointer (some ⟨b, 0, none⟩), .int .i64 7] w fun e w' => e = .returned (.int .i64 0) ∧ w' = w.setCell ⟨b, 0, none⟩ (.int .i64 7) := adv_pos b 0 7 w hc hf (by omega)

set_option maxHeartbeats 400000 in
theorem awake_any (w : World) : Calls Try.prog 16 #[] w fun e w' => e = .returned (.bool true) ∧ w' = w.alloc (.cells #[.int .i64 7] 39) := by
  go_enter Try.func16, Try.ntmps16
  go_wp2_with fail
  (with_reducible refine (next22 _).mono ?_); rintro e w' ⟨rfl, rfl⟩
  go_wp2_with fail
  (with_reducible refine (next25 _).mono ?_); rintro e w' ⟨rfl, rfl⟩
  go_wp2_with fail
  (with_reducible refine (next0 _).mono ?_); rintro e w' ⟨rfl, rfl⟩
  go_wp2_with fail
  (with_reducible refine (new_any _).mono ?_); rintro e w' ⟨rfl, rfl⟩
  go_wp2_with fail
  (with_reducible refine (adv7 _ _ (by simp) (by simp)).mono ?_); rintro e w' ⟨rfl, rfl⟩
  go_wp2_with fail
  (with_reducible refine (adv_neg _ (-1) _ (by omega)).mono ?_); rintro e w' ⟨rfl, rfl⟩
  go_wp2_with fail
  (with_reducible refine (now_at _ 7 _ (by simp)).mono ?_); rintro e w' ⟨rfl, rfl⟩
  go_wp2_with fail
  (with_reducible refine (addMax _).mono ?_); rintro e w' ⟨rfl, rfl⟩
  go_wp2_with fail
  (with_reducible refine (sub35 _).mono ?_); rintro e w' ⟨rfl, rfl⟩
  go_wp2_with fail
  (with_reducible refine (least42 _).mono ?_); rintro e w' ⟨rfl, rfl⟩
  go_wp2_with fail
  (with_reducible refine (now_nil _).mono ?_); rintro e w' ⟨rfl, rfl⟩
  go_wp2_with fail
  (with_reducible refine (adv_nil 1 _).mono ?_); rintro e w' ⟨rfl, rfl⟩
  go_wp2_with fail
  go_ret
  exact ⟨rfl, by simp⟩
end Go.Proofs.Ytkjkcgmpmhkhoaa
