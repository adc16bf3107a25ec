/- Close, End; every call on no channel. Conditions: each theorem's own premises. -/
import Derived.Test.YtmcacmbllpphiaaShW
import Derived.Test.YtmcacmbllpphiaaRcv
import Derived.Test.YtmcacmbllpphiaaRmv
namespace Go.Proofs.Ytmcacmbllpphiaa
open Go.RowKit
set_option linter.unusedVariables false
section
variable {w : World} {c : Nat} {F : Nat → Prop} {s : CS}
theorem close_kind (h : CH w F c s) (hk : s.kd ≠ 0) : Calls Try.prog 27 #[.pointer (some ⟨c, 0, none⟩)] w fun e w' => e = .returned (.tuple #[.slice none 0 0, .int .i64 7]) ∧ w = w' := by
  have c0 := h.c0
  have b1 : ((s.kd : Int) == 0) = false := by rw [beq_eq_false_iff_ne]; omega
  clear h
  go_enter Try.func27, Try.ntmps27
  go_wp2
  go_ret2
  exact ⟨rfl, rfl⟩
theorem close_closed (h : CH w F c s) (hk : s.kd = 0) (hc : s.cl = true) : Calls Try.prog 27 #[.pointer (some ⟨c, 0, none⟩)] w fun e w' => e = .returned (.tuple #[.slice none 0 0, .int .i64 5]) ∧ w = w' := by
  have c0 := h.c0
  have c1 := h.c1
  rw [hk] at c0
  rw [hc] at c1
  clear h
  go_enter Try.func27, Try.ntmps27
  go_wp2
  go_ret2
  exact ⟨rfl, rfl⟩
def ClR (F : Nat → Prop) (c : Nat) (s : CS) (w : World) (e : Ending) (w' : World) : Prop :=
  ∃ A cap, e = .returned (.tuple #[.slice A (tot s).length cap, .int .i64 0]) ∧ RdK w' A (tot s).length (tot s) ∧ Go F c (done s) w w'
theorem close_any (h : CH w F c s) (hk : s.kd = 0) (hc : s.cl = false) (hn : s.ss.length ≤ 1000000) (hm : s.rs.length ≤ 1000000) : Calls Try.prog 27 #[.pointer (some ⟨c, 0, none⟩)] w (ClR F c s w) := by
  have c0 := h.c0
  have c1 := h.c1
  rw [hk] at c0
  rw [hc] at c1
  have hg := Lib.hid (shut_any h hn hm)
  clear h
  go_enter Try.func27, Try.ntmps27
  go_wp2_with fail
  refine hg.out.mono ?_
  rintro e w' ⟨A, cap, rfl, hK, hG⟩
  have HP : Hid (RdK w' A (tot s).length (tot s) ∧ Go F c (done s) w w') := ⟨hK, hG⟩
  clear hK hG hg
  go_wp2
  go_ret2
  exact ⟨A, cap, rfl, HP.out.1, HP.out.2⟩
theorem end_not (h : CH w F c s) (hk : s.kd ≠ 2 ∨ s.cl = true) : Calls Try.prog 43 #[.pointer (some ⟨c, 0, none⟩)] w fun e w' => e = .returned (.slice none 0 0) ∧ w = w' := by
  have c0 := h.c0
  have c1 := h.c1
  clear h
  by_cases h2 : s.kd = 2
  · have hc : s.cl = true := by rcases hk with hk | hk; exact absurd h2 hk; exact hk
    rw [h2] at c0
    rw [hc] at c1
    clear hk
    go_enter Try.func43, Try.ntmps43
    go_wp2
    go_ret
    exact ⟨rfl, rfl⟩
  · have b1 : ((s.kd : Int) == 2) = false := by rw [beq_eq_false_iff_ne]; omega
    have b2 : ¬ ((s.kd : Int) = 2) := by omega
    clear hk h2
    go_enter Try.func43, Try.ntmps43
    go_wp2
    go_ret
    exact ⟨rfl, rfl⟩
theorem end_any (h : CH w F c s) (hk : s.kd = 2) (hc : s.cl = false) (hn : s.ss.length ≤ 1000000) (hm : s.rs.length ≤ 1000000) : Calls Try.prog 43 #[.pointer (some ⟨c, 0, none⟩)] w (ShR F c s w) := by
  have c0 := h.c0
  have c1 := h.c1
  rw [hk] at c0
  rw [hc] at c1
  have hg := Lib.hid (shut_any h hn hm)
  clear h
  go_enter Try.func43, Try.ntmps43
  go_wp2_with fail
  refine hg.out.mono ?_
  rintro e w' ⟨A, cap, rfl, hK, hG⟩
  have HP : Hid (RdK w' A (tot s).length (tot s) ∧ Go F c (done s) w w') := ⟨hK, hG⟩
  clear hK hG hg
  go_wp2
  go_ret
  exact ⟨A, cap, rfl, HP.out.1, HP.out.2⟩
end

/-! On no channel. -/
theorem send_nil (v : Int) (w : World) : Calls Try.prog 23 #[.pointer none, .int .i64 v] w fun e w' => e = .returned (.tuple #[.bool false, .slice none 0 0, .int .i64 0]) ∧ w = w' := by
  go_enter Try.func23, Try.ntmps23
  go_wp2
  go_ret3
  exact ⟨rfl, rfl⟩
theorem recv_nil (w : World) : Calls Try.prog 32 #[.pointer none] w fun e w' => e = .returned (.tuple #[.int .i64 0, .bool false, .bool false, .slice none 0 0]) ∧ w = w' := by
  go_enter Try.func32, Try.ntmps32
  go_wp2
  refine bodyPost_ret (results_tmp4 rfl _ _ _) rfl ?_
  exact ⟨rfl, rfl⟩
theorem close_nil (w : World) : Calls Try.prog 27 #[.pointer none] w fun e w' => e = .returned (.tuple #[.slice none 0 0, .int .i64 6]) ∧ w = w' := by
  go_enter Try.func27, Try.ntmps27
  go_wp2
  go_ret2
  exact ⟨rfl, rfl⟩
theorem wait_nil (x : Wt) (b : Bool) (w : World) : Calls Try.prog 35 #[.pointer none, wG x, .bool b] w fun e w' => e = .returned (.int .i64 6) ∧ Below w.heap.size w w' := by
  unfold wG
  go_enter Try.func35, Try.ntmps35
  go_wp2
  go_ret
  exact ⟨rfl, below_al _ _⟩
theorem remove_nil (t : Int) (w : World) : Calls Try.prog 37 #[.pointer none, .int .i64 t] w fun e w' => e = .returned (.int .i64 0) ∧ w = w' := by
  go_enter Try.func37, Try.ntmps37
  go_wp2
  go_ret
  exact ⟨rfl, rfl⟩
theorem can_nil (b : Bool) (w : World) : Calls Try.prog 53 #[.pointer none, .bool b] w fun e w' => e = .returned (.bool false) ∧ w = w' := by
  go_enter Try.func53, Try.ntmps53
  go_wp2
  go_ret
  exact ⟨rfl, rfl⟩
theorem put_nil (v : Int) (w : World) : Calls Try.prog 39 #[.pointer none, .int .i64 v] w fun e w' => e = .returned (.tuple #[.slice none 0 0, .bool false]) ∧ w = w' := by
  go_enter Try.func39, Try.ntmps39
  go_wp2
  go_ret2
  exact ⟨rfl, rfl⟩
theorem drop_nil (w : World) : Calls Try.prog 41 #[.pointer none] w fun e w' => e = .returned (.bool false) ∧ w = w' := by
  go_enter Try.func41, Try.ntmps41
  go_wp2
  go_ret
  exact ⟨rfl, rfl⟩
theorem end_nil (w : World) : Calls Try.prog 43 #[.pointer none] w fun e w' => e = .returned (.slice none 0 0) ∧ w = w' := by
  go_enter Try.func43, Try.ntmps43
  go_wp2
  go_ret
  exact ⟨rfl, rfl⟩
theorem len_none (w : World) : Calls Try.prog 26 #[.pointer none] w fun e w' => e = .returned (.int .i64 0) ∧ w = w' := by
  go_enter Try.func26, Try.ntmps26
  go_wp2
  go_ret
  exact ⟨rfl, rfl⟩
theorem cap_none (w : World) : Calls Try.prog 51 #[.pointer none] w fun e w' => e = .returned (.int .i64 0) ∧ w = w' := by
  go_enter Try.func51, Try.ntmps51
  go_wp2
  go_ret
  exact ⟨rfl, rfl⟩
theorem closed_none (w : World) : Calls Try.prog 52 #[.pointer none] w fun e w' => e = .returned (.bool false) ∧ w = w' := by
  go_enter Try.func52, Try.ntmps52
  go_wp2
  go_ret
  exact ⟨rfl, rfl⟩
theorem waiting_none (b : Bool) (w : World) : Calls Try.prog 24 #[.pointer none, .bool b] w fun e w' => e = .returned (.slice none 0 0) ∧ w = w' := by
  go_enter Try.func24, Try.ntmps24
  go_wp2
  go_ret
  exact ⟨rfl, rfl⟩
end Go.Proofs.Ytmcacmbllpphiaa
