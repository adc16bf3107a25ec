/-
  Proved here: the reference's next time of a row is that of package clock. Conditions: each theorem's own premises.
-/
import Derived.Test.YtkjkcgmpmhkhoaaClk
namespace Go.Proofs.Ytkjkcgmpmhkhoaa
open Go.RowKit

theorem nx_mul (when per now : Int) (hge : when ≤ now) : nx when per now = hd (when + ((now - when) / per + 1) * per) := by
  have e := Int.emod_add_mul_ediv (now - when) per
  have e2 : ((now - when) / per + 1) * per = per * ((now - when) / per) + per := by rw [Int.add_mul, Int.mul_comm, Int.one_mul]
  unfold nx
  rw [if_neg (by omega), e2, show now - (now - when) % per + per = when + (per * ((now - when) / per) + per) from by omega]

theorem rnext_no (when per now : Int) (w : World) (h : nxB when per now = false) :
    Calls Try.prog 10 #[.int .i64 when, .int .i64 per, .int .i64 now] w fun e w' => e = .returned (.tuple #[.int .i64 0, .int .i64 1]) ∧ w = w' := by
  have h' : ¬ (1 ≤ per ∧ 0 ≤ when ∧ 0 ≤ now ∧ when ≤ 4611686018427387904 ∧ per ≤ 4611686018427387904 ∧ now ≤ 4611686018427387904) := by
    intro k; simp [nxB, k] at h
  clear h
  by_cases c1 : per < 1
  · go_enter Try.func10, Try.ntmps10
    go_wp2
    go_ret2
    exact ⟨rfl, rfl⟩
  by_cases c2 : when < 0
  · go_enter Try.func10, Try.ntmps10
    go_wp2
    go_ret2
    exact ⟨rfl, rfl⟩
  by_cases c3 : now < 0
  · go_enter Try.func10, Try.ntmps10
    go_wp2
    go_ret2
    exact ⟨rfl, rfl⟩
  by_cases c5 : 4611686018427387904 < per
  · go_enter Try.func10, Try.ntmps10
    go_wp2
    go_ret2
    exact ⟨rfl, rfl⟩
  by_cases c4 : 4611686018427387904 < when
  · go_enter Try.func10, Try.ntmps10
    go_wp2
    go_ret2
    exact ⟨rfl, rfl⟩
  have c6 : 4611686018427387904 < now := by omega
  clear h'
  go_enter Try.func10, Try.ntmps10
  go_wp2
  go_ret2
  exact ⟨rfl, rfl⟩

theorem rnext_yes (when per now : Int) (w : World) (h1 : 1 ≤ per) (h2 : 0 ≤ when) (h3 : 0 ≤ now) (h4 : when ≤ 4611686018427387904) (h5 : per ≤ 4611686018427387904) (h6 : now ≤ 4611686018427387904) :
    Calls Try.prog 10 #[.int .i64 when, .int .i64 per, .int .i64 now] w fun e w' => e = .returned (.tuple #[.int .i64 (nx when per now), .int .i64 0]) ∧ w = w' := by
  by_cases hlt : now < when
  · go_enter Try.func10, Try.ntmps10
    go_wp2
    go_ret2
    exact ⟨by rw [show nx when per now = when from if_pos hlt]; rfl, rfl⟩
  · have hge : when ≤ now := by omega
    have hn := nx_mul when per now hge
    have q0 : 0 ≤ (now - when) / per := Int.ediv_nonneg (by omega) (by omega)
    have q1 : (now - when) / per ≤ now - when := Int.ediv_le_self _ (by omega)
    have dd := Int.ediv_nonneg (a := 4611686018427387904 - when) (b := (now - when) / per + 1) (by omega) (by omega)
    have dd2 : (4611686018427387904 - when) / ((now - when) / per + 1) ≤ 4611686018427387904 - when := Int.ediv_le_self _ (by omega)
    by_cases hc : (4611686018427387904 - when) / ((now - when) / per + 1) < per
    · have h' := (Int.ediv_lt_iff_lt_mul (by omega)).1 hc
      rw [Int.mul_comm] at h'
      have Hn : Hid (nx when per now = 4611686018427387904) := by show _ = _; rw [hn]; unfold hd; omega
      clear hn hlt h'
      go_enter Try.func10, Try.ntmps10
      go_wp2
      go_ret2
      exact ⟨by rw [Hn.out]; rfl, rfl⟩
    · have h' : ((now - when) / per + 1) * per ≤ 4611686018427387904 - when := by
        have := (Int.le_ediv_iff_mul_le (a := per) (b := 4611686018427387904 - when) (c := (now - when) / per + 1) (by omega)).1 (by omega)
        rw [Int.mul_comm]; exact this
      have h0 : 0 ≤ ((now - when) / per + 1) * per := Int.mul_nonneg (by omega) (by omega)
      have Hn : Hid (nx when per now = when + ((now - when) / per + 1) * per) := by show _ = _; rw [hn]; exact hd_in _ (by omega) (by omega)
      clear hn hlt
      have hc' : per ≤ (4611686018427387904 - when) / ((now - when) / per + 1) := by omega
      clear hc
      go_enter Try.func10, Try.ntmps10
      go_wp2
      go_ret2
      exact ⟨by rw [Hn.out]; rfl, rfl⟩

end Go.Proofs.Ytkjkcgmpmhkhoaa
