/- The laws' own example holds. No condition. -/
import Derived.Test.YtnldodpmfkekbaaMul
namespace Go.Proofs.Ytnldodpmfkekbaa
open Go.RowKit
set_option linter.unusedVariables false

theorem RdK.cells1 {w : World} {A : Option Addr} {x : Wk} (h : RdK w A 1 [x]) : ∃ b cs, A = some ⟨b, 0, none⟩ ∧ w.heap[b]? = some (.cells cs 45 (0, 0)) ∧ w.cell? ⟨b, 0, none⟩ = some (.int .i64 x.t) ∧ w.cell? ⟨b, 1, none⟩ = some (.int .i64 x.c) ∧ w.cell? ⟨b, 2, none⟩ = some (.int .i64 x.v) ∧ w.cell? ⟨b, 3, none⟩ = some (.bool x.ok) ∧ w.cell? ⟨b, 4, none⟩ = some (.bool x.pn) := by
  obtain ⟨b, cs, e, hb, hc⟩ := h.2 (by omega)
  have := hc 0 x rfl
  simp only [Nat.zero_mul, Nat.zero_add] at this
  exact ⟨b, cs, e, hb, this⟩
set_option maxRecDepth 100000 in
set_option maxHeartbeats 4000000 in
theorem awake_any (W : World) : Calls Try.prog 11 #[] W (BoolR true W) := by
  go_enter Try.func11, Try.ntmps11
  go_wp2_with fail
  refine (ms_new (MS.nil W) 1 (by omega)).mono ?_
  rintro e w1 ⟨c, rfl, s1, _⟩
  have S1 : Hid (MS W [(c, ⟨0, false, 1, [], [], []⟩)] w1) := s1
  clear s1
  go_wp2_with fail
  refine (new_no 65 w1 (by omega)).mono ?_
  rintro e w' ⟨rfl, rfl⟩
  go_wp2_with fail
  refine (ms_timed S1.out).mono ?_
  rintro e w2 ⟨t, rfl, s2, _⟩
  have S2 : Hid (MS W [(c, ⟨0, false, 1, [], [], []⟩), (t, ⟨1, false, 1, [], [], []⟩)] w2) := s2
  clear s2 S1
  go_wp2_with fail
  refine (ms_signal S2.out).mono ?_
  rintro e w3 ⟨u, rfl, s3, _⟩
  have S3 : Hid (MS W [(c, ⟨0, false, 1, [], [], []⟩), (t, ⟨1, false, 1, [], [], []⟩), (u, ⟨2, false, 0, [], [], []⟩)] w3) := s3
  clear s3 S2
  go_wp2_with fail
  refine (ms_send (i := 0) 1 S3.out rfl rfl rfl (by simp) rfl rfl).mono ?_
  rintro e w4 ⟨A4, n4, rfl, _, s4, _⟩
  have S4 : Hid (MS W [(c, ⟨0, false, 1, [1], [], []⟩), (t, ⟨1, false, 1, [], [], []⟩), (u, ⟨2, false, 0, [], [], []⟩)] w4) := s4
  clear s4 S3
  go_wp2_with fail
  refine (ms_send (i := 0) 2 S4.out rfl rfl rfl (by simp) rfl rfl).mono ?_
  rintro e w5 ⟨A5, n5, rfl, _, s5, _⟩
  have S5 : Hid (MS W [(c, ⟨0, false, 1, [1], [], []⟩), (t, ⟨1, false, 1, [], [], []⟩), (u, ⟨2, false, 0, [], [], []⟩)] w5) := s5
  clear s5 S4
  go_wp2_with fail
  refine (ms_wait (i := 0) ⟨4, 1, 2⟩ true (by unfold Wf; decide) S5.out rfl (by decide) rfl).mono ?_
  rintro e w6 ⟨rfl, s6, _⟩
  have S6 : Hid (MS W [(c, ⟨0, false, 1, [1], [⟨4, 1, 2⟩], []⟩), (t, ⟨1, false, 1, [], [], []⟩), (u, ⟨2, false, 0, [], [], []⟩)] w6) := s6
  clear s6 S5
  go_wp2_with fail
  refine (ms_recv (i := 0) S6.out rfl (by simp) rfl rfl).mono ?_
  rintro e w7 ⟨A7, n7, rfl, r7, s7, _⟩
  have S7 : Hid (MS W [(c, ⟨0, false, 1, [2], [], []⟩), (t, ⟨1, false, 1, [], [], []⟩), (u, ⟨2, false, 0, [], [], []⟩)] w7) := s7
  have R7 := Lib.hid r7
  clear s7 S6 r7
  go_wp2_with fail
  refine (ms_close (i := 0) (ws := []) S7.out rfl rfl rfl (by simp) (by simp) rfl rfl).mono ?_
  rintro e w8 ⟨A8, n8, rfl, _, s8, k8⟩
  have S8 : Hid (MS W [(c, ⟨0, true, 1, [2], [], []⟩), (t, ⟨1, false, 1, [], [], []⟩), (u, ⟨2, false, 0, [], [], []⟩)] w8) := s8
  have R8 := Lib.hid (R7.out.kp k8)
  clear s8 S7 R7 k8
  go_wp2_with fail
  refine (ms_send_closed (i := 0) 3 S8.out rfl rfl rfl).mono ?_
  rintro e w' ⟨rfl, rfl⟩
  go_wp2_with fail
  refine (ms_recv (i := 0) S8.out rfl (by simp) rfl rfl).mono ?_
  rintro e w9 ⟨A9, n9, rfl, _, s9, k9⟩
  have S9 : Hid (MS W [(c, ⟨0, true, 1, [], [], []⟩), (t, ⟨1, false, 1, [], [], []⟩), (u, ⟨2, false, 0, [], [], []⟩)] w9) := s9
  have R9 := Lib.hid (R8.out.kp k9)
  clear s9 S8 R8 k9
  go_wp2_with fail
  refine (ms_recv (i := 0) S9.out rfl (by simp) rfl rfl).mono ?_
  rintro e w10 ⟨A10, n10, rfl, _, s10, k10⟩
  have S10 : Hid (MS W [(c, ⟨0, true, 1, [], [], []⟩), (t, ⟨1, false, 1, [], [], []⟩), (u, ⟨2, false, 0, [], [], []⟩)] w10) := s10
  have R10 := Lib.hid (R9.out.kp k10)
  clear s10 S9 R9 k10
  go_wp2_with fail
  refine (ms_put (i := 1) 9 S10.out rfl rfl (by simp) rfl rfl).mono ?_
  rintro e w11 ⟨A11, n11, rfl, _, s11, k11⟩
  have S11 : Hid (MS W [(c, ⟨0, true, 1, [], [], []⟩), (t, ⟨1, false, 1, [9], [], []⟩), (u, ⟨2, false, 0, [], [], []⟩)] w11) := s11
  have R11 := Lib.hid (R10.out.kp k11)
  clear s11 S10 R10 k11
  go_wp2_with fail
  refine (ms_put (i := 1) 10 S11.out rfl rfl (by simp) rfl rfl).mono ?_
  rintro e w12 ⟨A12, n12, rfl, _, s12, k12⟩
  have S12 : Hid (MS W [(c, ⟨0, true, 1, [], [], []⟩), (t, ⟨1, false, 1, [9], [], []⟩), (u, ⟨2, false, 0, [], [], []⟩)] w12) := s12
  have R12 := Lib.hid (R11.out.kp k12)
  clear s12 S11 R11 k12
  go_wp2_with fail
  refine (ms_send_kind (i := 1) 1 S12.out rfl (by decide)).mono ?_
  rintro e w' ⟨rfl, rfl⟩
  go_wp2_with fail
  refine (ms_wait (i := 2) ⟨6, 0, 0⟩ false (by unfold Wf; decide) S12.out rfl (by decide) rfl).mono ?_
  rintro e w13 ⟨rfl, s13, k13⟩
  have S13 : Hid (MS W [(c, ⟨0, true, 1, [], [], []⟩), (t, ⟨1, false, 1, [9], [], []⟩), (u, ⟨2, false, 0, [], [], [⟨6, 0, 0⟩]⟩)] w13) := s13
  have R13 := Lib.hid (R12.out.kp k13)
  clear s13 S12 R12 k13
  go_wp2_with fail
  refine (ms_end (i := 2) (ws := [⟨6, 0, 0, false, false⟩]) S13.out rfl rfl rfl (by simp) (by simp) rfl rfl).mono ?_
  rintro e w14 ⟨A14, n14, rfl, r14, s14, k14⟩
  have S14 : Hid (MS W [(c, ⟨0, true, 1, [], [], []⟩), (t, ⟨1, false, 1, [9], [], []⟩), (u, ⟨2, true, 0, [], [], []⟩)] w14) := s14
  have R14 := Lib.hid (R13.out.kp k14)
  have Q14 := Lib.hid r14
  clear s14 S13 R13 k14 r14
  go_wp2_with fail
  refine (ms_close_kind (i := 2) S14.out rfl (by decide)).mono ?_
  rintro e w' ⟨rfl, rfl⟩
  go_wp2_with fail
  refine (close_nil _).mono ?_
  rintro e w' ⟨rfl, rfl⟩
  obtain ⟨b7, cs7, rfl, hb7, r0, r1, r2, r3, r4⟩ := RdK.cells1 R14.out
  simp only at r0 r1 r2 r3 r4
  go_wp2_with fail
  clear r0 r1 r2 r3 r4 hb7 R14
  refine (ms_len (i := 1) S14.out rfl).mono ?_
  rintro e w' ⟨rfl, rfl⟩
  go_wp2_with fail
  refine (ms_drop (i := 1) S14.out rfl rfl).mono ?_
  rintro e w15 ⟨rfl, s15, k15⟩
  have S15 : Hid (MS W [(c, ⟨0, true, 1, [], [], []⟩), (t, ⟨1, false, 1, [], [], []⟩), (u, ⟨2, true, 0, [], [], []⟩)] w15) := s15
  have Q15 := Lib.hid (Q14.out.kp k15)
  clear s15 S14 k15 Q14
  go_wp2_with fail
  refine (ms_drop (i := 1) S15.out rfl rfl).mono ?_
  rintro e w16 ⟨rfl, s16, k16⟩
  have S16 : Hid (MS W [(c, ⟨0, true, 1, [], [], []⟩), (t, ⟨1, false, 1, [], [], []⟩), (u, ⟨2, true, 0, [], [], []⟩)] w16) := s16
  obtain ⟨b9, cs9, rfl, hb9, r0, r1, r2, r3, r4⟩ := RdK.cells1 (Q15.out.kp k16)
  simp only at r0 r1 r2 r3 r4
  clear s16 S15 k16 Q15 hb9
  go_wp2_with fail
  refine (ms_closed (i := 2) S16.out rfl).mono ?_
  rintro e w' ⟨rfl, rfl⟩
  clear r0 r1 r2 r3 r4
  go_wp2_with fail
  go_ret
  exact ⟨rfl, S16.out.bel⟩
end Go.Proofs.Ytnldodpmfkekbaa
