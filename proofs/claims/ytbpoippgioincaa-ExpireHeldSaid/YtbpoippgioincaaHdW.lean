/- The walk of ExpireHeld. No condition. -/
import Derived.Test.YtbpoippgioincaaAwt
namespace Go.Proofs.Ytbpoippgioincaa
open Go.RowKit
set_option linter.unusedVariables false
set_option maxRecDepth 100000
theorem nx_le {wh per now : Int} (h : wh ≤ 4611686018427387904) : nx wh per now ≤ 4611686018427387904 := by
  unfold nx
  split
  · exact h
  · exact hd_hi _
theorem held_out (a b : Int) (W : World) (h : a < 0 ∨ 1000 < a ∨ b < 1 ∨ 1099511627776 < b) : Calls Try.prog 9 #[.int .i64 a, .int .i64 b] W (BoolR true W) := by
  by_cases h1 : a < 0
  · clear h
    go_enter Try.func9, Try.ntmps9
    go_wp2_with fail
    refine (awaket_any W).mono ?_
    rintro e w' ⟨rfl, hb⟩
    have HB := Lib.hid hb
    clear hb
    go_wp2_with fail
    go_ret
    exact ⟨rfl, HB.out⟩
  by_cases h2 : 1000 < a
  · clear h
    go_enter Try.func9, Try.ntmps9
    go_wp2_with fail
    refine (awaket_any W).mono ?_
    rintro e w' ⟨rfl, hb⟩
    have HB := Lib.hid hb
    clear hb
    go_wp2_with fail
    go_ret
    exact ⟨rfl, HB.out⟩
  by_cases h3 : b < 1
  · clear h
    go_enter Try.func9, Try.ntmps9
    go_wp2_with fail
    refine (awaket_any W).mono ?_
    rintro e w' ⟨rfl, hb⟩
    have HB := Lib.hid hb
    clear hb
    go_wp2_with fail
    go_ret
    exact ⟨rfl, HB.out⟩
  have h4 : 1099511627776 < b := by omega
  clear h
  go_enter Try.func9, Try.ntmps9
  go_wp2_with fail
  refine (awaket_any W).mono ?_
  rintro e w' ⟨rfl, hb⟩
  have HB := Lib.hid hb
  clear hb
  go_wp2_with fail
  go_ret
  exact ⟨rfl, HB.out⟩
set_option maxHeartbeats 8000000 in
theorem held_in (a b : Int) (W : World) (h1 : ¬ a < 0) (h2 : ¬ 1000 < a) (h3 : ¬ b < 1) (h4 : ¬ 1099511627776 < b) : Calls Try.prog 9 #[.int .i64 a, .int .i64 b] W (BoolR true W) := by
  have F1 : Hid (Fit a ∧ Fit b) := ⟨⟨by omega, by omega⟩, ⟨by omega, by omega⟩⟩
  have F2 : Hid (a ≤ 1000) := by show a ≤ 1000; omega
  go_enter Try.func9, Try.ntmps9
  go_wp2_with fail
  refine (xs_new (Below.refl _ W)).mono ?_
  rintro e w0 ⟨rfl, h0, -⟩
  have H0 := Lib.hid h0
  clear h0
  go_wp2_with fail
  generalize W.heap.size + 3 = t at *
  refine (H0.out.run (tn_arm 1 a b H0.out.tn (wf_small (by decide) (by decide)) F1.out.1 F1.out.2 (by decide) (by decide))).mono ?_
  rintro e w1 ⟨rfl, h, -⟩
  have H1 : Hid (XS W t (W.heap.size + 1) W.heap.size (W.heap.size + 2) 1 [⟨1, a, 1⟩] (fput (fun _ => 0) 1 b) w1) := h
  clear h H0
  go_wp2_with fail
  refine (H1.out.run (tn_arm 2 4611686018427387904 0 H1.out.tn (wf_small (by decide) (by decide)) (by decide) (by decide) (by decide) (by simp))).mono ?_
  rintro e w2 ⟨rfl, h, -⟩
  have H2 : Hid (XS W t (W.heap.size + 1) W.heap.size (W.heap.size + 2) 2 [⟨1, a, 1⟩, ⟨2, 4611686018427387904, 2⟩] (fput (fput (fun _ => 0) 1 b) 2 0) w2) := by
    have e1 : ins ⟨2, 4611686018427387904, ((1 : Nat) : Int) + 1⟩ (del 2 [⟨1, a, 1⟩]) = [⟨1, a, 1⟩, ⟨2, 4611686018427387904, 2⟩] := by
      have := F2.out
      simp [del, ins, show ¬ (4611686018427387904 : Int) < a by omega]
    rw [e1] at h; exact h
  clear h H1
  go_wp2_with fail
  refine (tn_arm_bad 3 4611686018427387905 0 t w2 (by decide)).mono ?_
  rintro e w3 ⟨rfl, rfl⟩
  go_wp2_with fail
  refine (tn_arm_bad 3 5 4611686018427387905 t w2 (by decide)).mono ?_
  rintro e w3 ⟨rfl, rfl⟩
  go_wp2_with fail
  refine (H2.out.run (tn_take_end (now := 4611686018427387904) H2.out.tn (by simp) (by have := F2.out; show a ≤ _; omega) (fun e => by
    have h5 := e.2
    have h6 : nx a (fput (fput (fun _ => (0 : Int)) 1 b) 2 0 1) 4611686018427387904 ≤ 4611686018427387904 := nx_le (by have := F2.out; omega)
    have h7 : (4611686018427387904 : Int) < nx a (fput (fput (fun _ => (0 : Int)) 1 b) 2 0 1) 4611686018427387904 := h5
    omega))).mono ?_
  rintro e w3 ⟨rfl, h, -⟩
  have H3 := Lib.hid h
  clear h H2
  have D3 := Lib.hid (Dbk.new w3 1 a 4611686018427387904)
  have H3 := Lib.hid (H3.out.box (.cells #[.int .i64 1, .int .i64 a, .int .i64 4611686018427387904] 63))
  go_wp2_with fail
  refine (H3.out.run (tn_armed_no (k := 1) H3.out.tn (wf_small (by decide) (by decide)) (by simp [ids]))).mono ?_
  rintro e w4 ⟨rfl, h, ho⟩
  have H4 := Lib.hid h
  have D4 := Lib.hid (D3.out.ox ho)
  clear h ho H3 D3
  go_wp2_with fail
  refine (H4.out.run (tn_take_end (now := 4611686018427387904) H4.out.tn (by simp) (by decide) (fun e => by
    have h5 := (nxB_all e.1).1
    revert h5
    simp [fput]))).mono ?_
  rintro e w5 ⟨rfl, h, ho⟩
  have H5 := Lib.hid h
  have D5 := Lib.hid ((D4.out.ox ho).later (below_al w5 (.cells #[.int .i64 2, .int .i64 4611686018427387904, .int .i64 4611686018427387904] 63)))
  have E5 := Lib.hid (Dbk.new w5 2 4611686018427387904 4611686018427387904)
  clear h H4 ho D4
  have H5 := Lib.hid (H5.out.box (.cells #[.int .i64 2, .int .i64 4611686018427387904, .int .i64 4611686018427387904] 63))
  go_wp2_with fail
  refine (H5.out.run (tn_take_no (now := 4611686018427387904) H5.out.tn (by decide) trivial)).mono ?_
  rintro e w6 ⟨rfl, h, ho⟩
  have H6 := Lib.hid h
  have D6 := Lib.hid ((D5.out.ox ho).later (below_al w6 (.cells #[.int .i64 0, .int .i64 0, .int .i64 0] 63)))
  have E6 := Lib.hid ((E5.out.ox ho).later (below_al w6 (.cells #[.int .i64 0, .int .i64 0, .int .i64 0] 63)))
  clear h H5 ho D5 E5
  have H6 := Lib.hid (H6.out.box (.cells #[.int .i64 0, .int .i64 0, .int .i64 0] 63))
  obtain ⟨p0, p1, p2, -⟩ := D6.out.cells
  obtain ⟨q0, q1, q2, -⟩ := E6.out.cells
  have l3 := lt_of_blk D6.out
  have l5 := lt_of_blk E6.out
  go_upto_region 10 with (fail)
  generalize w6.alloc (.cells #[.int .i64 0, .int .i64 0, .int .i64 0] 63) = w7 at *
  go_wp2_with fail
  refine (tn_len H6.out.tn).mono ?_
  rintro e w8 ⟨rfl, rfl⟩
  go_wp2_with fail
  refine (awaket_any w7).mono ?_
  rintro e w8 ⟨rfl, hb⟩
  have HB := Lib.hid (H6.out.later hb)
  clear hb
  go_wp2_with fail
  go_ret
  exact ⟨rfl, HB.out.bel⟩
theorem held_walk (a b : Int) (W : World) : Calls Try.prog 9 #[.int .i64 a, .int .i64 b] W (BoolR true W) := by
  by_cases h : a < 0 ∨ 1000 < a ∨ b < 1 ∨ 1099511627776 < b
  · exact held_out a b W h
  · exact held_in a b W (by omega) (by omega) (by omega) (by omega)
end Go.Proofs.Ytbpoippgioincaa
