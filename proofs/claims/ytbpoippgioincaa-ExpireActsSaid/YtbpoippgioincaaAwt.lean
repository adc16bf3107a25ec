/- awake of layer 12 says true. No condition. -/
import Derived.Test.YtbpoippgioincaaTlw
namespace Go.Proofs.Ytbpoippgioincaa
open Go.RowKit
set_option linter.unusedVariables false
set_option maxRecDepth 100000
set_option maxHeartbeats 8000000 in
theorem awaket_any (W : World) : Calls Try.prog 28 #[] W (BoolR true W) := by
  go_enter Try.func28, Try.ntmps28
  go_wp2_with fail
  refine (xs_new (Below.refl _ W)).mono ?_
  rintro e w0 ⟨rfl, h0, -⟩
  have H0 := Lib.hid h0
  clear h0
  go_wp2_with fail
  generalize W.heap.size + 3 = t at *
  refine (H0.out.run (tn_arm 1 10 5 H0.out.tn (wf_small (by decide) (by decide)) (by decide) (by decide) (by decide) (by decide))).mono ?_
  rintro e w1 ⟨rfl, h, -⟩
  have H1 : Hid (XS W t (W.heap.size + 1) W.heap.size (W.heap.size + 2) 1 [⟨1, 10, 1⟩] (fput (fun _ => 0) 1 5) w1) := h
  clear h H0
  go_wp2_with fail
  refine (H1.out.run (tn_arm 2 12 0 H1.out.tn (wf_small (by decide) (by decide)) (by decide) (by decide) (by decide) (by decide))).mono ?_
  rintro e w2 ⟨rfl, h, -⟩
  have H2 : Hid (XS W t (W.heap.size + 1) W.heap.size (W.heap.size + 2) 2 [⟨1, 10, 1⟩, ⟨2, 12, 2⟩] (fput (fput (fun _ => 0) 1 5) 2 0) w2) := h
  clear h H1
  go_wp2_with fail
  refine (tn_arm_bad 3 (-1) 0 t w2 (by decide)).mono ?_
  rintro e w3 ⟨rfl, rfl⟩
  go_wp2_with fail
  refine (H2.out.run (tn_take_on (now := 22) H2.out.tn (by decide) (by decide) (by decide) (by decide))).mono ?_
  rintro e w3 ⟨rfl, h, -⟩
  have H3 : Hid (XS W t (W.heap.size + 1) W.heap.size (W.heap.size + 2) 3 [⟨2, 12, 2⟩, ⟨1, 25, 3⟩] (fput (fput (fun _ => 0) 1 5) 2 0) w3) := h
  clear h H2
  have D3 := Lib.hid (Dbk.new w3 1 10 22)
  have H3 := Lib.hid (H3.out.box (.cells #[.int .i64 1, .int .i64 10, .int .i64 22] 63))
  go_wp2_with fail
  refine (H3.out.run (tn_take_end (now := 22) H3.out.tn (by decide) (by decide) (by decide))).mono ?_
  rintro e w4 ⟨rfl, h, ho⟩
  have H4 : Hid (XS W t (W.heap.size + 1) W.heap.size (W.heap.size + 2) 3 [⟨1, 25, 3⟩] (fput (fput (fput (fun _ => 0) 1 5) 2 0) 2 0) w4) := h
  have D4 := Lib.hid ((D3.out.ox ho).later (below_al w4 (.cells #[.int .i64 2, .int .i64 12, .int .i64 22] 63)))
  clear h H3 ho
  have E4 := Lib.hid (Dbk.new w4 2 12 22)
  have H4 := Lib.hid (H4.out.box (.cells #[.int .i64 2, .int .i64 12, .int .i64 22] 63))
  go_wp2_with fail
  refine (H4.out.run (tn_take_no (now := 22) H4.out.tn (by decide) (by show (22 : Int) < 25; decide))).mono ?_
  rintro e w5 ⟨rfl, h, ho⟩
  have H5 := Lib.hid h
  have D5 := Lib.hid ((D4.out.ox ho).later (below_al w5 (.cells #[.int .i64 0, .int .i64 0, .int .i64 0] 63)))
  have E5 := Lib.hid ((E4.out.ox ho).later (below_al w5 (.cells #[.int .i64 0, .int .i64 0, .int .i64 0] 63)))
  clear h H4 ho D4 E4 D3
  have H5 := Lib.hid (H5.out.box (.cells #[.int .i64 0, .int .i64 0, .int .i64 0] 63))
  go_wp2_with fail
  refine (H5.out.run (tn_armed_yes (x := ⟨1, 25, 3⟩) H5.out.tn (by simp) (by decide))).mono ?_
  rintro e w6 ⟨rfl, h, ho⟩
  have H6 := Lib.hid h
  have D6 := Lib.hid (D5.out.ox ho)
  have E6 := Lib.hid (E5.out.ox ho)
  clear h H5 ho D5 E5
  go_wp2_with fail
  refine (H6.out.run (tn_next H6.out.tn (by decide))).mono ?_
  rintro e w7 ⟨rfl, h, ho⟩
  have H7 := Lib.hid h
  have D7 := Lib.hid (D6.out.ox ho)
  have E7 := Lib.hid (E6.out.ox ho)
  clear h H6 ho D6 E6
  obtain ⟨p0, p1, p2, -⟩ := D7.out.cells
  obtain ⟨q0, q1, q2, -⟩ := E7.out.cells
  have e5 : fput (fput (fput (fun _ => (0 : Int)) 1 5) 2 0) 2 0 1 = 5 := by decide
  go_wp2_with fail
  refine (H7.out.run (tn_stop_yes (x := ⟨1, 25, 3⟩) H7.out.tn (by simp) (by decide))).mono ?_
  rintro e w8 ⟨rfl, h, -⟩
  have H8 : Hid (XS W t (W.heap.size + 1) W.heap.size (W.heap.size + 2) 3 [] (fput (fput (fput (fput (fun _ => 0) 1 5) 2 0) 2 0) 1 0) w8) := h
  clear h H7 p0 p1 p2 q0 q1 q2 D7 E7 e5 H3 H4
  go_wp2_with fail
  refine (H8.out.run (tn_stop_no (k := 1) H8.out.tn (wf_small (by decide) (by decide)) (by simp [ids]))).mono ?_
  rintro e w9 ⟨rfl, h, -⟩
  have H9 := Lib.hid h
  clear h H8
  go_wp2_with fail
  refine (tn_len H9.out.tn).mono ?_
  rintro e w10 ⟨rfl, rfl⟩
  go_wp2_with fail
  refine (stop_nil 1 _).mono ?_
  rintro e w10 ⟨rfl, rfl⟩
  go_wp2_with fail
  refine (arm_nil 1 1 1 _).mono ?_
  rintro e w10 ⟨rfl, rfl⟩
  go_wp2_with fail
  go_ret
  exact ⟨rfl, H9.out.bel⟩
end Go.Proofs.Ytbpoippgioincaa
