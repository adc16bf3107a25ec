/- awake says true. No condition. -/
import Derived.Test.YtbpoippgioincaaSta
namespace Go.Proofs.Ytbpoippgioincaa
open Go.RowKit
set_option linter.unusedVariables false
set_option maxRecDepth 100000
theorem wf_small {x : Int} (h1 : -1000000 ≤ x) (h2 : x ≤ 1000000) : Wf x := wf_of (by omega) (by omega)
set_option maxRecDepth 100000 in
set_option maxHeartbeats 8000000 in
theorem awake_any (W : World) : Calls Try.prog 10 #[] W (BoolR true W) := by
  go_enter Try.func10, Try.ntmps10
  go_wp2_with fail
  refine (st_new (Below.refl _ W)).mono ?_
  rintro e w0 ⟨rfl, h0, -⟩
  have H0 := Lib.hid h0
  clear h0
  go_wp2_with fail
  refine (st_add 7 5 H0.out (wf_small (by decide) (by decide)) (by simp [ids]) (by decide) (by decide)).mono ?_
  rintro e w1 ⟨rfl, h, -⟩
  have H1 : Hid (ST W (W.heap.size + 1) W.heap.size 1 [⟨7, 5, 1⟩] [] w1) := h
  clear h H0
  go_wp2_with fail
  refine (st_add 8 3 H1.out (wf_small (by decide) (by decide)) (by simp [ids]) (by decide) (by decide)).mono ?_
  rintro e w2 ⟨rfl, h, -⟩
  have H2 : Hid (ST W (W.heap.size + 1) W.heap.size 2 [⟨8, 3, 2⟩, ⟨7, 5, 1⟩] [] w2) := h
  clear h H1
  go_wp2_with fail
  refine (st_add_old 7 1 H2.out (wf_small (by decide) (by decide)) (by simp [ids])).mono ?_
  rintro e w3 ⟨rfl, h, -⟩
  have H3 : Hid (ST W (W.heap.size + 1) W.heap.size 2 [⟨8, 3, 2⟩, ⟨7, 5, 1⟩] [] w3) := h
  clear h H2
  go_wp2_with fail
  refine (st_min H3.out (by decide)).mono ?_
  rintro e w4 ⟨rfl, h, -⟩
  have H4 : Hid (ST W (W.heap.size + 1) W.heap.size 2 [⟨8, 3, 2⟩, ⟨7, 5, 1⟩] [] w4) := h
  clear h H3
  have H4 := Lib.hid (H4.out.box (⟨8, 3, 2⟩ : It))
  go_wp2_with fail
  refine (st_move 8 9 H4.out (wf_small (by decide) (by decide)) (by simp [ids]) (by decide) (by decide)).mono ?_
  rintro e w5 ⟨rfl, h, -⟩
  have H5 : Hid (ST W (W.heap.size + 1) W.heap.size 3 [⟨7, 5, 1⟩, ⟨8, 9, 3⟩] [(w4.heap.size, (⟨8, 3, 2⟩ : It))] w5) := h
  clear h H4
  go_wp2_with fail
  refine (st_move_no 4 1 H5.out (wf_small (by decide) (by decide)) (by simp [ids])).mono ?_
  rintro e w6 ⟨rfl, h, -⟩
  have H6 : Hid (ST W (W.heap.size + 1) W.heap.size 3 [⟨7, 5, 1⟩, ⟨8, 9, 3⟩] [(w4.heap.size, (⟨8, 3, 2⟩ : It))] w6) := h
  clear h H5
  go_wp2_with fail
  refine (st_pop H6.out (by decide)).mono ?_
  rintro e w7 ⟨rfl, h, -⟩
  have H7 : Hid (ST W (W.heap.size + 1) W.heap.size 3 [⟨8, 9, 3⟩] [(w4.heap.size, (⟨8, 3, 2⟩ : It))] w7) := h
  clear h H6
  have H7 := Lib.hid (H7.out.box (⟨7, 5, 1⟩ : It))
  go_wp2_with fail
  refine (st_find (x := ⟨8, 9, 3⟩) H7.out (by simp) (by decide)).mono ?_
  rintro e w8 ⟨rfl, h, -⟩
  have H8 : Hid (ST W (W.heap.size + 1) W.heap.size 3 [⟨8, 9, 3⟩] [(w7.heap.size, (⟨7, 5, 1⟩ : It)), (w4.heap.size, (⟨8, 3, 2⟩ : It))] w8) := h
  clear h H7
  have H8 := Lib.hid (H8.out.box (⟨8, 9, 3⟩ : It))
  go_wp2_with fail
  refine (st_rem (x := ⟨8, 9, 3⟩) H8.out (by simp) (by decide)).mono ?_
  rintro e w9 ⟨rfl, h, -⟩
  have H9 : Hid (ST W (W.heap.size + 1) W.heap.size 3 [] [(w8.heap.size, (⟨8, 9, 3⟩ : It)), (w7.heap.size, (⟨7, 5, 1⟩ : It)), (w4.heap.size, (⟨8, 3, 2⟩ : It))] w9) := h
  clear h H8
  have H9 := Lib.hid (H9.out.box (⟨8, 9, 3⟩ : It))
  go_wp2_with fail
  refine (st_pop_no H9.out).mono ?_
  rintro e w10 ⟨rfl, h, -⟩
  have H10 : Hid (ST W (W.heap.size + 1) W.heap.size 3 [] [(w9.heap.size, (⟨8, 9, 3⟩ : It)), (w8.heap.size, (⟨8, 9, 3⟩ : It)), (w7.heap.size, (⟨7, 5, 1⟩ : It)), (w4.heap.size, (⟨8, 3, 2⟩ : It))] w10) := h
  clear h H9
  have H10 := Lib.hid (H10.out.box (zI : It))
  go_wp2_with fail
  refine (min_nil _).mono ?_
  rintro e w11 ⟨rfl, h⟩
  have H11 := Lib.hid (H10.out.later h)
  obtain ⟨p0, p1, p2, -⟩ := (H11.out.blk (s := w4.heap.size) (x := ⟨8, 3, 2⟩) (by simp)).cells
  obtain ⟨q0, q1, q2, -⟩ := (H11.out.blk (s := w7.heap.size) (x := ⟨7, 5, 1⟩) (by simp)).cells
  obtain ⟨r0, r1, r2, -⟩ := (H11.out.blk (s := w8.heap.size) (x := ⟨8, 9, 3⟩) (by simp)).cells
  obtain ⟨s0, s1, s2, -⟩ := (H11.out.blk (s := w9.heap.size) (x := ⟨8, 9, 3⟩) (by simp)).cells
  have l4 := (H11.out.blo (s := w4.heap.size) (x := ⟨8, 3, 2⟩) (by simp)).2
  have l7 := (H11.out.blo (s := w7.heap.size) (x := ⟨7, 5, 1⟩) (by simp)).2
  have l8 := (H11.out.blo (s := w8.heap.size) (x := ⟨8, 9, 3⟩) (by simp)).2
  have l9 := (H11.out.blo (s := w9.heap.size) (x := ⟨8, 9, 3⟩) (by simp)).2
  have H12 := Lib.hid (H11.out.box zI)
  have HL := Lib.hid (st_len H12.out)
  clear h H10 H11
  go_wp2_with (first
    | (go_at_call 23; go_loud (refine HL.out.mono ?_; rintro e w' ⟨rfl, rfl⟩))
    | (go_at_call 12; go_loud (refine (add_nil 1 1 _).mono ?_; rintro e w' ⟨rfl, rfl⟩)))
  go_ret
  exact ⟨rfl, H12.out.bel⟩
end Go.Proofs.Ytbpoippgioincaa
