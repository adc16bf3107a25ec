/- TimerLapses says true. No condition. -/
import Derived.Test.YtmadcnpkaijllaaLwk
namespace Go.Proofs.Ytmadcnpkaijllaa
open Go.RowKit Ch
set_option linter.unusedVariables false
set_option maxRecDepth 100000
set_option maxHeartbeats 16000000 in
theorem lapses_lo (wh ctx at_ : Int) (r : Bool) (W : World) (hw : wh < 0) (q0 : ¬ ctx < 0) (q1 : ¬ at_ < 0) (q2 : ¬ 4611686018427387904 < at_) : Calls Try.prog 9 #[.int .i64 wh, .int .i64 ctx, .int .i64 at_, .bool r] W (BoolR true W) := by
  have hy : hz wh = 0 := by unfold hz; omega
  have hm0 : ¬ 4611686018427387904 < (0 : Int) := by decide
  go_enter Try.func9, Try.ntmps9
  go_wp2_with fail
  refine (ss_new (Below.refl _ W)).mono ?_
  rintro e w0 ⟨rfl, h0, -⟩
  have H0 := Lib.hid h0
  clear h0
  generalize W.heap.size = t at *
  go_wp2_with fail
  refine (lapse_ok (wh := wh) (p := ctx) H0.out (by omega) (by decide) (by decide) (by decide)).mono ?_
  rintro e w1 ⟨he, h, -⟩
  rw [hy] at h
  obtain rfl : e = .returned (.tuple #[.int .i64 0, .int .i64 0]) := he
  have H1 : Hid (SS W t [⟨4, ctx, none, 1⟩] 0 1 [⟨0, 0, 1⟩] (fput (fun _ => 0) 0 0) [] w1) := h
  clear h H0 hy
  go_wp2_with fail
  refine (next_set H1.out (by simp)).mono ?_
  rintro e w2 ⟨he, h, -⟩
  obtain rfl : e = .returned (.tuple #[.int .i64 0, .bool true]) := he
  have H2 : Hid (SS W t [⟨4, ctx, none, 1⟩] 0 1 [⟨0, 0, 1⟩] (fput (fun _ => 0) 0 0) [] w2) := h
  clear h H1
  go_wp2_with fail
  refine (reset_kind (i := 0) (now := 0) (d := 5) H2.out rfl rfl (by decide)).mono ?_
  rintro e w3 ⟨rfl, h, -⟩
  have H3 := Lib.hid h
  clear h H2
  go_wp2_with fail
  refine (chan_any 0 H3.out).mono ?_
  rintro e w4 ⟨he, h, -⟩
  obtain rfl : e = .returned (.pointer none) := he
  have H4 := Lib.hid h
  clear h H3
  go_wp2_with fail
  refine (kind_any 0 H4.out).mono ?_
  rintro e w5 ⟨he, h, -⟩
  obtain rfl : e = .returned (.int .i64 4) := he
  have H5 := Lib.hid h
  clear h H4
  go_wp2_with fail
  refine (gen_any 0 H5.out).mono ?_
  rintro e w6 ⟨he, h, -⟩
  obtain rfl : e = .returned (.int .i64 1) := he
  have H6 := Lib.hid h
  clear h H5
  cases r
  · by_cases hd : 0 ≤ at_
    · as_aux_lemma =>
      go_wp2_with fail
      refine (fire_some (i := 0) (now := at_) H6.out (n' := 1) (S' := []) (g' := fput (fput (fun _ => 0) 0 0) 0 0) (tk_end (by simpa using hd) not_gon) rfl (Pt.none rfl) (by simp) (by decide) (by simp)).mono ?_
      rintro e w7 ⟨A, k, he, -, h, -⟩
      obtain rfl : e = .returned (.tuple #[.agg #[.int .i64 0, .int .i64 4, .int .i64 0, .int .i64 at_, .int .i64 ctx, .slice A 0 k, .bool false], .bool true]) := he
      have F7 := Lib.hid (Fbk.new w7 0 4 0 at_ ctx A 0 k false)
      have G7 : Hid (SS W t [⟨4, ctx, none, 1⟩] 0 1 [] (fput (fput (fun _ => 0) 0 0) 0 0) [] (w7.alloc (.cells #[.int .i64 0, .int .i64 4, .int .i64 0, .int .i64 at_, .int .i64 ctx, .slice A 0 k, .bool false] 35))) := SS.box h _
      clear h H6
      go_upto_region 18 with (fail)
      generalize w7.alloc (.cells #[.int .i64 0, .int .i64 4, .int .i64 0, .int .i64 at_, .int .i64 ctx, .slice A 0 k, .bool false] 35) = w7z at *
      generalize w7.heap.size = b7 at *
      obtain ⟨p0, p1, p2, p3, p4, p5, p6⟩ := F7.out.cells
      go_wp2_with fail
      refine (fire_no G7.out (tk_idle trivial) (by decide) (by simp)).mono ?_
      rintro e w8 ⟨he, h, -⟩
      obtain rfl : e = .returned (.tuple #[.agg #[.int .i64 0, .int .i64 0, .int .i64 0, .int .i64 0, .int .i64 0, .slice none 0 0, .bool false], .bool false]) := he
      have Gw8 : Hid (SS W t [⟨4, ctx, none, 1⟩] 0 1 [] (fput (fput (fun _ => 0) 0 0) 0 0) [] (w8.alloc (.cells #[.int .i64 0, .int .i64 0, .int .i64 0, .int .i64 0, .int .i64 0, .slice none 0 0, .bool false] 35))) := SS.box h _
      clear h G7
      go_upto_region 21 with (fail)
      generalize w8.alloc (.cells #[.int .i64 0, .int .i64 0, .int .i64 0, .int .i64 0, .int .i64 0, .slice none 0 0, .bool false] 35) = w8z at *
      go_wp2_with fail
      refine (awakes_any _).mono ?_
      rintro e w18 ⟨rfl, hb⟩
      have HB : Hid (Below W.heap.size W w18) := Gw8.out.bel.trans (hb.mono Gw8.out.bel.size)
      clear hb Gw8
      go_wp2_with fail
      go_ret
      exact ⟨rfl, HB.out⟩
    · exact absurd (by omega) hd
  · as_aux_lemma =>
    go_wp2_with fail
    refine (stop_set (i := 0) H6.out rfl (Drp.none rfl) (by simp) (by simp) (by simp)).mono ?_
    rintro e w7 ⟨he, h, -⟩
    obtain rfl : e = .returned (.tuple #[.bool true, .int .i64 0]) := he
    have G7 : Hid (SS W t [⟨4, ctx, none, 1⟩] 0 1 [] (fput (fput (fun _ => 0) 0 0) 0 0) [] w7) := h
    clear h H6
    go_wp2_with fail
    refine (stop_set (i := 0) G7.out rfl (Drp.none rfl) (by simp) (by simp) (by simp)).mono ?_
    rintro e w8 ⟨he, h, -⟩
    obtain rfl : e = .returned (.tuple #[.bool false, .int .i64 0]) := he
    have G8 : Hid (SS W t [⟨4, ctx, none, 1⟩] 0 1 [] (fput (fput (fput (fun _ => 0) 0 0) 0 0) 0 0) [] w8) := h
    clear h G7
    go_wp2_with fail
    refine (fire_no G8.out (tk_idle trivial) (by decide) (by simp)).mono ?_
    rintro e w9 ⟨he, h, -⟩
    obtain rfl : e = .returned (.tuple #[.agg #[.int .i64 0, .int .i64 0, .int .i64 0, .int .i64 0, .int .i64 0, .slice none 0 0, .bool false], .bool false]) := he
    have Gw9 : Hid (SS W t [⟨4, ctx, none, 1⟩] 0 1 [] (fput (fput (fput (fun _ => 0) 0 0) 0 0) 0 0) [] (w9.alloc (.cells #[.int .i64 0, .int .i64 0, .int .i64 0, .int .i64 0, .int .i64 0, .slice none 0 0, .bool false] 35))) := SS.box h _
    clear h G8
    go_upto_region 16 with (fail)
    generalize w9.alloc (.cells #[.int .i64 0, .int .i64 0, .int .i64 0, .int .i64 0, .int .i64 0, .slice none 0 0, .bool false] 35) = w9z at *
    go_wp2_with fail
    refine (awakes_any _).mono ?_
    rintro e w18 ⟨rfl, hb⟩
    have HB : Hid (Below W.heap.size W w18) := Gw9.out.bel.trans (hb.mono Gw9.out.bel.size)
    clear hb Gw9
    go_wp2_with fail
    go_ret
    exact ⟨rfl, HB.out⟩
set_option maxHeartbeats 16000000 in
theorem lapses_hi (wh ctx at_ : Int) (r : Bool) (W : World) (hw : 4611686018427387904 < wh) (q0 : ¬ ctx < 0) (q1 : ¬ at_ < 0) (q2 : ¬ 4611686018427387904 < at_) : Calls Try.prog 9 #[.int .i64 wh, .int .i64 ctx, .int .i64 at_, .bool r] W (BoolR true W) := by
  have hy : hz wh = 4611686018427387904 := by unfold hz; omega
  have hm0 : ¬ 4611686018427387904 < (0 : Int) := by decide
  go_enter Try.func9, Try.ntmps9
  go_wp2_with fail
  refine (ss_new (Below.refl _ W)).mono ?_
  rintro e w0 ⟨rfl, h0, -⟩
  have H0 := Lib.hid h0
  clear h0
  generalize W.heap.size = t at *
  go_wp2_with fail
  refine (lapse_ok (wh := wh) (p := ctx) H0.out (by omega) (by decide) (by decide) (by decide)).mono ?_
  rintro e w1 ⟨he, h, -⟩
  rw [hy] at h
  obtain rfl : e = .returned (.tuple #[.int .i64 0, .int .i64 0]) := he
  have H1 : Hid (SS W t [⟨4, ctx, none, 1⟩] 0 1 [⟨0, 4611686018427387904, 1⟩] (fput (fun _ => 0) 0 0) [] w1) := h
  clear h H0 hy
  go_wp2_with fail
  refine (next_set H1.out (by simp)).mono ?_
  rintro e w2 ⟨he, h, -⟩
  obtain rfl : e = .returned (.tuple #[.int .i64 4611686018427387904, .bool true]) := he
  have H2 : Hid (SS W t [⟨4, ctx, none, 1⟩] 0 1 [⟨0, 4611686018427387904, 1⟩] (fput (fun _ => 0) 0 0) [] w2) := h
  clear h H1
  go_wp2_with fail
  refine (reset_kind (i := 0) (now := 0) (d := 5) H2.out rfl rfl (by decide)).mono ?_
  rintro e w3 ⟨rfl, h, -⟩
  have H3 := Lib.hid h
  clear h H2
  go_wp2_with fail
  refine (chan_any 0 H3.out).mono ?_
  rintro e w4 ⟨he, h, -⟩
  obtain rfl : e = .returned (.pointer none) := he
  have H4 := Lib.hid h
  clear h H3
  go_wp2_with fail
  refine (kind_any 0 H4.out).mono ?_
  rintro e w5 ⟨he, h, -⟩
  obtain rfl : e = .returned (.int .i64 4) := he
  have H5 := Lib.hid h
  clear h H4
  go_wp2_with fail
  refine (gen_any 0 H5.out).mono ?_
  rintro e w6 ⟨he, h, -⟩
  obtain rfl : e = .returned (.int .i64 1) := he
  have H6 := Lib.hid h
  clear h H5
  cases r
  · by_cases hd : 4611686018427387904 ≤ at_
    · as_aux_lemma =>
      go_wp2_with fail
      refine (fire_some (i := 0) (now := at_) H6.out (n' := 1) (S' := []) (g' := fput (fput (fun _ => 0) 0 0) 0 0) (tk_end (by simpa using hd) not_gon) rfl (Pt.none rfl) (by simp) (by decide) (by simp)).mono ?_
      rintro e w7 ⟨A, k, he, -, h, -⟩
      obtain rfl : e = .returned (.tuple #[.agg #[.int .i64 0, .int .i64 4, .int .i64 4611686018427387904, .int .i64 at_, .int .i64 ctx, .slice A 0 k, .bool false], .bool true]) := he
      have F7 := Lib.hid (Fbk.new w7 0 4 4611686018427387904 at_ ctx A 0 k false)
      have G7 : Hid (SS W t [⟨4, ctx, none, 1⟩] 0 1 [] (fput (fput (fun _ => 0) 0 0) 0 0) [] (w7.alloc (.cells #[.int .i64 0, .int .i64 4, .int .i64 4611686018427387904, .int .i64 at_, .int .i64 ctx, .slice A 0 k, .bool false] 35))) := SS.box h _
      clear h H6
      go_upto_region 18 with (fail)
      generalize w7.alloc (.cells #[.int .i64 0, .int .i64 4, .int .i64 4611686018427387904, .int .i64 at_, .int .i64 ctx, .slice A 0 k, .bool false] 35) = w7z at *
      generalize w7.heap.size = b7 at *
      obtain ⟨p0, p1, p2, p3, p4, p5, p6⟩ := F7.out.cells
      go_wp2_with fail
      refine (fire_no G7.out (tk_idle trivial) (by decide) (by simp)).mono ?_
      rintro e w8 ⟨he, h, -⟩
      obtain rfl : e = .returned (.tuple #[.agg #[.int .i64 0, .int .i64 0, .int .i64 0, .int .i64 0, .int .i64 0, .slice none 0 0, .bool false], .bool false]) := he
      have Gw8 : Hid (SS W t [⟨4, ctx, none, 1⟩] 0 1 [] (fput (fput (fun _ => 0) 0 0) 0 0) [] (w8.alloc (.cells #[.int .i64 0, .int .i64 0, .int .i64 0, .int .i64 0, .int .i64 0, .slice none 0 0, .bool false] 35))) := SS.box h _
      clear h G7
      go_upto_region 21 with (fail)
      generalize w8.alloc (.cells #[.int .i64 0, .int .i64 0, .int .i64 0, .int .i64 0, .int .i64 0, .slice none 0 0, .bool false] 35) = w8z at *
      go_wp2_with fail
      refine (awakes_any _).mono ?_
      rintro e w18 ⟨rfl, hb⟩
      have HB : Hid (Below W.heap.size W w18) := Gw8.out.bel.trans (hb.mono Gw8.out.bel.size)
      clear hb Gw8
      go_wp2_with fail
      go_ret
      exact ⟨rfl, HB.out⟩
    · as_aux_lemma =>
      go_wp2_with fail
      refine (fire_no H6.out (tk_idle (by show at_ < 4611686018427387904; omega)) (by decide) (by simp)).mono ?_
      rintro e w7 ⟨he, h, -⟩
      obtain rfl : e = .returned (.tuple #[.agg #[.int .i64 0, .int .i64 0, .int .i64 0, .int .i64 0, .int .i64 0, .slice none 0 0, .bool false], .bool false]) := he
      have Gw7 : Hid (SS W t [⟨4, ctx, none, 1⟩] 0 1 [⟨0, 4611686018427387904, 1⟩] (fput (fun _ => 0) 0 0) [] (w7.alloc (.cells #[.int .i64 0, .int .i64 0, .int .i64 0, .int .i64 0, .int .i64 0, .slice none 0 0, .bool false] 35))) := SS.box h _
      clear h H6
      go_upto_region 18 with (fail)
      generalize w7.alloc (.cells #[.int .i64 0, .int .i64 0, .int .i64 0, .int .i64 0, .int .i64 0, .slice none 0 0, .bool false] 35) = w7z at *
      go_wp2_with fail
      refine (fire_no Gw7.out (tk_idle (by show at_ < 4611686018427387904; omega)) (by decide) (by simp)).mono ?_
      rintro e w8 ⟨he, h, -⟩
      obtain rfl : e = .returned (.tuple #[.agg #[.int .i64 0, .int .i64 0, .int .i64 0, .int .i64 0, .int .i64 0, .slice none 0 0, .bool false], .bool false]) := he
      have Gw8 : Hid (SS W t [⟨4, ctx, none, 1⟩] 0 1 [⟨0, 4611686018427387904, 1⟩] (fput (fun _ => 0) 0 0) [] (w8.alloc (.cells #[.int .i64 0, .int .i64 0, .int .i64 0, .int .i64 0, .int .i64 0, .slice none 0 0, .bool false] 35))) := SS.box h _
      clear h Gw7
      go_upto_region 21 with (fail)
      generalize w8.alloc (.cells #[.int .i64 0, .int .i64 0, .int .i64 0, .int .i64 0, .int .i64 0, .slice none 0 0, .bool false] 35) = w8z at *
      go_wp2_with fail
      refine (awakes_any _).mono ?_
      rintro e w18 ⟨rfl, hb⟩
      have HB : Hid (Below W.heap.size W w18) := Gw8.out.bel.trans (hb.mono Gw8.out.bel.size)
      clear hb Gw8
      go_wp2_with fail
      go_ret
      exact ⟨rfl, HB.out⟩
  · as_aux_lemma =>
    go_wp2_with fail
    refine (stop_set (i := 0) H6.out rfl (Drp.none rfl) (by simp) (by simp) (by simp)).mono ?_
    rintro e w7 ⟨he, h, -⟩
    obtain rfl : e = .returned (.tuple #[.bool true, .int .i64 0]) := he
    have G7 : Hid (SS W t [⟨4, ctx, none, 1⟩] 0 1 [] (fput (fput (fun _ => 0) 0 0) 0 0) [] w7) := h
    clear h H6
    go_wp2_with fail
    refine (stop_set (i := 0) G7.out rfl (Drp.none rfl) (by simp) (by simp) (by simp)).mono ?_
    rintro e w8 ⟨he, h, -⟩
    obtain rfl : e = .returned (.tuple #[.bool false, .int .i64 0]) := he
    have G8 : Hid (SS W t [⟨4, ctx, none, 1⟩] 0 1 [] (fput (fput (fput (fun _ => 0) 0 0) 0 0) 0 0) [] w8) := h
    clear h G7
    go_wp2_with fail
    refine (fire_no G8.out (tk_idle trivial) (by decide) (by simp)).mono ?_
    rintro e w9 ⟨he, h, -⟩
    obtain rfl : e = .returned (.tuple #[.agg #[.int .i64 0, .int .i64 0, .int .i64 0, .int .i64 0, .int .i64 0, .slice none 0 0, .bool false], .bool false]) := he
    have Gw9 : Hid (SS W t [⟨4, ctx, none, 1⟩] 0 1 [] (fput (fput (fput (fun _ => 0) 0 0) 0 0) 0 0) [] (w9.alloc (.cells #[.int .i64 0, .int .i64 0, .int .i64 0, .int .i64 0, .int .i64 0, .slice none 0 0, .bool false] 35))) := SS.box h _
    clear h G8
    go_upto_region 16 with (fail)
    generalize w9.alloc (.cells #[.int .i64 0, .int .i64 0, .int .i64 0, .int .i64 0, .int .i64 0, .slice none 0 0, .bool false] 35) = w9z at *
    go_wp2_with fail
    refine (awakes_any _).mono ?_
    rintro e w18 ⟨rfl, hb⟩
    have HB : Hid (Below W.heap.size W w18) := Gw9.out.bel.trans (hb.mono Gw9.out.bel.size)
    clear hb Gw9
    go_wp2_with fail
    go_ret
    exact ⟨rfl, HB.out⟩
set_option maxHeartbeats 16000000 in
theorem lapses_mid (wh ctx at_ : Int) (r : Bool) (W : World) (hw0 : 0 ≤ wh) (hw1 : wh ≤ 4611686018427387904) (q0 : ¬ ctx < 0) (q1 : ¬ at_ < 0) (q2 : ¬ 4611686018427387904 < at_) : Calls Try.prog 9 #[.int .i64 wh, .int .i64 ctx, .int .i64 at_, .bool r] W (BoolR true W) := by
  have hy : hz wh = wh := by unfold hz; omega
  have hm0 : ¬ 4611686018427387904 < (0 : Int) := by decide
  go_enter Try.func9, Try.ntmps9
  go_wp2_with fail
  refine (ss_new (Below.refl _ W)).mono ?_
  rintro e w0 ⟨rfl, h0, -⟩
  have H0 := Lib.hid h0
  clear h0
  generalize W.heap.size = t at *
  go_wp2_with fail
  refine (lapse_ok (wh := wh) (p := ctx) H0.out (by omega) (by decide) (by decide) (by decide)).mono ?_
  rintro e w1 ⟨he, h, -⟩
  rw [hy] at h
  obtain rfl : e = .returned (.tuple #[.int .i64 0, .int .i64 0]) := he
  have H1 : Hid (SS W t [⟨4, ctx, none, 1⟩] 0 1 [⟨0, wh, 1⟩] (fput (fun _ => 0) 0 0) [] w1) := h
  clear h H0 hy
  go_wp2_with fail
  refine (next_set H1.out (by simp)).mono ?_
  rintro e w2 ⟨he, h, -⟩
  obtain rfl : e = .returned (.tuple #[.int .i64 wh, .bool true]) := he
  have H2 : Hid (SS W t [⟨4, ctx, none, 1⟩] 0 1 [⟨0, wh, 1⟩] (fput (fun _ => 0) 0 0) [] w2) := h
  clear h H1
  go_wp2_with fail
  refine (reset_kind (i := 0) (now := 0) (d := 5) H2.out rfl rfl (by decide)).mono ?_
  rintro e w3 ⟨rfl, h, -⟩
  have H3 := Lib.hid h
  clear h H2
  go_wp2_with fail
  refine (chan_any 0 H3.out).mono ?_
  rintro e w4 ⟨he, h, -⟩
  obtain rfl : e = .returned (.pointer none) := he
  have H4 := Lib.hid h
  clear h H3
  go_wp2_with fail
  refine (kind_any 0 H4.out).mono ?_
  rintro e w5 ⟨he, h, -⟩
  obtain rfl : e = .returned (.int .i64 4) := he
  have H5 := Lib.hid h
  clear h H4
  go_wp2_with fail
  refine (gen_any 0 H5.out).mono ?_
  rintro e w6 ⟨he, h, -⟩
  obtain rfl : e = .returned (.int .i64 1) := he
  have H6 := Lib.hid h
  clear h H5
  cases r
  · by_cases hd : wh ≤ at_
    · as_aux_lemma =>
      go_wp2_with fail
      refine (fire_some (i := 0) (now := at_) H6.out (n' := 1) (S' := []) (g' := fput (fput (fun _ => 0) 0 0) 0 0) (tk_end (by simpa using hd) not_gon) rfl (Pt.none rfl) (by simp) (by decide) (by simp)).mono ?_
      rintro e w7 ⟨A, k, he, -, h, -⟩
      obtain rfl : e = .returned (.tuple #[.agg #[.int .i64 0, .int .i64 4, .int .i64 wh, .int .i64 at_, .int .i64 ctx, .slice A 0 k, .bool false], .bool true]) := he
      have F7 := Lib.hid (Fbk.new w7 0 4 wh at_ ctx A 0 k false)
      have G7 : Hid (SS W t [⟨4, ctx, none, 1⟩] 0 1 [] (fput (fput (fun _ => 0) 0 0) 0 0) [] (w7.alloc (.cells #[.int .i64 0, .int .i64 4, .int .i64 wh, .int .i64 at_, .int .i64 ctx, .slice A 0 k, .bool false] 35))) := SS.box h _
      clear h H6
      go_upto_region 18 with (fail)
      generalize w7.alloc (.cells #[.int .i64 0, .int .i64 4, .int .i64 wh, .int .i64 at_, .int .i64 ctx, .slice A 0 k, .bool false] 35) = w7z at *
      generalize w7.heap.size = b7 at *
      obtain ⟨p0, p1, p2, p3, p4, p5, p6⟩ := F7.out.cells
      go_wp2_with fail
      refine (fire_no G7.out (tk_idle trivial) (by decide) (by simp)).mono ?_
      rintro e w8 ⟨he, h, -⟩
      obtain rfl : e = .returned (.tuple #[.agg #[.int .i64 0, .int .i64 0, .int .i64 0, .int .i64 0, .int .i64 0, .slice none 0 0, .bool false], .bool false]) := he
      have Gw8 : Hid (SS W t [⟨4, ctx, none, 1⟩] 0 1 [] (fput (fput (fun _ => 0) 0 0) 0 0) [] (w8.alloc (.cells #[.int .i64 0, .int .i64 0, .int .i64 0, .int .i64 0, .int .i64 0, .slice none 0 0, .bool false] 35))) := SS.box h _
      clear h G7
      go_upto_region 21 with (fail)
      generalize w8.alloc (.cells #[.int .i64 0, .int .i64 0, .int .i64 0, .int .i64 0, .int .i64 0, .slice none 0 0, .bool false] 35) = w8z at *
      go_wp2_with fail
      refine (awakes_any _).mono ?_
      rintro e w18 ⟨rfl, hb⟩
      have HB : Hid (Below W.heap.size W w18) := Gw8.out.bel.trans (hb.mono Gw8.out.bel.size)
      clear hb Gw8
      go_wp2_with fail
      go_ret
      exact ⟨rfl, HB.out⟩
    · as_aux_lemma =>
      go_wp2_with fail
      refine (fire_no H6.out (tk_idle (by show at_ < wh; omega)) (by decide) (by simp)).mono ?_
      rintro e w7 ⟨he, h, -⟩
      obtain rfl : e = .returned (.tuple #[.agg #[.int .i64 0, .int .i64 0, .int .i64 0, .int .i64 0, .int .i64 0, .slice none 0 0, .bool false], .bool false]) := he
      have Gw7 : Hid (SS W t [⟨4, ctx, none, 1⟩] 0 1 [⟨0, wh, 1⟩] (fput (fun _ => 0) 0 0) [] (w7.alloc (.cells #[.int .i64 0, .int .i64 0, .int .i64 0, .int .i64 0, .int .i64 0, .slice none 0 0, .bool false] 35))) := SS.box h _
      clear h H6
      go_upto_region 18 with (fail)
      generalize w7.alloc (.cells #[.int .i64 0, .int .i64 0, .int .i64 0, .int .i64 0, .int .i64 0, .slice none 0 0, .bool false] 35) = w7z at *
      go_wp2_with fail
      refine (fire_no Gw7.out (tk_idle (by show at_ < wh; omega)) (by decide) (by simp)).mono ?_
      rintro e w8 ⟨he, h, -⟩
      obtain rfl : e = .returned (.tuple #[.agg #[.int .i64 0, .int .i64 0, .int .i64 0, .int .i64 0, .int .i64 0, .slice none 0 0, .bool false], .bool false]) := he
      have Gw8 : Hid (SS W t [⟨4, ctx, none, 1⟩] 0 1 [⟨0, wh, 1⟩] (fput (fun _ => 0) 0 0) [] (w8.alloc (.cells #[.int .i64 0, .int .i64 0, .int .i64 0, .int .i64 0, .int .i64 0, .slice none 0 0, .bool false] 35))) := SS.box h _
      clear h Gw7
      go_upto_region 21 with (fail)
      generalize w8.alloc (.cells #[.int .i64 0, .int .i64 0, .int .i64 0, .int .i64 0, .int .i64 0, .slice none 0 0, .bool false] 35) = w8z at *
      go_wp2_with fail
      refine (awakes_any _).mono ?_
      rintro e w18 ⟨rfl, hb⟩
      have HB : Hid (Below W.heap.size W w18) := Gw8.out.bel.trans (hb.mono Gw8.out.bel.size)
      clear hb Gw8
      go_wp2_with fail
      go_ret
      exact ⟨rfl, HB.out⟩
  · as_aux_lemma =>
    go_wp2_with fail
    refine (stop_set (i := 0) H6.out rfl (Drp.none rfl) (by simp) (by simp) (by simp)).mono ?_
    rintro e w7 ⟨he, h, -⟩
    obtain rfl : e = .returned (.tuple #[.bool true, .int .i64 0]) := he
    have G7 : Hid (SS W t [⟨4, ctx, none, 1⟩] 0 1 [] (fput (fput (fun _ => 0) 0 0) 0 0) [] w7) := h
    clear h H6
    go_wp2_with fail
    refine (stop_set (i := 0) G7.out rfl (Drp.none rfl) (by simp) (by simp) (by simp)).mono ?_
    rintro e w8 ⟨he, h, -⟩
    obtain rfl : e = .returned (.tuple #[.bool false, .int .i64 0]) := he
    have G8 : Hid (SS W t [⟨4, ctx, none, 1⟩] 0 1 [] (fput (fput (fput (fun _ => 0) 0 0) 0 0) 0 0) [] w8) := h
    clear h G7
    go_wp2_with fail
    refine (fire_no G8.out (tk_idle trivial) (by decide) (by simp)).mono ?_
    rintro e w9 ⟨he, h, -⟩
    obtain rfl : e = .returned (.tuple #[.agg #[.int .i64 0, .int .i64 0, .int .i64 0, .int .i64 0, .int .i64 0, .slice none 0 0, .bool false], .bool false]) := he
    have Gw9 : Hid (SS W t [⟨4, ctx, none, 1⟩] 0 1 [] (fput (fput (fput (fun _ => 0) 0 0) 0 0) 0 0) [] (w9.alloc (.cells #[.int .i64 0, .int .i64 0, .int .i64 0, .int .i64 0, .int .i64 0, .slice none 0 0, .bool false] 35))) := SS.box h _
    clear h G8
    go_upto_region 16 with (fail)
    generalize w9.alloc (.cells #[.int .i64 0, .int .i64 0, .int .i64 0, .int .i64 0, .int .i64 0, .slice none 0 0, .bool false] 35) = w9z at *
    go_wp2_with fail
    refine (awakes_any _).mono ?_
    rintro e w18 ⟨rfl, hb⟩
    have HB : Hid (Below W.heap.size W w18) := Gw9.out.bel.trans (hb.mono Gw9.out.bel.size)
    clear hb Gw9
    go_wp2_with fail
    go_ret
    exact ⟨rfl, HB.out⟩
theorem lapses_any (wh ctx at_ : Int) (r : Bool) (W : World) : Calls Try.prog 9 #[.int .i64 wh, .int .i64 ctx, .int .i64 at_, .bool r] W (BoolR true W) := by
  by_cases q0 : ctx < 0
  ·
    go_enter Try.func9, Try.ntmps9
    go_wp2_with fail
    refine (awakes_any _).mono ?_
    rintro e w' ⟨rfl, hb⟩
    have HB := Lib.hid hb
    clear hb
    go_wp2_with fail
    go_ret
    exact ⟨rfl, HB.out⟩
  by_cases q1 : at_ < 0
  ·
    go_enter Try.func9, Try.ntmps9
    go_wp2_with fail
    refine (awakes_any _).mono ?_
    rintro e w' ⟨rfl, hb⟩
    have HB := Lib.hid hb
    clear hb
    go_wp2_with fail
    go_ret
    exact ⟨rfl, HB.out⟩
  by_cases q2 : 4611686018427387904 < at_
  ·
    go_enter Try.func9, Try.ntmps9
    go_wp2_with fail
    refine (awakes_any _).mono ?_
    rintro e w' ⟨rfl, hb⟩
    have HB := Lib.hid hb
    clear hb
    go_wp2_with fail
    go_ret
    exact ⟨rfl, HB.out⟩
  by_cases h0 : wh < 0
  · exact lapses_lo wh ctx at_ r W h0 q0 q1 q2
  by_cases h1 : 4611686018427387904 < wh
  · exact lapses_hi wh ctx at_ r W h1 q0 q1 q2
  exact lapses_mid wh ctx at_ r W (by omega) (by omega) q0 q1 q2
end Go.Proofs.Ytmadcnpkaijllaa
