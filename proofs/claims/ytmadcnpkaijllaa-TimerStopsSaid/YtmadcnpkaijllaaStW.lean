/- TimerStops says true. No condition. -/
import Derived.Test.YtmadcnpkaijllaaLwk
namespace Go.Proofs.Ytmadcnpkaijllaa
open Go.RowKit Ch
set_option linter.unusedVariables false
set_option maxRecDepth 100000
set_option maxHeartbeats 16000000 in
theorem stops_any (d at_ : Int) (r : Bool) (W : World) : Calls Try.prog 5 #[.int .i64 d, .int .i64 at_, .bool r] W (BoolR true W) := by
  by_cases q0 : d < 0
  ·
    go_enter Try.func5, Try.ntmps5
    go_wp2_with fail
    refine (awakes_any _).mono ?_
    rintro e w' ⟨rfl, hb⟩
    have HB := Lib.hid hb
    clear hb
    go_wp2_with fail
    go_ret
    exact ⟨rfl, HB.out⟩
  by_cases q1 : 1000 < d
  ·
    go_enter Try.func5, Try.ntmps5
    go_wp2_with fail
    refine (awakes_any _).mono ?_
    rintro e w' ⟨rfl, hb⟩
    have HB := Lib.hid hb
    clear hb
    go_wp2_with fail
    go_ret
    exact ⟨rfl, HB.out⟩
  by_cases q2 : at_ < 0
  ·
    go_enter Try.func5, Try.ntmps5
    go_wp2_with fail
    refine (awakes_any _).mono ?_
    rintro e w' ⟨rfl, hb⟩
    have HB := Lib.hid hb
    clear hb
    go_wp2_with fail
    go_ret
    exact ⟨rfl, HB.out⟩
  by_cases q3 : 2000 < at_
  ·
    go_enter Try.func5, Try.ntmps5
    go_wp2_with fail
    refine (awakes_any _).mono ?_
    rintro e w' ⟨rfl, hb⟩
    have HB := Lib.hid hb
    clear hb
    go_wp2_with fail
    go_ret
    exact ⟨rfl, HB.out⟩
  go_enter Try.func5, Try.ntmps5
  go_wp2_with fail
  refine (ss_new (Below.refl _ W)).mono ?_
  rintro e w0 ⟨rfl, h0, -⟩
  have H0 := Lib.hid h0
  clear h0
  generalize W.heap.size = t at *
  go_wp2_with fail
  refine (timer_ok (now := 0) (d := d) H0.out (by decide) (by decide) (by decide) (by decide) (by decide)).mono ?_
  rintro e w1 ⟨c, he, h, -⟩
  rw [wn_small (by decide) (by decide) (by omega) (by omega), Int.zero_add] at h
  obtain rfl : e = .returned (.tuple #[.int .i64 0, .pointer (some ⟨c, 0, none⟩), .int .i64 0]) := he
  have H1 : Hid (SS W t [⟨1, 0, some c, 1⟩] 1 1 [⟨0, d, 1⟩] (fput (fun _ => 0) 0 0) [(c, cV [])] w1) := h
  clear h H0
  by_cases hd : d ≤ at_
  · cases r
    · as_aux_lemma =>
      go_wp2_with fail
      refine (fire_some (i := 0) (now := at_) H1.out (n' := 1) (S' := []) (g' := fput (fput (fun _ => 0) 0 0) 0 0) (tk_end (by simpa using hd) not_gon) rfl (Pt.chan (j := 0) (s' := cV [at_]) rfl rfl rfl (by simp) rfl) (by simp) (by decide) (by simp)).mono ?_
      rintro e w2 ⟨A, k, he, -, h, -⟩
      obtain rfl : e = .returned (.tuple #[.agg #[.int .i64 0, .int .i64 1, .int .i64 d, .int .i64 at_, .int .i64 0, .slice A 0 k, .bool true], .bool true]) := he
      have Gw2 : Hid (SS W t [⟨1, 0, some c, 1⟩] 1 1 [] (fput (fput (fun _ => 0) 0 0) 0 0) [(c, cV [at_])] (w2.alloc (.cells #[.int .i64 0, .int .i64 1, .int .i64 d, .int .i64 at_, .int .i64 0, .slice A 0 k, .bool true] 35))) := SS.box h _
      clear h H1
      go_upto_region 10 with (fail)
      generalize w2.alloc (.cells #[.int .i64 0, .int .i64 1, .int .i64 d, .int .i64 at_, .int .i64 0, .slice A 0 k, .bool true] 35) = w2z at *
      go_wp2_with fail
      refine (stop_set (i := 0) Gw2.out rfl (Drp.chan (j := 0) rfl rfl rfl) (by simp) (by simp) (by simp)).mono ?_
      rintro e w4 ⟨he, h, -⟩
      obtain rfl : e = .returned (.tuple #[.bool true, .int .i64 0]) := he
      have G4 : Hid (SS W t [⟨1, 0, some c, 1⟩] 1 1 [] (fput (fput (fput (fun _ => 0) 0 0) 0 0) 0 0) [(c, cV [])] w4) := h
      clear h Gw2
      go_wp2_with fail
      refine (stop_set (i := 0) G4.out rfl (Drp.chan (j := 0) rfl rfl rfl) (by simp) (by simp) (by simp)).mono ?_
      rintro e w5 ⟨he, h, -⟩
      obtain rfl : e = .returned (.tuple #[.bool false, .int .i64 0]) := he
      have G5 : Hid (SS W t [⟨1, 0, some c, 1⟩] 1 1 [] (fput (fput (fput (fput (fun _ => 0) 0 0) 0 0) 0 0) 0 0) [(c, cV [])] w5) := h
      clear h G4
      go_wp2_with fail
      refine (ss_recv (j := 0) G5.out rfl (by simp) rc_none rfl).mono ?_
      rintro e w6 ⟨A6, k6, he, -, h, -⟩
      obtain rfl : e = .returned (.tuple #[.int .i64 0, .bool false, .bool false, .slice A6 0 k6]) := he
      have G6 : Hid (SS W t [⟨1, 0, some c, 1⟩] 1 1 [] (fput (fput (fput (fput (fun _ => 0) 0 0) 0 0) 0 0) 0 0) [(c, cV [])] w6) := h
      clear h G5
      go_wp2_with fail
      refine (fire_no G6.out (tk_idle trivial) (by decide) (by simp)).mono ?_
      rintro e w7 ⟨he, h, -⟩
      obtain rfl : e = .returned (.tuple #[.agg #[.int .i64 0, .int .i64 0, .int .i64 0, .int .i64 0, .int .i64 0, .slice none 0 0, .bool false], .bool false]) := he
      have Gw7 : Hid (SS W t [⟨1, 0, some c, 1⟩] 1 1 [] (fput (fput (fput (fput (fun _ => 0) 0 0) 0 0) 0 0) 0 0) [(c, cV [])] (w7.alloc (.cells #[.int .i64 0, .int .i64 0, .int .i64 0, .int .i64 0, .int .i64 0, .slice none 0 0, .bool false] 35))) := SS.box h _
      clear h G6
      go_upto_region 17 with (fail)
      generalize w7.alloc (.cells #[.int .i64 0, .int .i64 0, .int .i64 0, .int .i64 0, .int .i64 0, .slice none 0 0, .bool false] 35) = w7z at *
      go_wp2_with fail
      refine (awakes_any _).mono ?_
      rintro e w8 ⟨rfl, hb⟩
      have HB : Hid (Below W.heap.size W w8) := Gw7.out.bel.trans (hb.mono Gw7.out.bel.size)
      clear hb Gw7
      go_wp2_with fail
      go_ret
      first | exact ⟨rfl, HB.out⟩ | exact ⟨ret_bool (by simp; omega), HB.out⟩
    · as_aux_lemma =>
      go_wp2_with fail
      refine (fire_some (i := 0) (now := at_) H1.out (n' := 1) (S' := []) (g' := fput (fput (fun _ => 0) 0 0) 0 0) (tk_end (by simpa using hd) not_gon) rfl (Pt.chan (j := 0) (s' := cV [at_]) rfl rfl rfl (by simp) rfl) (by simp) (by decide) (by simp)).mono ?_
      rintro e w2 ⟨A, k, he, -, h, -⟩
      obtain rfl : e = .returned (.tuple #[.agg #[.int .i64 0, .int .i64 1, .int .i64 d, .int .i64 at_, .int .i64 0, .slice A 0 k, .bool true], .bool true]) := he
      have Gw2 : Hid (SS W t [⟨1, 0, some c, 1⟩] 1 1 [] (fput (fput (fun _ => 0) 0 0) 0 0) [(c, cV [at_])] (w2.alloc (.cells #[.int .i64 0, .int .i64 1, .int .i64 d, .int .i64 at_, .int .i64 0, .slice A 0 k, .bool true] 35))) := SS.box h _
      clear h H1
      go_upto_region 10 with (fail)
      generalize w2.alloc (.cells #[.int .i64 0, .int .i64 1, .int .i64 d, .int .i64 at_, .int .i64 0, .slice A 0 k, .bool true] 35) = w2z at *
      go_wp2_with fail
      refine (ss_recv (j := 0) Gw2.out rfl (by simp) (rc_one at_) rfl).mono ?_
      rintro e w3 ⟨A3, k3, he, -, h, -⟩
      obtain rfl : e = .returned (.tuple #[.int .i64 at_, .bool true, .bool true, .slice A3 0 k3]) := he
      have G3 : Hid (SS W t [⟨1, 0, some c, 1⟩] 1 1 [] (fput (fput (fun _ => 0) 0 0) 0 0) [(c, cV [])] w3) := h
      clear h Gw2
      go_wp2_with fail
      refine (stop_set (i := 0) G3.out rfl (Drp.chan (j := 0) rfl rfl rfl) (by simp) (by simp) (by simp)).mono ?_
      rintro e w4 ⟨he, h, -⟩
      obtain rfl : e = .returned (.tuple #[.bool false, .int .i64 0]) := he
      have G4 : Hid (SS W t [⟨1, 0, some c, 1⟩] 1 1 [] (fput (fput (fput (fun _ => 0) 0 0) 0 0) 0 0) [(c, cV [])] w4) := h
      clear h G3
      go_wp2_with fail
      refine (stop_set (i := 0) G4.out rfl (Drp.chan (j := 0) rfl rfl rfl) (by simp) (by simp) (by simp)).mono ?_
      rintro e w5 ⟨he, h, -⟩
      obtain rfl : e = .returned (.tuple #[.bool false, .int .i64 0]) := he
      have G5 : Hid (SS W t [⟨1, 0, some c, 1⟩] 1 1 [] (fput (fput (fput (fput (fun _ => 0) 0 0) 0 0) 0 0) 0 0) [(c, cV [])] w5) := h
      clear h G4
      go_wp2_with fail
      refine (ss_recv (j := 0) G5.out rfl (by simp) rc_none rfl).mono ?_
      rintro e w6 ⟨A6, k6, he, -, h, -⟩
      obtain rfl : e = .returned (.tuple #[.int .i64 0, .bool false, .bool false, .slice A6 0 k6]) := he
      have G6 : Hid (SS W t [⟨1, 0, some c, 1⟩] 1 1 [] (fput (fput (fput (fput (fun _ => 0) 0 0) 0 0) 0 0) 0 0) [(c, cV [])] w6) := h
      clear h G5
      go_wp2_with fail
      refine (fire_no G6.out (tk_idle trivial) (by decide) (by simp)).mono ?_
      rintro e w7 ⟨he, h, -⟩
      obtain rfl : e = .returned (.tuple #[.agg #[.int .i64 0, .int .i64 0, .int .i64 0, .int .i64 0, .int .i64 0, .slice none 0 0, .bool false], .bool false]) := he
      have Gw7 : Hid (SS W t [⟨1, 0, some c, 1⟩] 1 1 [] (fput (fput (fput (fput (fun _ => 0) 0 0) 0 0) 0 0) 0 0) [(c, cV [])] (w7.alloc (.cells #[.int .i64 0, .int .i64 0, .int .i64 0, .int .i64 0, .int .i64 0, .slice none 0 0, .bool false] 35))) := SS.box h _
      clear h G6
      go_upto_region 17 with (fail)
      generalize w7.alloc (.cells #[.int .i64 0, .int .i64 0, .int .i64 0, .int .i64 0, .int .i64 0, .slice none 0 0, .bool false] 35) = w7z at *
      go_wp2_with fail
      refine (awakes_any _).mono ?_
      rintro e w8 ⟨rfl, hb⟩
      have HB : Hid (Below W.heap.size W w8) := Gw7.out.bel.trans (hb.mono Gw7.out.bel.size)
      clear hb Gw7
      go_wp2_with fail
      go_ret
      first | exact ⟨rfl, HB.out⟩ | exact ⟨ret_bool (by simp; omega), HB.out⟩
  · cases r
    · as_aux_lemma =>
      go_wp2_with fail
      refine (fire_no H1.out (tk_idle (by show at_ < d; omega)) (by decide) (by simp)).mono ?_
      rintro e w2 ⟨he, h, -⟩
      obtain rfl : e = .returned (.tuple #[.agg #[.int .i64 0, .int .i64 0, .int .i64 0, .int .i64 0, .int .i64 0, .slice none 0 0, .bool false], .bool false]) := he
      have Gw2 : Hid (SS W t [⟨1, 0, some c, 1⟩] 1 1 [⟨0, d, 1⟩] (fput (fun _ => 0) 0 0) [(c, cV [])] (w2.alloc (.cells #[.int .i64 0, .int .i64 0, .int .i64 0, .int .i64 0, .int .i64 0, .slice none 0 0, .bool false] 35))) := SS.box h _
      clear h H1
      go_upto_region 10 with (fail)
      generalize w2.alloc (.cells #[.int .i64 0, .int .i64 0, .int .i64 0, .int .i64 0, .int .i64 0, .slice none 0 0, .bool false] 35) = w2z at *
      go_wp2_with fail
      refine (stop_set (i := 0) Gw2.out rfl (Drp.chan (j := 0) rfl rfl rfl) (by simp) (by simp) (by simp)).mono ?_
      rintro e w4 ⟨he, h, -⟩
      obtain rfl : e = .returned (.tuple #[.bool true, .int .i64 0]) := he
      have G4 : Hid (SS W t [⟨1, 0, some c, 1⟩] 1 1 [] (fput (fput (fun _ => 0) 0 0) 0 0) [(c, cV [])] w4) := h
      clear h Gw2
      go_wp2_with fail
      refine (stop_set (i := 0) G4.out rfl (Drp.chan (j := 0) rfl rfl rfl) (by simp) (by simp) (by simp)).mono ?_
      rintro e w5 ⟨he, h, -⟩
      obtain rfl : e = .returned (.tuple #[.bool false, .int .i64 0]) := he
      have G5 : Hid (SS W t [⟨1, 0, some c, 1⟩] 1 1 [] (fput (fput (fput (fun _ => 0) 0 0) 0 0) 0 0) [(c, cV [])] w5) := h
      clear h G4
      go_wp2_with fail
      refine (ss_recv (j := 0) G5.out rfl (by simp) rc_none rfl).mono ?_
      rintro e w6 ⟨A6, k6, he, -, h, -⟩
      obtain rfl : e = .returned (.tuple #[.int .i64 0, .bool false, .bool false, .slice A6 0 k6]) := he
      have G6 : Hid (SS W t [⟨1, 0, some c, 1⟩] 1 1 [] (fput (fput (fput (fun _ => 0) 0 0) 0 0) 0 0) [(c, cV [])] w6) := h
      clear h G5
      go_wp2_with fail
      refine (fire_no G6.out (tk_idle trivial) (by decide) (by simp)).mono ?_
      rintro e w7 ⟨he, h, -⟩
      obtain rfl : e = .returned (.tuple #[.agg #[.int .i64 0, .int .i64 0, .int .i64 0, .int .i64 0, .int .i64 0, .slice none 0 0, .bool false], .bool false]) := he
      have Gw7 : Hid (SS W t [⟨1, 0, some c, 1⟩] 1 1 [] (fput (fput (fput (fun _ => 0) 0 0) 0 0) 0 0) [(c, cV [])] (w7.alloc (.cells #[.int .i64 0, .int .i64 0, .int .i64 0, .int .i64 0, .int .i64 0, .slice none 0 0, .bool false] 35))) := SS.box h _
      clear h G6
      go_upto_region 17 with (fail)
      generalize w7.alloc (.cells #[.int .i64 0, .int .i64 0, .int .i64 0, .int .i64 0, .int .i64 0, .slice none 0 0, .bool false] 35) = w7z at *
      go_wp2_with fail
      refine (awakes_any _).mono ?_
      rintro e w8 ⟨rfl, hb⟩
      have HB : Hid (Below W.heap.size W w8) := Gw7.out.bel.trans (hb.mono Gw7.out.bel.size)
      clear hb Gw7
      go_wp2_with fail
      go_ret
      first | exact ⟨rfl, HB.out⟩ | exact ⟨ret_bool (by simp; omega), HB.out⟩
    · as_aux_lemma =>
      go_wp2_with fail
      refine (fire_no H1.out (tk_idle (by show at_ < d; omega)) (by decide) (by simp)).mono ?_
      rintro e w2 ⟨he, h, -⟩
      obtain rfl : e = .returned (.tuple #[.agg #[.int .i64 0, .int .i64 0, .int .i64 0, .int .i64 0, .int .i64 0, .slice none 0 0, .bool false], .bool false]) := he
      have Gw2 : Hid (SS W t [⟨1, 0, some c, 1⟩] 1 1 [⟨0, d, 1⟩] (fput (fun _ => 0) 0 0) [(c, cV [])] (w2.alloc (.cells #[.int .i64 0, .int .i64 0, .int .i64 0, .int .i64 0, .int .i64 0, .slice none 0 0, .bool false] 35))) := SS.box h _
      clear h H1
      go_upto_region 10 with (fail)
      generalize w2.alloc (.cells #[.int .i64 0, .int .i64 0, .int .i64 0, .int .i64 0, .int .i64 0, .slice none 0 0, .bool false] 35) = w2z at *
      go_wp2_with fail
      refine (ss_recv (j := 0) Gw2.out rfl (by simp) (rc_none) rfl).mono ?_
      rintro e w3 ⟨A3, k3, he, -, h, -⟩
      obtain rfl : e = .returned (.tuple #[.int .i64 0, .bool false, .bool false, .slice A3 0 k3]) := he
      have G3 : Hid (SS W t [⟨1, 0, some c, 1⟩] 1 1 [⟨0, d, 1⟩] (fput (fun _ => 0) 0 0) [(c, cV [])] w3) := h
      clear h Gw2
      go_wp2_with fail
      refine (stop_set (i := 0) G3.out rfl (Drp.chan (j := 0) rfl rfl rfl) (by simp) (by simp) (by simp)).mono ?_
      rintro e w4 ⟨he, h, -⟩
      obtain rfl : e = .returned (.tuple #[.bool true, .int .i64 0]) := he
      have G4 : Hid (SS W t [⟨1, 0, some c, 1⟩] 1 1 [] (fput (fput (fun _ => 0) 0 0) 0 0) [(c, cV [])] w4) := h
      clear h G3
      go_wp2_with fail
      refine (stop_set (i := 0) G4.out rfl (Drp.chan (j := 0) rfl rfl rfl) (by simp) (by simp) (by simp)).mono ?_
      rintro e w5 ⟨he, h, -⟩
      obtain rfl : e = .returned (.tuple #[.bool false, .int .i64 0]) := he
      have G5 : Hid (SS W t [⟨1, 0, some c, 1⟩] 1 1 [] (fput (fput (fput (fun _ => 0) 0 0) 0 0) 0 0) [(c, cV [])] w5) := h
      clear h G4
      go_wp2_with fail
      refine (ss_recv (j := 0) G5.out rfl (by simp) rc_none rfl).mono ?_
      rintro e w6 ⟨A6, k6, he, -, h, -⟩
      obtain rfl : e = .returned (.tuple #[.int .i64 0, .bool false, .bool false, .slice A6 0 k6]) := he
      have G6 : Hid (SS W t [⟨1, 0, some c, 1⟩] 1 1 [] (fput (fput (fput (fun _ => 0) 0 0) 0 0) 0 0) [(c, cV [])] w6) := h
      clear h G5
      go_wp2_with fail
      refine (fire_no G6.out (tk_idle trivial) (by decide) (by simp)).mono ?_
      rintro e w7 ⟨he, h, -⟩
      obtain rfl : e = .returned (.tuple #[.agg #[.int .i64 0, .int .i64 0, .int .i64 0, .int .i64 0, .int .i64 0, .slice none 0 0, .bool false], .bool false]) := he
      have Gw7 : Hid (SS W t [⟨1, 0, some c, 1⟩] 1 1 [] (fput (fput (fput (fun _ => 0) 0 0) 0 0) 0 0) [(c, cV [])] (w7.alloc (.cells #[.int .i64 0, .int .i64 0, .int .i64 0, .int .i64 0, .int .i64 0, .slice none 0 0, .bool false] 35))) := SS.box h _
      clear h G6
      go_upto_region 17 with (fail)
      generalize w7.alloc (.cells #[.int .i64 0, .int .i64 0, .int .i64 0, .int .i64 0, .int .i64 0, .slice none 0 0, .bool false] 35) = w7z at *
      go_wp2_with fail
      refine (awakes_any _).mono ?_
      rintro e w8 ⟨rfl, hb⟩
      have HB : Hid (Below W.heap.size W w8) := Gw7.out.bel.trans (hb.mono Gw7.out.bel.size)
      clear hb Gw7
      go_wp2_with fail
      go_ret
      first | exact ⟨rfl, HB.out⟩ | exact ⟨ret_bool (by simp; omega), HB.out⟩
end Go.Proofs.Ytmadcnpkaijllaa
