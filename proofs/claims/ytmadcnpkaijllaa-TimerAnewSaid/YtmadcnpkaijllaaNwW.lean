/- TimerAnew says true. Condition: the slice reads as it came. -/
import Derived.Test.YtmadcnpkaijllaaLwk
import Derived.Test.YtmadcnpkaijllaaRnt
import Derived.Deep.CutRange
namespace Go.Proofs.Ytmadcnpkaijllaa
open Go.RowKit Ch
set_option linter.unusedVariables false
set_option maxRecDepth 100000
/-- The one, armed so often, due at D. -/
def AnS (W : World) (t : Nat) (kd dt : Int) (ch : Option Nat) (L : List (Nat × CS)) (k : Nat) (D : Int) (w : World) : Prop := ∃ (m : Nat) (z gn : Int) (g : Int → Int), m ≤ k + 1 ∧ gn = (k : Int) + 1 ∧ SS W t [⟨kd, dt, ch, gn⟩] 1 m [⟨0, D, z⟩] g L w
set_option maxHeartbeats 16000000 in
theorem anew_1 (kind d : Int) (A0 : Option Addr) (n c0 : Nat) (l : List Int) (W : World) (hR : Rn W A0 n l) (h1 : 1 ≤ d) (h2 : d ≤ 1000) (hn : n ≤ 30) (hkd : pk kind 3 = 0) : Calls Try.prog 6 #[.int .i64 kind, .int .i64 d, .slice A0 n c0] W (BoolR true W) := by
  have q0 : ¬ d < 1 := by omega
  have q1 : ¬ 1000 < d := by omega
  have q2 : ¬ (30 : Int) < (n : Int) := by omega
  have R1 := Lib.hid hR
  have HK := Lib.hid hkd
  clear hR hkd
  go_enter Try.func6, Try.ntmps6
  go_wp2_with fail
  refine (ss_new (Below.refl _ W)).mono ?_
  rintro e w0 ⟨rfl, h0, -⟩
  have H0 := Lib.hid h0
  clear h0
  go_wp2_with fail
  have hr : Calls Try.prog 14 #[.int .i64 kind, .int .i64 3] w0 fun e w' => e = .returned (.int .i64 0) ∧ w0 = w' := by
    have h9 := round_any kind 3 w0 (by decide) (by decide)
    rw [HK.out] at h9
    exact h9
  refine hr.mono ?_
  rintro e w2 ⟨rfl, rfl⟩
  clear hr
  go_wp2_with fail
  refine (timer_ok (now := 0) (d := d) H0.out (by decide) (by decide) (by decide) (by decide) (by decide)).mono ?_
  rintro e w1 ⟨c, he, h, -⟩
  rw [wn_small (by decide) (by decide) (by omega) (by omega), Int.zero_add] at h
  obtain rfl : e = .returned (.tuple #[.int .i64 0, .pointer (some ⟨c, 0, none⟩), .int .i64 0]) := he
  have H1 : Hid (AnS W W.heap.size 1 0 (some c) [(c, cV [])] 0 d w1) := ⟨1, 1, 1, _, by omega, rfl, h⟩
  clear h H0
  obtain ⟨m, z, gn, g, hm, hgn, hS⟩ := H1.out
  have HS := Lib.hid hS
  have HM := Lib.hid (And.intro hm hgn)
  clear hS hm hgn H1
  go_wp2_with fail
  refine (kind_any 0 HS.out).mono ?_
  rintro e w2 ⟨he, h, -⟩
  obtain rfl : e = .returned (.int .i64 1) := he
  have H2 := Lib.hid h
  clear h HS
  go_wp2_with fail
  refine (chan_any 0 H2.out).mono ?_
  rintro e w3 ⟨he, h, -⟩
  obtain rfl : e = .returned (.pointer (some ⟨c, 0, none⟩)) := he
  have S3 : Hid (AnS W W.heap.size 1 0 (some c) [(c, cV [])] 0 d w3) := ⟨m, z, gn, g, HM.out.1, HM.out.2, h⟩
  clear h H2 HM
  go_wp2_with fail
  go_loopw [11, 12, 13] (fun x y i wr => ∃ (k : Nat) (nw D : Int), k ≤ n ∧ x = .int .i64 nw ∧ y = .int .i64 D ∧ i = .int .i64 k ∧ 0 ≤ nw ∧ nw ≤ 500 * (k : Int) ∧ (k = 0 → D = d) ∧ Hid (AnS W W.heap.size 1 0 (some c) [(c, cV [])] k D wr)) (fun _ _ i _ => n - (intOf i).toNat)
  case atStart => exact ⟨0, 0, d, by omega, rfl, rfl, rfl, by omega, by omega, fun _ => rfl, S3⟩
  case round =>
    clear S3
    obtain ⟨k, nw, D, hk, rfl, rfl, rfl, n0, n1, hD, HO⟩ := hrel
    by_cases hlt : k < n
    · as_aux_lemma =>
      obtain ⟨m, z, gn, g, hm, hgn, hS⟩ := HO.out
      have HS := Lib.hid hS
      have HM := Lib.hid (And.intro hm hgn)
      obtain ⟨bb, off, x, rfl, hbb, hzx, hcx⟩ := R1.out.cell hS.bel hlt
      have k3 : (k : Int) < (n : Int) := by omega
      have b1 : IntKind.i64.wrap ((k : Int) + 1) = (k : Int) + 1 := by rw [IntKind.wrap_i64]; omega
      have b2 : IntKind.i64.wrap ((k : Int) + 2) = (k : Int) + 2 := by rw [IntKind.wrap_i64]; omega
      have hr := round_any x 500 wr (by decide) (by decide)
      have hp := pk_lt x (m := 500) (by decide)
      clear hS hzx HO hm hgn hD
      go_wp2_with fail
      refine hr.mono ?_
      rintro e w2 ⟨rfl, rfl⟩
      clear hr hcx
      generalize hpk : (pk x 500 : Int) = pv at *
      have hp0 : 0 ≤ pv := by omega
      have hp1 : pv < 500 := by omega
      clear hp hpk
      obtain ⟨nn, hnn⟩ : ∃ z, 1 + pv = z := ⟨_, rfl⟩
      have g0 : IntKind.i64.wrap (1 + pv) = nn := by rw [hnn, IntKind.wrap_i64]; omega
      have g1 : 1 ≤ nn := by omega
      have g2 : nn ≤ 500 := by omega
      clear hp0 hp1 hnn
      obtain ⟨hf, hhf⟩ : ∃ z, nn.tdiv 2 = z := ⟨_, rfl⟩
      have hh : 0 ≤ hf ∧ hf < nn := by
        rw [← hhf, Int.tdiv_eq_ediv_of_nonneg (by omega)]; omega
      have h0 := hh.1
      have h1' := hh.2
      clear hh
      have g3 : IntKind.i64.wrap hf = hf := by rw [IntKind.wrap_i64]; omega
      have g4 : IntKind.i64.wrap (nw + nn) = nw + nn := by rw [IntKind.wrap_i64]; omega
      have g5 : IntKind.i64.wrap (nw + hf) = nw + hf := by rw [IntKind.wrap_i64]; omega
      have hm1 : m ≤ 1000000 := by have := HM.out.1; omega
      have hg1 : 0 ≤ gn ∧ gn ≤ 1000000 := by have := HM.out.2; omega
      go_wp2_with fail
      refine (reset_ok (i := 0) (now := nw) (d := nn) HS.out rfl (Drp.chan (j := 0) (s := cV []) rfl rfl rfl) (by show (1 : Int) ≠ 0; decide) (by show (1 : Int) ≠ 4; decide) ⟨⟨by omega, by omega⟩, fun _ => by omega⟩ hg1.1 hg1.2 (by simp) hm1 (by simp)).mono ?_
      rintro e w4 ⟨he, h, -⟩
      rw [wn_small (by omega) (by omega) (by omega) (by omega)] at h
      obtain rfl : e = .returned (.tuple #[.bool true, .int .i64 0]) := he
      have H4 : Hid (SS W W.heap.size [⟨1, 0, (some c), gn + 1⟩] 1 (m + 1) [⟨0, nw + nn, (m : Int) + 1⟩] _ [(c, cV [])] w4) := h
      clear h HS hg1
      go_wp2_with fail
      refine (next_set H4.out (by simp)).mono ?_
      rintro e w5 ⟨he, h, -⟩
      obtain rfl : e = .returned (.tuple #[.int .i64 (nw + nn), .bool true]) := he
      have H5 := Lib.hid h
      clear h H4
      go_wp2_with fail
      refine (gen_any 0 H5.out).mono ?_
      rintro e w6 ⟨he, h, -⟩
      have he2 : e = .returned (.int .i64 (gn + 1)) := he
      rw [show gn + 1 = (k : Int) + 2 by have := HM.out.2; omega] at he2
      subst he2
      have H6 := Lib.hid h
      clear h H5 he
      go_wp2_with fail
      refine (fire_no (now := nw + hf) H6.out (tk_idle (by show nw + hf < nw + nn; omega)) (by have := HM.out.1; omega) (by simp)).mono ?_
      rintro e w7 ⟨he, h, -⟩
      obtain rfl : e = .returned (.tuple #[.agg #[.int .i64 0, .int .i64 0, .int .i64 0, .int .i64 0, .int .i64 0, .slice none 0 0, .bool false], .bool false]) := he
      have H7 : Hid (AnS W W.heap.size 1 0 (some c) [(c, cV [])] (k + 1) (nw + nn) (w7.alloc (.cells #[.int .i64 0, .int .i64 0, .int .i64 0, .int .i64 0, .int .i64 0, .slice none 0 0, .bool false] 35))) := ⟨m + 1, _, gn + 1, _, by have := HM.out.1; omega, by have := HM.out.2; omega, SS.box h _⟩
      clear h H6
      go_upto_region 28 with (fail)
      generalize w7.alloc (.cells #[.int .i64 0, .int .i64 0, .int .i64 0, .int .i64 0, .int .i64 0, .slice none 0 0, .bool false] 35) = w8 at *
      go_wp2_with fail
      go_roundw
      case rel => exact ⟨k + 1, nw + hf, nw + nn, by omega, rfl, rfl, by go_num, by omega, by omega, fun e => absurd e (by omega), H7⟩
      case measure => simp [intOf]; omega
    · as_aux_lemma =>
      obtain rfl : k = n := by omega
      have k3 : ¬ (k : Int) < (k : Int) := by omega
      obtain ⟨m, z, gn, g, hm, hgn, hS⟩ := HO.out
      have HS := Lib.hid hS
      clear hS HO
      by_cases hz0 : k = 0
      · subst hz0
        obtain rfl := hD rfl
        have hgn2 : gn = 1 := by omega
        clear hgn hD hm
        subst hgn2
        go_wp2_with fail
        refine (next_set HS.out (by simp)).mono ?_
        rintro e w5 ⟨he, h, -⟩
        obtain rfl : e = .returned (.tuple #[.int .i64 D, .bool true]) := he
        have H5 := Lib.hid h
        clear h HS
        go_wp2_with fail
        refine (gen_any 0 H5.out).mono ?_
        rintro e w6 ⟨he, h, -⟩
        obtain rfl : e = .returned (.int .i64 1) := he
        have HB := Lib.hid h.bel
        clear h H5
        go_wp2_with fail
        refine (awakes_any w6).mono ?_
        rintro e w2 ⟨rfl, hb⟩
        have HB2 := Lib.hid (HB.out.trans (hb.mono HB.out.size))
        clear hb
        go_wp2_with fail
        go_ret
        exact ⟨rfl, HB2.out⟩
      · have hz1 : ((k : Int) == 0) = false := by simpa using hz0
        clear hD hgn hm
        go_wp2_with fail
        refine (len_set HS.out).mono ?_
        rintro e w5 ⟨he, rfl⟩
        obtain rfl : e = .returned (.int .i64 1) := he
        have HB := Lib.hid HS.out.bel
        clear HS
        go_wp2_with fail
        refine (awakes_any _).mono ?_
        rintro e w2 ⟨rfl, hb⟩
        have HB2 := Lib.hid (HB.out.trans (hb.mono HB.out.size))
        clear hb
        go_wp2_with fail
        go_ret
        exact ⟨rfl, HB2.out⟩
set_option maxHeartbeats 16000000 in
theorem anew_2 (kind d : Int) (A0 : Option Addr) (n c0 : Nat) (l : List Int) (W : World) (hR : Rn W A0 n l) (h1 : 1 ≤ d) (h2 : d ≤ 1000) (hn : n ≤ 30) (hkd : pk kind 3 = 1) : Calls Try.prog 6 #[.int .i64 kind, .int .i64 d, .slice A0 n c0] W (BoolR true W) := by
  have q0 : ¬ d < 1 := by omega
  have q1 : ¬ 1000 < d := by omega
  have q2 : ¬ (30 : Int) < (n : Int) := by omega
  have R1 := Lib.hid hR
  have HK := Lib.hid hkd
  clear hR hkd
  go_enter Try.func6, Try.ntmps6
  go_wp2_with fail
  refine (ss_new (Below.refl _ W)).mono ?_
  rintro e w0 ⟨rfl, h0, -⟩
  have H0 := Lib.hid h0
  clear h0
  go_wp2_with fail
  have hr : Calls Try.prog 14 #[.int .i64 kind, .int .i64 3] w0 fun e w' => e = .returned (.int .i64 1) ∧ w0 = w' := by
    have h9 := round_any kind 3 w0 (by decide) (by decide)
    rw [HK.out] at h9
    exact h9
  refine hr.mono ?_
  rintro e w2 ⟨rfl, rfl⟩
  clear hr
  go_wp2_with fail
  refine (ticker_ok (now := 0) (d := d) H0.out (by decide) (by omega) (by decide) (by decide) (by decide) (by decide)).mono ?_
  rintro e w1 ⟨c, he, h, -⟩
  rw [wn_small (by decide) (by decide) (by omega) (by omega), Int.zero_add] at h
  obtain rfl : e = .returned (.tuple #[.int .i64 0, .pointer (some ⟨c, 0, none⟩), .int .i64 0]) := he
  have H1 : Hid (AnS W W.heap.size 2 0 (some c) [(c, cV [])] 0 d w1) := ⟨1, 1, 1, _, by omega, rfl, h⟩
  clear h H0
  obtain ⟨m, z, gn, g, hm, hgn, hS⟩ := H1.out
  have HS := Lib.hid hS
  have HM := Lib.hid (And.intro hm hgn)
  clear hS hm hgn H1
  go_wp2_with fail
  refine (kind_any 0 HS.out).mono ?_
  rintro e w2 ⟨he, h, -⟩
  obtain rfl : e = .returned (.int .i64 2) := he
  have H2 := Lib.hid h
  clear h HS
  go_wp2_with fail
  refine (chan_any 0 H2.out).mono ?_
  rintro e w3 ⟨he, h, -⟩
  obtain rfl : e = .returned (.pointer (some ⟨c, 0, none⟩)) := he
  have S3 : Hid (AnS W W.heap.size 2 0 (some c) [(c, cV [])] 0 d w3) := ⟨m, z, gn, g, HM.out.1, HM.out.2, h⟩
  clear h H2 HM
  go_wp2_with fail
  go_loopw [11, 12, 13] (fun x y i wr => ∃ (k : Nat) (nw D : Int), k ≤ n ∧ x = .int .i64 nw ∧ y = .int .i64 D ∧ i = .int .i64 k ∧ 0 ≤ nw ∧ nw ≤ 500 * (k : Int) ∧ (k = 0 → D = d) ∧ Hid (AnS W W.heap.size 2 0 (some c) [(c, cV [])] k D wr)) (fun _ _ i _ => n - (intOf i).toNat)
  case atStart => exact ⟨0, 0, d, by omega, rfl, rfl, rfl, by omega, by omega, fun _ => rfl, S3⟩
  case round =>
    clear S3
    obtain ⟨k, nw, D, hk, rfl, rfl, rfl, n0, n1, hD, HO⟩ := hrel
    by_cases hlt : k < n
    · as_aux_lemma =>
      obtain ⟨m, z, gn, g, hm, hgn, hS⟩ := HO.out
      have HS := Lib.hid hS
      have HM := Lib.hid (And.intro hm hgn)
      obtain ⟨bb, off, x, rfl, hbb, hzx, hcx⟩ := R1.out.cell hS.bel hlt
      have k3 : (k : Int) < (n : Int) := by omega
      have b1 : IntKind.i64.wrap ((k : Int) + 1) = (k : Int) + 1 := by rw [IntKind.wrap_i64]; omega
      have b2 : IntKind.i64.wrap ((k : Int) + 2) = (k : Int) + 2 := by rw [IntKind.wrap_i64]; omega
      have hr := round_any x 500 wr (by decide) (by decide)
      have hp := pk_lt x (m := 500) (by decide)
      clear hS hzx HO hm hgn hD
      go_wp2_with fail
      refine hr.mono ?_
      rintro e w2 ⟨rfl, rfl⟩
      clear hr hcx
      generalize hpk : (pk x 500 : Int) = pv at *
      have hp0 : 0 ≤ pv := by omega
      have hp1 : pv < 500 := by omega
      clear hp hpk
      obtain ⟨nn, hnn⟩ : ∃ z, 1 + pv = z := ⟨_, rfl⟩
      have g0 : IntKind.i64.wrap (1 + pv) = nn := by rw [hnn, IntKind.wrap_i64]; omega
      have g1 : 1 ≤ nn := by omega
      have g2 : nn ≤ 500 := by omega
      clear hp0 hp1 hnn
      obtain ⟨hf, hhf⟩ : ∃ z, nn.tdiv 2 = z := ⟨_, rfl⟩
      have hh : 0 ≤ hf ∧ hf < nn := by
        rw [← hhf, Int.tdiv_eq_ediv_of_nonneg (by omega)]; omega
      have h0 := hh.1
      have h1' := hh.2
      clear hh
      have g3 : IntKind.i64.wrap hf = hf := by rw [IntKind.wrap_i64]; omega
      have g4 : IntKind.i64.wrap (nw + nn) = nw + nn := by rw [IntKind.wrap_i64]; omega
      have g5 : IntKind.i64.wrap (nw + hf) = nw + hf := by rw [IntKind.wrap_i64]; omega
      have hm1 : m ≤ 1000000 := by have := HM.out.1; omega
      have hg1 : 0 ≤ gn ∧ gn ≤ 1000000 := by have := HM.out.2; omega
      go_wp2_with fail
      refine (reset_ok (i := 0) (now := nw) (d := nn) HS.out rfl (Drp.chan (j := 0) (s := cV []) rfl rfl rfl) (by show (2 : Int) ≠ 0; decide) (by show (2 : Int) ≠ 4; decide) ⟨⟨by omega, by omega⟩, fun _ => by omega⟩ hg1.1 hg1.2 (by simp) hm1 (by simp)).mono ?_
      rintro e w4 ⟨he, h, -⟩
      rw [wn_small (by omega) (by omega) (by omega) (by omega)] at h
      obtain rfl : e = .returned (.tuple #[.bool true, .int .i64 0]) := he
      have H4 : Hid (SS W W.heap.size [⟨2, 0, (some c), gn + 1⟩] 1 (m + 1) [⟨0, nw + nn, (m : Int) + 1⟩] _ [(c, cV [])] w4) := h
      clear h HS hg1
      go_wp2_with fail
      refine (next_set H4.out (by simp)).mono ?_
      rintro e w5 ⟨he, h, -⟩
      obtain rfl : e = .returned (.tuple #[.int .i64 (nw + nn), .bool true]) := he
      have H5 := Lib.hid h
      clear h H4
      go_wp2_with fail
      refine (gen_any 0 H5.out).mono ?_
      rintro e w6 ⟨he, h, -⟩
      have he2 : e = .returned (.int .i64 (gn + 1)) := he
      rw [show gn + 1 = (k : Int) + 2 by have := HM.out.2; omega] at he2
      subst he2
      have H6 := Lib.hid h
      clear h H5 he
      go_wp2_with fail
      refine (fire_no (now := nw + hf) H6.out (tk_idle (by show nw + hf < nw + nn; omega)) (by have := HM.out.1; omega) (by simp)).mono ?_
      rintro e w7 ⟨he, h, -⟩
      obtain rfl : e = .returned (.tuple #[.agg #[.int .i64 0, .int .i64 0, .int .i64 0, .int .i64 0, .int .i64 0, .slice none 0 0, .bool false], .bool false]) := he
      have H7 : Hid (AnS W W.heap.size 2 0 (some c) [(c, cV [])] (k + 1) (nw + nn) (w7.alloc (.cells #[.int .i64 0, .int .i64 0, .int .i64 0, .int .i64 0, .int .i64 0, .slice none 0 0, .bool false] 35))) := ⟨m + 1, _, gn + 1, _, by have := HM.out.1; omega, by have := HM.out.2; omega, SS.box h _⟩
      clear h H6
      go_upto_region 28 with (fail)
      generalize w7.alloc (.cells #[.int .i64 0, .int .i64 0, .int .i64 0, .int .i64 0, .int .i64 0, .slice none 0 0, .bool false] 35) = w8 at *
      go_wp2_with fail
      go_roundw
      case rel => exact ⟨k + 1, nw + hf, nw + nn, by omega, rfl, rfl, by go_num, by omega, by omega, fun e => absurd e (by omega), H7⟩
      case measure => simp [intOf]; omega
    · as_aux_lemma =>
      obtain rfl : k = n := by omega
      have k3 : ¬ (k : Int) < (k : Int) := by omega
      obtain ⟨m, z, gn, g, hm, hgn, hS⟩ := HO.out
      have HS := Lib.hid hS
      clear hS HO
      by_cases hz0 : k = 0
      · subst hz0
        obtain rfl := hD rfl
        have hgn2 : gn = 1 := by omega
        clear hgn hD hm
        subst hgn2
        go_wp2_with fail
        refine (next_set HS.out (by simp)).mono ?_
        rintro e w5 ⟨he, h, -⟩
        obtain rfl : e = .returned (.tuple #[.int .i64 D, .bool true]) := he
        have H5 := Lib.hid h
        clear h HS
        go_wp2_with fail
        refine (gen_any 0 H5.out).mono ?_
        rintro e w6 ⟨he, h, -⟩
        obtain rfl : e = .returned (.int .i64 1) := he
        have HB := Lib.hid h.bel
        clear h H5
        go_wp2_with fail
        refine (awakes_any w6).mono ?_
        rintro e w2 ⟨rfl, hb⟩
        have HB2 := Lib.hid (HB.out.trans (hb.mono HB.out.size))
        clear hb
        go_wp2_with fail
        go_ret
        exact ⟨rfl, HB2.out⟩
      · have hz1 : ((k : Int) == 0) = false := by simpa using hz0
        clear hD hgn hm
        go_wp2_with fail
        refine (len_set HS.out).mono ?_
        rintro e w5 ⟨he, rfl⟩
        obtain rfl : e = .returned (.int .i64 1) := he
        have HB := Lib.hid HS.out.bel
        clear HS
        go_wp2_with fail
        refine (awakes_any _).mono ?_
        rintro e w2 ⟨rfl, hb⟩
        have HB2 := Lib.hid (HB.out.trans (hb.mono HB.out.size))
        clear hb
        go_wp2_with fail
        go_ret
        exact ⟨rfl, HB2.out⟩
set_option maxHeartbeats 16000000 in
theorem anew_3 (kind d : Int) (A0 : Option Addr) (n c0 : Nat) (l : List Int) (W : World) (hR : Rn W A0 n l) (h1 : 1 ≤ d) (h2 : d ≤ 1000) (hn : n ≤ 30) (hkd : pk kind 3 = 2) : Calls Try.prog 6 #[.int .i64 kind, .int .i64 d, .slice A0 n c0] W (BoolR true W) := by
  have q0 : ¬ d < 1 := by omega
  have q1 : ¬ 1000 < d := by omega
  have q2 : ¬ (30 : Int) < (n : Int) := by omega
  have R1 := Lib.hid hR
  have HK := Lib.hid hkd
  clear hR hkd
  go_enter Try.func6, Try.ntmps6
  go_wp2_with fail
  refine (ss_new (Below.refl _ W)).mono ?_
  rintro e w0 ⟨rfl, h0, -⟩
  have H0 := Lib.hid h0
  clear h0
  go_wp2_with fail
  have hr : Calls Try.prog 14 #[.int .i64 kind, .int .i64 3] w0 fun e w' => e = .returned (.int .i64 2) ∧ w0 = w' := by
    have h9 := round_any kind 3 w0 (by decide) (by decide)
    rw [HK.out] at h9
    exact h9
  refine hr.mono ?_
  rintro e w2 ⟨rfl, rfl⟩
  clear hr
  go_wp2_with fail
  refine (func_ok (now := 0) (d := d) (p := 7) H0.out (by decide) (by decide) (by decide) (by decide) (by decide) (by decide)).mono ?_
  rintro e w1 ⟨he, h, -⟩
  rw [wn_small (by decide) (by decide) (by omega) (by omega), Int.zero_add] at h
  obtain rfl : e = .returned (.tuple #[.int .i64 0, .int .i64 0]) := he
  have H1 : Hid (AnS W W.heap.size 3 7 none [] 0 d w1) := ⟨1, 1, 1, _, by omega, rfl, h⟩
  clear h H0
  obtain ⟨m, z, gn, g, hm, hgn, hS⟩ := H1.out
  have HS := Lib.hid hS
  have HM := Lib.hid (And.intro hm hgn)
  clear hS hm hgn H1
  go_wp2_with fail
  refine (kind_any 0 HS.out).mono ?_
  rintro e w2 ⟨he, h, -⟩
  obtain rfl : e = .returned (.int .i64 3) := he
  have H2 := Lib.hid h
  clear h HS
  go_wp2_with fail
  refine (chan_any 0 H2.out).mono ?_
  rintro e w3 ⟨he, h, -⟩
  obtain rfl : e = .returned (.pointer none) := he
  have S3 : Hid (AnS W W.heap.size 3 7 none [] 0 d w3) := ⟨m, z, gn, g, HM.out.1, HM.out.2, h⟩
  clear h H2 HM
  go_wp2_with fail
  go_loopw [11, 12, 13] (fun x y i wr => ∃ (k : Nat) (nw D : Int), k ≤ n ∧ x = .int .i64 nw ∧ y = .int .i64 D ∧ i = .int .i64 k ∧ 0 ≤ nw ∧ nw ≤ 500 * (k : Int) ∧ (k = 0 → D = d) ∧ Hid (AnS W W.heap.size 3 7 none [] k D wr)) (fun _ _ i _ => n - (intOf i).toNat)
  case atStart => exact ⟨0, 0, d, by omega, rfl, rfl, rfl, by omega, by omega, fun _ => rfl, S3⟩
  case round =>
    clear S3
    obtain ⟨k, nw, D, hk, rfl, rfl, rfl, n0, n1, hD, HO⟩ := hrel
    by_cases hlt : k < n
    · as_aux_lemma =>
      obtain ⟨m, z, gn, g, hm, hgn, hS⟩ := HO.out
      have HS := Lib.hid hS
      have HM := Lib.hid (And.intro hm hgn)
      obtain ⟨bb, off, x, rfl, hbb, hzx, hcx⟩ := R1.out.cell hS.bel hlt
      have k3 : (k : Int) < (n : Int) := by omega
      have b1 : IntKind.i64.wrap ((k : Int) + 1) = (k : Int) + 1 := by rw [IntKind.wrap_i64]; omega
      have b2 : IntKind.i64.wrap ((k : Int) + 2) = (k : Int) + 2 := by rw [IntKind.wrap_i64]; omega
      have hr := round_any x 500 wr (by decide) (by decide)
      have hp := pk_lt x (m := 500) (by decide)
      clear hS hzx HO hm hgn hD
      go_wp2_with fail
      refine hr.mono ?_
      rintro e w2 ⟨rfl, rfl⟩
      clear hr hcx
      generalize hpk : (pk x 500 : Int) = pv at *
      have hp0 : 0 ≤ pv := by omega
      have hp1 : pv < 500 := by omega
      clear hp hpk
      obtain ⟨nn, hnn⟩ : ∃ z, 1 + pv = z := ⟨_, rfl⟩
      have g0 : IntKind.i64.wrap (1 + pv) = nn := by rw [hnn, IntKind.wrap_i64]; omega
      have g1 : 1 ≤ nn := by omega
      have g2 : nn ≤ 500 := by omega
      clear hp0 hp1 hnn
      obtain ⟨hf, hhf⟩ : ∃ z, nn.tdiv 2 = z := ⟨_, rfl⟩
      have hh : 0 ≤ hf ∧ hf < nn := by
        rw [← hhf, Int.tdiv_eq_ediv_of_nonneg (by omega)]; omega
      have h0 := hh.1
      have h1' := hh.2
      clear hh
      have g3 : IntKind.i64.wrap hf = hf := by rw [IntKind.wrap_i64]; omega
      have g4 : IntKind.i64.wrap (nw + nn) = nw + nn := by rw [IntKind.wrap_i64]; omega
      have g5 : IntKind.i64.wrap (nw + hf) = nw + hf := by rw [IntKind.wrap_i64]; omega
      have hm1 : m ≤ 1000000 := by have := HM.out.1; omega
      have hg1 : 0 ≤ gn ∧ gn ≤ 1000000 := by have := HM.out.2; omega
      go_wp2_with fail
      refine (reset_ok (i := 0) (now := nw) (d := nn) HS.out rfl (Drp.none rfl) (by show (3 : Int) ≠ 0; decide) (by show (3 : Int) ≠ 4; decide) ⟨⟨by omega, by omega⟩, fun _ => by omega⟩ hg1.1 hg1.2 (by simp) hm1 (by simp)).mono ?_
      rintro e w4 ⟨he, h, -⟩
      rw [wn_small (by omega) (by omega) (by omega) (by omega)] at h
      obtain rfl : e = .returned (.tuple #[.bool true, .int .i64 0]) := he
      have H4 : Hid (SS W W.heap.size [⟨3, 7, none, gn + 1⟩] 1 (m + 1) [⟨0, nw + nn, (m : Int) + 1⟩] _ [] w4) := h
      clear h HS hg1
      go_wp2_with fail
      refine (next_set H4.out (by simp)).mono ?_
      rintro e w5 ⟨he, h, -⟩
      obtain rfl : e = .returned (.tuple #[.int .i64 (nw + nn), .bool true]) := he
      have H5 := Lib.hid h
      clear h H4
      go_wp2_with fail
      refine (gen_any 0 H5.out).mono ?_
      rintro e w6 ⟨he, h, -⟩
      have he2 : e = .returned (.int .i64 (gn + 1)) := he
      rw [show gn + 1 = (k : Int) + 2 by have := HM.out.2; omega] at he2
      subst he2
      have H6 := Lib.hid h
      clear h H5 he
      go_wp2_with fail
      refine (fire_no (now := nw + hf) H6.out (tk_idle (by show nw + hf < nw + nn; omega)) (by have := HM.out.1; omega) (by simp)).mono ?_
      rintro e w7 ⟨he, h, -⟩
      obtain rfl : e = .returned (.tuple #[.agg #[.int .i64 0, .int .i64 0, .int .i64 0, .int .i64 0, .int .i64 0, .slice none 0 0, .bool false], .bool false]) := he
      have H7 : Hid (AnS W W.heap.size 3 7 none [] (k + 1) (nw + nn) (w7.alloc (.cells #[.int .i64 0, .int .i64 0, .int .i64 0, .int .i64 0, .int .i64 0, .slice none 0 0, .bool false] 35))) := ⟨m + 1, _, gn + 1, _, by have := HM.out.1; omega, by have := HM.out.2; omega, SS.box h _⟩
      clear h H6
      go_upto_region 28 with (fail)
      generalize w7.alloc (.cells #[.int .i64 0, .int .i64 0, .int .i64 0, .int .i64 0, .int .i64 0, .slice none 0 0, .bool false] 35) = w8 at *
      go_wp2_with fail
      go_roundw
      case rel => exact ⟨k + 1, nw + hf, nw + nn, by omega, rfl, rfl, by go_num, by omega, by omega, fun e => absurd e (by omega), H7⟩
      case measure => simp [intOf]; omega
    · as_aux_lemma =>
      obtain rfl : k = n := by omega
      have k3 : ¬ (k : Int) < (k : Int) := by omega
      obtain ⟨m, z, gn, g, hm, hgn, hS⟩ := HO.out
      have HS := Lib.hid hS
      clear hS HO
      by_cases hz0 : k = 0
      · subst hz0
        obtain rfl := hD rfl
        have hgn2 : gn = 1 := by omega
        clear hgn hD hm
        subst hgn2
        go_wp2_with fail
        refine (next_set HS.out (by simp)).mono ?_
        rintro e w5 ⟨he, h, -⟩
        obtain rfl : e = .returned (.tuple #[.int .i64 D, .bool true]) := he
        have H5 := Lib.hid h
        clear h HS
        go_wp2_with fail
        refine (gen_any 0 H5.out).mono ?_
        rintro e w6 ⟨he, h, -⟩
        obtain rfl : e = .returned (.int .i64 1) := he
        have HB := Lib.hid h.bel
        clear h H5
        go_wp2_with fail
        refine (awakes_any w6).mono ?_
        rintro e w2 ⟨rfl, hb⟩
        have HB2 := Lib.hid (HB.out.trans (hb.mono HB.out.size))
        clear hb
        go_wp2_with fail
        go_ret
        exact ⟨rfl, HB2.out⟩
      · have hz1 : ((k : Int) == 0) = false := by simpa using hz0
        clear hD hgn hm
        go_wp2_with fail
        refine (len_set HS.out).mono ?_
        rintro e w5 ⟨he, rfl⟩
        obtain rfl : e = .returned (.int .i64 1) := he
        have HB := Lib.hid HS.out.bel
        clear HS
        go_wp2_with fail
        refine (awakes_any _).mono ?_
        rintro e w2 ⟨rfl, hb⟩
        have HB2 := Lib.hid (HB.out.trans (hb.mono HB.out.size))
        clear hb
        go_wp2_with fail
        go_ret
        exact ⟨rfl, HB2.out⟩
set_option maxHeartbeats 4000000 in
theorem anewT_any (kind d : Int) (A0 : Option Addr) (n c0 : Nat) (l : List Int) (W : World) (hR : Rn W A0 n l) : Calls Try.prog 6 #[.int .i64 kind, .int .i64 d, .slice A0 n c0] W (BoolR true W) := by
  by_cases q0 : d < 1
  ·
    go_enter Try.func6, Try.ntmps6
    go_wp2_with fail
    refine (awakes_any _).mono ?_
    rintro e w' ⟨rfl, hb⟩
    have HB := Lib.hid hb
    clear hb
    go_wp2_with fail
    go_ret
    exact ⟨rfl, HB.out⟩
  by_cases q1 : 1000 < d
  ·
    go_enter Try.func6, Try.ntmps6
    go_wp2_with fail
    refine (awakes_any _).mono ?_
    rintro e w' ⟨rfl, hb⟩
    have HB := Lib.hid hb
    clear hb
    go_wp2_with fail
    go_ret
    exact ⟨rfl, HB.out⟩
  by_cases q2 : (30 : Int) < (n : Int)
  ·
    go_enter Try.func6, Try.ntmps6
    go_wp2_with fail
    refine (awakes_any _).mono ?_
    rintro e w' ⟨rfl, hb⟩
    have HB := Lib.hid hb
    clear hb
    go_wp2_with fail
    go_ret
    exact ⟨rfl, HB.out⟩
  have hp := pk_lt kind (m := 3) (by decide)
  have h3 : pk kind 3 = 0 ∨ pk kind 3 = 1 ∨ pk kind 3 = 2 := by omega
  rcases h3 with h3 | h3 | h3
  · exact anew_1 kind d A0 n c0 l W hR (by omega) (by omega) (by omega) h3
  · exact anew_2 kind d A0 n c0 l W hR (by omega) (by omega) (by omega) h3
  · exact anew_3 kind d A0 n c0 l W hR (by omega) (by omega) (by omega) h3
end Go.Proofs.Ytmadcnpkaijllaa
