/- TimerStale says true. Condition: the slice reads as it came. -/
import Derived.Test.YtmadcnpkaijllaaSzs
import Derived.Test.YtmadcnpkaijllaaRnt
import Derived.Test.YtmadcnpkaijllaaOpn
import Derived.Deep.CutRange
namespace Go.Proofs.Ytmadcnpkaijllaa
open Go.RowKit Ch
set_option linter.unusedVariables false
set_option maxRecDepth 100000
set_option maxHeartbeats 16000000 in
theorem stale_false (d : Int) (A0 : Option Addr) (n c0 : Nat) (l : List Ac) (W : World) (hR : RdA W A0 n l) (h1 : 1 ≤ d) (h2 : d ≤ 1000) (hn : n ≤ 80) : Calls Try.prog 3 #[.bool false, .int .i64 d, .slice A0 n c0] W (BoolR true W) := by
  have q0 : ¬ d < 1 := by omega
  have q1 : ¬ 1000 < d := by omega
  have q2 : ¬ (80 : Int) < (n : Int) := by omega
  have R1 := Lib.hid hR
  clear hR
  go_enter Try.func3, Try.ntmps3
  go_wp2_with fail
  refine (ss_new (Below.refl _ W)).mono ?_
  rintro e w0 ⟨rfl, h0, -⟩
  have H0 := Lib.hid h0
  clear h0
  go_wp2_with fail
  refine (timer_ok (now := 0) (d := d) H0.out (by decide) (by decide) (by decide) (by decide) (by decide)).mono ?_
  rintro e w1 ⟨c, he, h, -⟩
  rw [wn_small (by decide) (by decide) (by omega) (by omega), Int.zero_add] at h
  obtain rfl : e = .returned (.tuple #[.int .i64 0, .pointer (some ⟨c, 0, none⟩), .int .i64 0]) := he
  have H2 : Hid (SS W W.heap.size [⟨1, 0, some c, 1⟩] 1 1 [⟨0, d, 1⟩] (fun _ => 0) [(c, cV [])] w1) := by
    have e9 : per 1 d = 0 := rfl
    rw [e9, fput_zero] at h
    exact h
  clear h H0
  have H1 : Hid (ZS W W.heap.size c 0 0 0 d 2 0 false w1) := by
    refine ⟨_, _, _, _, _, _, _, H2.out, by omega, ⟨by simp, fun j e he => ?_, fun y hy => ?_, by simp [ids], ⟨_, rfl, rfl⟩, rfl, fun y hy e => ?_, .inl rfl, ?_⟩, fun e => (by cases e)⟩
    · have hj : j = 0 := by have := (List.getElem?_eq_some_iff.1 he).1; simp at this; exact this
      subst hj
      injection he with he
      subst he
      exact ⟨.inl rfl, by show (0 : Int) ≤ 1; decide, by show (1 : Int) ≤ 2; decide, c, [], rfl, rfl, by simp⟩
    · obtain rfl := List.mem_singleton.1 hy
      exact ⟨by show 0 < d; omega, ⟨0, rfl, by simp⟩, .inl rfl⟩
    · obtain rfl := List.mem_singleton.1 hy
      exact ⟨by omega, by show d ≤ d; omega⟩
    · simp [dueN]; omega
  clear H2
  go_wp2_with fail
  go_loopw [11, 12, 13, 14] (fun x y z j wr => ∃ (k : Nat) (nw sc wh : Int), k ≤ n ∧ x = .int .i64 nw ∧ y = .int .i64 sc ∧ z = .int .i64 wh ∧ j = .int .i64 k ∧ 0 ≤ sc ∧ sc ≤ nw ∧ nw ≤ 2000 * (k : Int) ∧ -1 ≤ wh ∧ wh ≤ 2000 * (k : Int) + 1000 ∧ Hid (ZS W W.heap.size c 0 nw nw wh (5 * k + 2) 0 false wr)) (fun _ _ _ j _ => n - (intOf j).toNat)
  case atStart => exact ⟨0, 0, 0, d, by omega, rfl, rfl, rfl, rfl, by omega, by omega, by omega, by omega, by omega, H1⟩
  case round =>
    clear H1
    obtain ⟨k, nw, sc, wh, hk, rfl, rfl, rfl, rfl, s0, s1, s2, s3, s4, HO⟩ := hrel
    by_cases hlt : k < n
    · obtain ⟨bb, off, a, rfl, hbb, hza, hc0, hc1, hc2⟩ := R1.out.cells HO.out.bel hlt
      have k3 : (k : Int) < (n : Int) := by omega
      have k4 : 0 ≤ (k : Int) := by omega
      have k5 : (k : Int) ≤ 80 := by omega
      have b1 : IntKind.i64.wrap ((k : Int) + 1) = (k : Int) + 1 := by rw [IntKind.wrap_i64]; omega
      have hp4 := pk_lt a.k (m := 4) (by decide)
      have hcs : pk a.k 4 = 0 ∨ pk a.k 4 = 1 ∨ pk a.k 4 = 2 ∨ pk a.k 4 = 3 := by omega
      have hr4 := fun w => round_any a.k 4 w (by decide) (by decide)
      clear hza hc1 hp4
      rcases hcs with hcs | hcs | hcs | hcs
      · as_aux_lemma =>
        have hr : Calls Try.prog 14 #[.int .i64 a.k, .int .i64 4] wr fun e w' => e = .returned (.int .i64 0) ∧ wr = w' := by
          have h9 := hr4 wr
          rw [hcs] at h9
          exact h9
        clear hr4 hcs
        go_wp2_with fail
        refine hr.mono ?_
        rintro e w2 ⟨rfl, rfl⟩
        clear hr
        have hr2 := round_any a.w 2000 wr (by decide) (by decide)
        have hp := pk_lt a.w (m := 2000) (by decide)
        go_wp2_with fail
        refine hr2.mono ?_
        rintro e w2 ⟨rfl, rfl⟩
        clear hr2 hc0 hc2
        generalize hpk : (pk a.w 2000 : Int) = pv at *
        have hp0 : 0 ≤ pv := by omega
        have hp1 : pv < 2000 := by omega
        clear hp hpk
        have b0 : IntKind.i64.wrap (nw + pv) = nw + pv := by rw [IntKind.wrap_i64]; omega
        have HT : Hid (ZS W W.heap.size c 0 (nw + pv) nw wh (5 * k + 2) 2 false wr) := HO.out.time hp0
        clear HO
        go_wp2_with fail
        go_loopw [15] (fun z wq => ∃ j : Nat, j ≤ 3 ∧ z = .int .i64 j ∧ Hid (ZS W W.heap.size c 0 (nw + pv) nw wh (5 * k + 2 + j) (2 - j) false wq)) (fun z _ => 3 - (intOf z).toNat)
        case atStart => exact ⟨0, by omega, rfl, HT⟩
        case round =>
          clear HT
          obtain ⟨j, hj, rfl, HF⟩ := hrel
          by_cases hlt2 : j < 3
          · have j3 : (j : Int) < 3 := by omega
            have b2 : IntKind.i64.wrap ((j : Int) + 1) = (j : Int) + 1 := by rw [IntKind.wrap_i64]; omega
            generalize wr = w1 at *
            go_wp2_with fail
            refine (zs_fire HF.out (by omega) (by omega) (by omega) (by omega)).mono ?_
            rintro e w3 ⟨f0, f1, f2, f3, f4, A, a1, a2, kp, ok, rfl, ho, hz⟩
            have HB3 := Lib.hid (Fbk.new w3 f0 f1 f2 f3 f4 A a1 a2 kp)
            have HZ : Hid (ZS W W.heap.size c 0 (nw + pv) nw wh (5 * k + 2 + (j + 1)) (2 - (j + 1)) false (w3.alloc (.cells #[.int .i64 f0, .int .i64 f1, .int .i64 f2, .int .i64 f3, .int .i64 f4, .slice A a1 a2, .bool kp] 35))) := by
              have h9 := hz.box (.cells #[.int .i64 f0, .int .i64 f1, .int .i64 f2, .int .i64 f3, .int .i64 f4, .slice A a1 a2, .bool kp] 35)
              rw [Nat.sub_add_eq]
              exact h9
            clear hz HF
            go_upto_region 22 with (fail)
            generalize w3.alloc (.cells #[.int .i64 f0, .int .i64 f1, .int .i64 f2, .int .i64 f3, .int .i64 f4, .slice A a1 a2, .bool kp] 35) = w4 at *
            generalize w3.heap.size = b at *
            obtain ⟨p0, p1, p2, p3, p4, p5, p6⟩ := HB3.out.cells
            clear HB3 p0 p1 p3 p4 p5 p6
            cases ok
            · clear ho p2
              go_wp2_with fail
              go_roundw
              case rel => exact ⟨j + 1, by omega, by go_num, HZ⟩
              case measure => simp [intOf]; omega
            · have ho2 := ho rfl
              have o1 : ¬ (nw + pv < f2) := by omega
              have o2 : ¬ f2 < sc := by omega
              clear ho ho2
              go_wp2_with fail
              go_roundw
              case rel => exact ⟨j + 1, by omega, by go_num, HZ⟩
              case measure => simp [intOf]; omega
          · obtain rfl : j = 3 := by omega
            have HZ : Hid (ZS W W.heap.size c 0 (nw + pv) (nw + pv) wh (5 * k + 2 + 3) 0 false wr) := ZS.rest HF.out
            have k9 : ¬ ((3 : Nat) : Int) < 3 := by decide
            clear HF
            go_wp2_with fail
            refine (zs_len HZ.out).mono ?_
            rintro e w8 ⟨rfl, rfl⟩
            go_wp2_with fail
            refine (zs_cap HZ.out).mono ?_
            rintro e w8 ⟨rfl, rfl⟩
            go_wp2_with fail
            go_roundw
            case rel => exact ⟨k + 1, nw + pv, sc, wh, by omega, rfl, rfl, rfl, by go_num, by omega, by omega, by omega, by omega, by omega, HZ.out.more (by omega)⟩
            case measure => simp [intOf]; omega
      · as_aux_lemma =>
        have hr : Calls Try.prog 14 #[.int .i64 a.k, .int .i64 4] wr fun e w' => e = .returned (.int .i64 1) ∧ wr = w' := by
          have h9 := hr4 wr
          rw [hcs] at h9
          exact h9
        clear hr4 hcs
        go_wp2_with fail
        refine hr.mono ?_
        rintro e w2 ⟨rfl, rfl⟩
        clear hr
        clear hc0 hc2
        go_wp2_with fail
        refine (zs_recv HO.out).mono ?_
        rintro e w3 ⟨v, ok, A, cap, rfl, ho, hz⟩
        have HZ := Lib.hid hz.gen
        clear hz HO
        cases ok
        · clear ho
          go_wp2_with fail
          refine (zs_len HZ.out).mono ?_
          rintro e w8 ⟨rfl, rfl⟩
          go_wp2_with fail
          refine (zs_cap HZ.out).mono ?_
          rintro e w8 ⟨rfl, rfl⟩
          go_wp2_with fail
          go_roundw
          case rel => exact ⟨k + 1, nw, sc, wh, by omega, rfl, rfl, rfl, by go_num, by omega, by omega, by omega, by omega, by omega, HZ.out.more (by omega)⟩
          case measure => simp [intOf]; omega
        · have ho2 := ho rfl
          have o1 : ¬ wh < 0 := by omega
          have o2 : ¬ v < wh := by omega
          have o3 : ¬ nw < v := by omega
          clear ho ho2
          go_wp2_with fail
          refine (zs_len HZ.out).mono ?_
          rintro e w8 ⟨rfl, rfl⟩
          go_wp2_with fail
          refine (zs_cap HZ.out).mono ?_
          rintro e w8 ⟨rfl, rfl⟩
          go_wp2_with fail
          go_roundw
          case rel => exact ⟨k + 1, nw, sc, wh, by omega, rfl, rfl, rfl, by go_num, by omega, by omega, by omega, by omega, by omega, HZ.out.more (by omega)⟩
          case measure => simp [intOf]; omega
      · as_aux_lemma =>
        have hr : Calls Try.prog 14 #[.int .i64 a.k, .int .i64 4] wr fun e w' => e = .returned (.int .i64 2) ∧ wr = w' := by
          have h9 := hr4 wr
          rw [hcs] at h9
          exact h9
        clear hr4 hcs
        go_wp2_with fail
        refine hr.mono ?_
        rintro e w2 ⟨rfl, rfl⟩
        clear hr
        clear hc0 hc2
        go_wp2_with fail
        refine (zs_stop HO.out (by omega)).mono ?_
        rintro e w3 ⟨b, rfl, hz⟩
        have HY := Lib.hid hz
        clear hz HO
        go_wp2_with fail
        refine (zs_can HY.out).mono ?_
        rintro e w4 ⟨rfl, hz⟩
        have HZ := Lib.hid hz.gen
        clear hz HY
        go_wp2_with fail
        refine (zs_len HZ.out).mono ?_
        rintro e w8 ⟨rfl, rfl⟩
        go_wp2_with fail
        refine (zs_cap HZ.out).mono ?_
        rintro e w8 ⟨rfl, rfl⟩
        go_wp2_with fail
        go_roundw
        case rel => exact ⟨k + 1, nw, sc, -1, by omega, rfl, rfl, rfl, by go_num, by omega, by omega, by omega, by omega, by omega, HZ.out.more (by omega)⟩
        case measure => simp [intOf]; omega
      · as_aux_lemma =>
        have hr : Calls Try.prog 14 #[.int .i64 a.k, .int .i64 4] wr fun e w' => e = .returned (.int .i64 3) ∧ wr = w' := by
          have h9 := hr4 wr
          rw [hcs] at h9
          exact h9
        clear hr4 hcs
        go_wp2_with fail
        refine hr.mono ?_
        rintro e w2 ⟨rfl, rfl⟩
        clear hr
        have hr2 := round_any a.w 1000 wr (by decide) (by decide)
        have hp := pk_lt a.w (m := 1000) (by decide)
        go_wp2_with fail
        refine hr2.mono ?_
        rintro e w2 ⟨rfl, rfl⟩
        clear hr2 hc0 hc2
        generalize hpk : (pk a.w 1000 : Int) = pv at *
        have hp0 : 0 ≤ pv := by omega
        have hp1 : pv < 1000 := by omega
        clear hp hpk
        obtain ⟨kk, hkk⟩ : ∃ z, 1 + pv = z := ⟨_, rfl⟩
        have g0 : IntKind.i64.wrap (1 + pv) = kk := by rw [hkk, IntKind.wrap_i64]; omega
        have g1 : 1 ≤ kk := by omega
        have g2 : kk ≤ 1000 := by omega
        have g3 : IntKind.i64.wrap (nw + kk) = nw + kk := by rw [IntKind.wrap_i64]; omega
        clear hp0 hp1 hkk
        go_wp2_with fail
        refine (zs_reset HO.out (by omega) (by omega) (by omega) g1 g2).mono ?_
        rintro e w3 ⟨b, rfl, hz⟩
        have HY := Lib.hid hz
        clear hz HO
        go_wp2_with fail
        refine (zs_can HY.out).mono ?_
        rintro e w4 ⟨rfl, hz⟩
        have HZ := Lib.hid hz.gen
        clear hz HY
        go_wp2_with fail
        refine (zs_len HZ.out).mono ?_
        rintro e w8 ⟨rfl, rfl⟩
        go_wp2_with fail
        refine (zs_cap HZ.out).mono ?_
        rintro e w8 ⟨rfl, rfl⟩
        go_wp2_with fail
        go_roundw
        case rel => exact ⟨k + 1, nw, nw, nw + kk, by omega, rfl, rfl, rfl, by go_num, by omega, by omega, by omega, by omega, by omega, HZ.out.more (by omega)⟩
        case measure => simp [intOf]; omega
    · as_aux_lemma =>
      obtain rfl : k = n := by omega
      have k3 : ¬ (k : Int) < (k : Int) := by omega
      have HB := Lib.hid HO.out.bel
      clear HO
      go_wp2_with fail
      refine (awakes_any wr).mono ?_
      rintro e w2 ⟨rfl, hb⟩
      have HB2 := Lib.hid (HB.out.trans (hb.mono HB.out.size))
      clear hb
      go_wp2_with fail
      go_ret
      exact ⟨rfl, HB2.out⟩
set_option maxHeartbeats 16000000 in
theorem stale_true (d : Int) (A0 : Option Addr) (n c0 : Nat) (l : List Ac) (W : World) (hR : RdA W A0 n l) (h1 : 1 ≤ d) (h2 : d ≤ 1000) (hn : n ≤ 80) : Calls Try.prog 3 #[.bool true, .int .i64 d, .slice A0 n c0] W (BoolR true W) := by
  have q0 : ¬ d < 1 := by omega
  have q1 : ¬ 1000 < d := by omega
  have q2 : ¬ (80 : Int) < (n : Int) := by omega
  have R1 := Lib.hid hR
  clear hR
  go_enter Try.func3, Try.ntmps3
  go_wp2_with fail
  refine (ss_new (Below.refl _ W)).mono ?_
  rintro e w0 ⟨rfl, h0, -⟩
  have H0 := Lib.hid h0
  clear h0
  go_wp2_with fail
  refine (timer_ok (now := 0) (d := d) H0.out (by decide) (by decide) (by decide) (by decide) (by decide)).mono ?_
  rintro e w1 ⟨c, he, h, -⟩
  rw [wn_small (by decide) (by decide) (by omega) (by omega), Int.zero_add] at h
  obtain rfl : e = .returned (.tuple #[.int .i64 0, .pointer (some ⟨c, 0, none⟩), .int .i64 0]) := he
  have H2 : Hid (SS W W.heap.size [⟨1, 0, some c, 1⟩] 1 1 [⟨0, d, 1⟩] (fun _ => 0) [(c, cV [])] w1) := by
    have e9 : per 1 d = 0 := rfl
    rw [e9, fput_zero] at h
    exact h
  clear h H0
  go_wp2_with fail
  refine (ticker_ok (now := 0) (d := d) H2.out (by decide) h1 (by decide) (by simp) (by decide) (by simp)).mono ?_
  rintro e w2 ⟨c1, he, h, -⟩
  rw [wn_small (by decide) (by decide) (by omega) (by omega), Int.zero_add] at h
  obtain rfl : e = .returned (.tuple #[.int .i64 1, .pointer (some ⟨c1, 0, none⟩), .int .i64 0]) := he
  have ep : per 2 d = d := by unfold per; rw [if_pos rfl]; exact hz_small (by omega) (by omega)
  have H3 : Hid (SS W W.heap.size [⟨1, 0, some c, 1⟩, ⟨2, 0, some c1, 1⟩] 2 2 [⟨0, d, 1⟩, ⟨1, d, 2⟩] (fput (fun _ => 0) 1 d) [(c, cV []), (c1, cV [])] w2) := by
    rw [ep] at h
    have e8 : ins ⟨1, d, 2⟩ [⟨0, d, 1⟩] = [⟨0, d, 1⟩, ⟨1, d, 2⟩] := by
      show (if d < d then _ else _) = _
      rw [if_neg (by omega)]; rfl
    have h8 : SS W W.heap.size [⟨1, 0, some c, 1⟩, ⟨2, 0, some c1, 1⟩] 2 2 (ins ⟨1, d, 2⟩ [⟨0, d, 1⟩]) (fput (fun _ => 0) 1 d) [(c, cV []), (c1, cV [])] w2 := h
    rw [e8] at h8
    exact h8
  clear h H2 ep
  have H1 : Hid (ZS W W.heap.size c1 1 0 0 d 2 0 false w2) := by
    refine ⟨_, _, _, _, _, _, [], H3.out, by omega, ⟨by simp, fun j e he => ?_, fun y hy => ?_, by simp [ids], ⟨_, rfl, rfl⟩, rfl, fun y hy e => ?_, .inl rfl, ?_⟩, fun e => (by cases e)⟩
    · have hj : j = 0 ∨ j = 1 := by have := (List.getElem?_eq_some_iff.1 he).1; simp at this; omega
      rcases hj with rfl | rfl
      · injection he with he
        subst he
        exact ⟨.inl rfl, by show (0 : Int) ≤ 1; decide, by show (1 : Int) ≤ 2; decide, c, [], rfl, rfl, by simp⟩
      · injection he with he
        subst he
        exact ⟨.inr rfl, by show (0 : Int) ≤ 1; decide, by show (1 : Int) ≤ 2; decide, c1, [], rfl, rfl, by simp⟩
    · have hy2 : y = ⟨0, d, 1⟩ ∨ y = ⟨1, d, 2⟩ := by simpa using hy
      rcases hy2 with rfl | rfl
      · exact ⟨by show 0 < d; omega, ⟨0, rfl, by simp⟩, .inl (fput_ne (by show (0 : Int) ≠ 1; decide))⟩
      · exact ⟨by show 0 < d; omega, ⟨1, rfl, by simp⟩, .inr (by show 1 ≤ fput (fun _ => 0) 1 d 1 ∧ fput (fun _ => 0) 1 d 1 ≤ 1000; rw [fput_at]; omega)⟩
    · have hy2 : y = ⟨0, d, 1⟩ ∨ y = ⟨1, d, 2⟩ := by simpa using hy
      rcases hy2 with rfl | rfl
      · exact absurd e (by show ¬ (0 : Int) = ((1 : Nat) : Int); decide)
      · exact ⟨by omega, by show d ≤ d; omega⟩
    · have : ¬ d ≤ 0 := by omega
      simp [dueN, this]
  clear H3
  generalize w2 = w1 at *
  generalize c1 = c at *
  go_wp2_with fail
  go_loopw [11, 12, 13, 14] (fun x y z j wr => ∃ (k : Nat) (nw sc wh : Int), k ≤ n ∧ x = .int .i64 nw ∧ y = .int .i64 sc ∧ z = .int .i64 wh ∧ j = .int .i64 k ∧ 0 ≤ sc ∧ sc ≤ nw ∧ nw ≤ 2000 * (k : Int) ∧ -1 ≤ wh ∧ wh ≤ 2000 * (k : Int) + 1000 ∧ Hid (ZS W W.heap.size c 1 nw nw wh (5 * k + 2) 0 false wr)) (fun _ _ _ j _ => n - (intOf j).toNat)
  case atStart => exact ⟨0, 0, 0, d, by omega, rfl, rfl, rfl, rfl, by omega, by omega, by omega, by omega, by omega, H1⟩
  case round =>
    clear H1
    obtain ⟨k, nw, sc, wh, hk, rfl, rfl, rfl, rfl, s0, s1, s2, s3, s4, HO⟩ := hrel
    by_cases hlt : k < n
    · obtain ⟨bb, off, a, rfl, hbb, hza, hc0, hc1, hc2⟩ := R1.out.cells HO.out.bel hlt
      have k3 : (k : Int) < (n : Int) := by omega
      have k4 : 0 ≤ (k : Int) := by omega
      have k5 : (k : Int) ≤ 80 := by omega
      have b1 : IntKind.i64.wrap ((k : Int) + 1) = (k : Int) + 1 := by rw [IntKind.wrap_i64]; omega
      have hp4 := pk_lt a.k (m := 4) (by decide)
      have hcs : pk a.k 4 = 0 ∨ pk a.k 4 = 1 ∨ pk a.k 4 = 2 ∨ pk a.k 4 = 3 := by omega
      have hr4 := fun w => round_any a.k 4 w (by decide) (by decide)
      clear hza hc1 hp4
      rcases hcs with hcs | hcs | hcs | hcs
      · as_aux_lemma =>
        have hr : Calls Try.prog 14 #[.int .i64 a.k, .int .i64 4] wr fun e w' => e = .returned (.int .i64 0) ∧ wr = w' := by
          have h9 := hr4 wr
          rw [hcs] at h9
          exact h9
        clear hr4 hcs
        go_wp2_with fail
        refine hr.mono ?_
        rintro e w2 ⟨rfl, rfl⟩
        clear hr
        have hr2 := round_any a.w 2000 wr (by decide) (by decide)
        have hp := pk_lt a.w (m := 2000) (by decide)
        go_wp2_with fail
        refine hr2.mono ?_
        rintro e w2 ⟨rfl, rfl⟩
        clear hr2 hc0 hc2
        generalize hpk : (pk a.w 2000 : Int) = pv at *
        have hp0 : 0 ≤ pv := by omega
        have hp1 : pv < 2000 := by omega
        clear hp hpk
        have b0 : IntKind.i64.wrap (nw + pv) = nw + pv := by rw [IntKind.wrap_i64]; omega
        have HT : Hid (ZS W W.heap.size c 1 (nw + pv) nw wh (5 * k + 2) 2 false wr) := HO.out.time hp0
        clear HO
        go_wp2_with fail
        go_loopw [15] (fun z wq => ∃ j : Nat, j ≤ 3 ∧ z = .int .i64 j ∧ Hid (ZS W W.heap.size c 1 (nw + pv) nw wh (5 * k + 2 + j) (2 - j) false wq)) (fun z _ => 3 - (intOf z).toNat)
        case atStart => exact ⟨0, by omega, rfl, HT⟩
        case round =>
          clear HT
          obtain ⟨j, hj, rfl, HF⟩ := hrel
          by_cases hlt2 : j < 3
          · have j3 : (j : Int) < 3 := by omega
            have b2 : IntKind.i64.wrap ((j : Int) + 1) = (j : Int) + 1 := by rw [IntKind.wrap_i64]; omega
            generalize wr = w1 at *
            go_wp2_with fail
            refine (zs_fire HF.out (by omega) (by omega) (by omega) (by omega)).mono ?_
            rintro e w3 ⟨f0, f1, f2, f3, f4, A, a1, a2, kp, ok, rfl, ho, hz⟩
            have HB3 := Lib.hid (Fbk.new w3 f0 f1 f2 f3 f4 A a1 a2 kp)
            have HZ : Hid (ZS W W.heap.size c 1 (nw + pv) nw wh (5 * k + 2 + (j + 1)) (2 - (j + 1)) false (w3.alloc (.cells #[.int .i64 f0, .int .i64 f1, .int .i64 f2, .int .i64 f3, .int .i64 f4, .slice A a1 a2, .bool kp] 35))) := by
              have h9 := hz.box (.cells #[.int .i64 f0, .int .i64 f1, .int .i64 f2, .int .i64 f3, .int .i64 f4, .slice A a1 a2, .bool kp] 35)
              rw [Nat.sub_add_eq]
              exact h9
            clear hz HF
            go_upto_region 22 with (fail)
            generalize w3.alloc (.cells #[.int .i64 f0, .int .i64 f1, .int .i64 f2, .int .i64 f3, .int .i64 f4, .slice A a1 a2, .bool kp] 35) = w4 at *
            generalize w3.heap.size = b at *
            obtain ⟨p0, p1, p2, p3, p4, p5, p6⟩ := HB3.out.cells
            clear HB3 p0 p1 p3 p4 p5 p6
            cases ok
            · clear ho p2
              go_wp2_with fail
              go_roundw
              case rel => exact ⟨j + 1, by omega, by go_num, HZ⟩
              case measure => simp [intOf]; omega
            · have ho2 := ho rfl
              have o1 : ¬ (nw + pv < f2) := by omega
              have o2 : ¬ f2 < sc := by omega
              clear ho ho2
              go_wp2_with fail
              go_roundw
              case rel => exact ⟨j + 1, by omega, by go_num, HZ⟩
              case measure => simp [intOf]; omega
          · obtain rfl : j = 3 := by omega
            have HZ : Hid (ZS W W.heap.size c 1 (nw + pv) (nw + pv) wh (5 * k + 2 + 3) 0 false wr) := ZS.rest HF.out
            have k9 : ¬ ((3 : Nat) : Int) < 3 := by decide
            clear HF
            go_wp2_with fail
            refine (zs_len HZ.out).mono ?_
            rintro e w8 ⟨rfl, rfl⟩
            go_wp2_with fail
            refine (zs_cap HZ.out).mono ?_
            rintro e w8 ⟨rfl, rfl⟩
            go_wp2_with fail
            go_roundw
            case rel => exact ⟨k + 1, nw + pv, sc, wh, by omega, rfl, rfl, rfl, by go_num, by omega, by omega, by omega, by omega, by omega, HZ.out.more (by omega)⟩
            case measure => simp [intOf]; omega
      · as_aux_lemma =>
        have hr : Calls Try.prog 14 #[.int .i64 a.k, .int .i64 4] wr fun e w' => e = .returned (.int .i64 1) ∧ wr = w' := by
          have h9 := hr4 wr
          rw [hcs] at h9
          exact h9
        clear hr4 hcs
        go_wp2_with fail
        refine hr.mono ?_
        rintro e w2 ⟨rfl, rfl⟩
        clear hr
        clear hc0 hc2
        go_wp2_with fail
        refine (zs_recv HO.out).mono ?_
        rintro e w3 ⟨v, ok, A, cap, rfl, ho, hz⟩
        have HZ := Lib.hid hz.gen
        clear hz HO
        cases ok
        · clear ho
          go_wp2_with fail
          refine (zs_len HZ.out).mono ?_
          rintro e w8 ⟨rfl, rfl⟩
          go_wp2_with fail
          refine (zs_cap HZ.out).mono ?_
          rintro e w8 ⟨rfl, rfl⟩
          go_wp2_with fail
          go_roundw
          case rel => exact ⟨k + 1, nw, sc, wh, by omega, rfl, rfl, rfl, by go_num, by omega, by omega, by omega, by omega, by omega, HZ.out.more (by omega)⟩
          case measure => simp [intOf]; omega
        · have ho2 := ho rfl
          have o1 : ¬ wh < 0 := by omega
          have o2 : ¬ v < wh := by omega
          have o3 : ¬ nw < v := by omega
          clear ho ho2
          go_wp2_with fail
          refine (zs_len HZ.out).mono ?_
          rintro e w8 ⟨rfl, rfl⟩
          go_wp2_with fail
          refine (zs_cap HZ.out).mono ?_
          rintro e w8 ⟨rfl, rfl⟩
          go_wp2_with fail
          go_roundw
          case rel => exact ⟨k + 1, nw, sc, wh, by omega, rfl, rfl, rfl, by go_num, by omega, by omega, by omega, by omega, by omega, HZ.out.more (by omega)⟩
          case measure => simp [intOf]; omega
      · as_aux_lemma =>
        have hr : Calls Try.prog 14 #[.int .i64 a.k, .int .i64 4] wr fun e w' => e = .returned (.int .i64 2) ∧ wr = w' := by
          have h9 := hr4 wr
          rw [hcs] at h9
          exact h9
        clear hr4 hcs
        go_wp2_with fail
        refine hr.mono ?_
        rintro e w2 ⟨rfl, rfl⟩
        clear hr
        clear hc0 hc2
        go_wp2_with fail
        refine (zs_stop HO.out (by omega)).mono ?_
        rintro e w3 ⟨b, rfl, hz⟩
        have HY := Lib.hid hz
        clear hz HO
        go_wp2_with fail
        refine (zs_can HY.out).mono ?_
        rintro e w4 ⟨rfl, hz⟩
        have HZ := Lib.hid hz.gen
        clear hz HY
        go_wp2_with fail
        refine (zs_len HZ.out).mono ?_
        rintro e w8 ⟨rfl, rfl⟩
        go_wp2_with fail
        refine (zs_cap HZ.out).mono ?_
        rintro e w8 ⟨rfl, rfl⟩
        go_wp2_with fail
        go_roundw
        case rel => exact ⟨k + 1, nw, sc, -1, by omega, rfl, rfl, rfl, by go_num, by omega, by omega, by omega, by omega, by omega, HZ.out.more (by omega)⟩
        case measure => simp [intOf]; omega
      · as_aux_lemma =>
        have hr : Calls Try.prog 14 #[.int .i64 a.k, .int .i64 4] wr fun e w' => e = .returned (.int .i64 3) ∧ wr = w' := by
          have h9 := hr4 wr
          rw [hcs] at h9
          exact h9
        clear hr4 hcs
        go_wp2_with fail
        refine hr.mono ?_
        rintro e w2 ⟨rfl, rfl⟩
        clear hr
        have hr2 := round_any a.w 1000 wr (by decide) (by decide)
        have hp := pk_lt a.w (m := 1000) (by decide)
        go_wp2_with fail
        refine hr2.mono ?_
        rintro e w2 ⟨rfl, rfl⟩
        clear hr2 hc0 hc2
        generalize hpk : (pk a.w 1000 : Int) = pv at *
        have hp0 : 0 ≤ pv := by omega
        have hp1 : pv < 1000 := by omega
        clear hp hpk
        obtain ⟨kk, hkk⟩ : ∃ z, 1 + pv = z := ⟨_, rfl⟩
        have g0 : IntKind.i64.wrap (1 + pv) = kk := by rw [hkk, IntKind.wrap_i64]; omega
        have g1 : 1 ≤ kk := by omega
        have g2 : kk ≤ 1000 := by omega
        have g3 : IntKind.i64.wrap (nw + kk) = nw + kk := by rw [IntKind.wrap_i64]; omega
        clear hp0 hp1 hkk
        go_wp2_with fail
        refine (zs_reset HO.out (by omega) (by omega) (by omega) g1 g2).mono ?_
        rintro e w3 ⟨b, rfl, hz⟩
        have HY := Lib.hid hz
        clear hz HO
        go_wp2_with fail
        refine (zs_can HY.out).mono ?_
        rintro e w4 ⟨rfl, hz⟩
        have HZ := Lib.hid hz.gen
        clear hz HY
        go_wp2_with fail
        refine (zs_len HZ.out).mono ?_
        rintro e w8 ⟨rfl, rfl⟩
        go_wp2_with fail
        refine (zs_cap HZ.out).mono ?_
        rintro e w8 ⟨rfl, rfl⟩
        go_wp2_with fail
        go_roundw
        case rel => exact ⟨k + 1, nw, nw, nw + kk, by omega, rfl, rfl, rfl, by go_num, by omega, by omega, by omega, by omega, by omega, HZ.out.more (by omega)⟩
        case measure => simp [intOf]; omega
    · as_aux_lemma =>
      obtain rfl : k = n := by omega
      have k3 : ¬ (k : Int) < (k : Int) := by omega
      have HB := Lib.hid HO.out.bel
      clear HO
      go_wp2_with fail
      refine (awakes_any wr).mono ?_
      rintro e w2 ⟨rfl, hb⟩
      have HB2 := Lib.hid (HB.out.trans (hb.mono HB.out.size))
      clear hb
      go_wp2_with fail
      go_ret
      exact ⟨rfl, HB2.out⟩
set_option maxHeartbeats 4000000 in
theorem stale_any (b : Bool) (d : Int) (A0 : Option Addr) (n c0 : Nat) (l : List Ac) (W : World) (hR : RdA W A0 n l) : Calls Try.prog 3 #[.bool b, .int .i64 d, .slice A0 n c0] W (BoolR true W) := by
  by_cases q0 : d < 1
  ·
    go_enter Try.func3, Try.ntmps3
    go_wp2_with fail
    refine (awakes_any _).mono ?_
    rintro e w' ⟨rfl, hb⟩
    have HB := Lib.hid hb
    clear hb
    go_wp2_with fail
    go_ret
    exact ⟨rfl, HB.out⟩
  by_cases q1 : 1000 < d
  ·
    go_enter Try.func3, Try.ntmps3
    go_wp2_with fail
    refine (awakes_any _).mono ?_
    rintro e w' ⟨rfl, hb⟩
    have HB := Lib.hid hb
    clear hb
    go_wp2_with fail
    go_ret
    exact ⟨rfl, HB.out⟩
  by_cases q2 : (80 : Int) < (n : Int)
  ·
    go_enter Try.func3, Try.ntmps3
    go_wp2_with fail
    refine (awakes_any _).mono ?_
    rintro e w' ⟨rfl, hb⟩
    have HB := Lib.hid hb
    clear hb
    go_wp2_with fail
    go_ret
    exact ⟨rfl, HB.out⟩
  cases b
  · exact stale_false d A0 n c0 l W hR (by omega) (by omega) (by omega)
  · exact stale_true d A0 n c0 l W hR (by omega) (by omega) (by omega)
end Go.Proofs.Ytmadcnpkaijllaa
