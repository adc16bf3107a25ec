/- TimerTicks says true. Condition: the slice reads as it came. -/
import Derived.Test.YtmadcnpkaijllaaLwk
import Derived.Test.YtmadcnpkaijllaaRnt
import Derived.Deep.CutRange
namespace Go.Proofs.Ytmadcnpkaijllaa
open Go.RowKit Ch
set_option linter.unusedVariables false
set_option maxRecDepth 100000
/-- The ticker, due at D; its channel has l. -/
def TkT (W : World) (t c : Nat) (d : Int) (k : Nat) (D : Int) (l : List Int) (w : World) : Prop := ∃ (m : Nat) (z : Int), m ≤ k + 1 ∧ SS W t [⟨2, 0, some c, 1⟩] 1 m [⟨0, D, z⟩] (fput (fun _ => 0) 0 d) [(c, cV l)] w
/-- What the law holds for there. -/
def HasV (hs : Int) (l : List Int) : Prop := (hs = -1 ∧ l = []) ∨ (0 ≤ hs ∧ l = [hs])
theorem tmod3 (x : Int) : IntKind.i64.wrap (x.tmod 3) = x.tmod 3 := by
  have h1 := Int.tmod_lt_of_pos x (show (0 : Int) < 3 by decide)
  have h2 := Int.tmod_lt_of_pos (-x) (show (0 : Int) < 3 by decide)
  rw [Int.neg_tmod] at h2
  rw [IntKind.wrap_i64]; omega
set_option maxHeartbeats 16000000 in
theorem ticks_in (d : Int) (A0 : Option Addr) (n c0 : Nat) (l : List Int) (W : World) (hR : Rn W A0 n l) (h1 : 1 ≤ d) (h2 : d ≤ 100) (hn : n ≤ 50) : Calls Try.prog 4 #[.int .i64 d, .slice A0 n c0] W (BoolR true W) := by
  have q0 : ¬ d < 1 := by omega
  have q1 : ¬ 100 < d := by omega
  have q2 : ¬ (50 : Int) < (n : Int) := by omega
  have R1 := Lib.hid hR
  clear hR
  go_enter Try.func4, Try.ntmps4
  go_wp2_with fail
  refine (ss_new (Below.refl _ W)).mono ?_
  rintro e w0 ⟨rfl, h0, -⟩
  have H0 := Lib.hid h0
  clear h0
  go_wp2_with fail
  refine (ticker_ok (now := 0) (d := d) H0.out (by decide) (by omega) (by decide) (by decide) (by decide) (by decide)).mono ?_
  rintro e w1 ⟨c, he, h, -⟩
  rw [wn_small (by decide) (by decide) (by omega) (by omega), Int.zero_add] at h
  obtain rfl : e = .returned (.tuple #[.int .i64 0, .pointer (some ⟨c, 0, none⟩), .int .i64 0]) := he
  have ep : per 2 d = d := by unfold per; rw [if_pos rfl]; exact hz_small (by omega) (by omega)
  rw [ep] at h
  have H1 : Hid (TkT W W.heap.size c d 0 d [] w1) := ⟨1, 1, by omega, h⟩
  clear h H0 ep
  go_wp2_with fail
  go_loopw [9, 10, 11, 12] (fun x y v i wr => ∃ (k : Nat) (nw D hs : Int) (lst : List Int), k ≤ n ∧ x = .int .i64 nw ∧ y = .int .i64 D ∧ v = .int .i64 hs ∧ i = .int .i64 k ∧ 0 ≤ nw ∧ nw ≤ 300 * (k : Int) ∧ 0 ≤ D ∧ D ≤ nw + d ∧ Hid (HasV hs lst) ∧ Hid (TkT W W.heap.size c d k D lst wr)) (fun _ _ _ i _ => n - (intOf i).toNat)
  case atStart => exact ⟨0, 0, d, -1, [], by omega, rfl, rfl, rfl, rfl, by omega, by omega, by omega, by omega, .inl ⟨rfl, rfl⟩, H1⟩
  case round =>
    clear H1
    obtain ⟨k, nw, D, hs, lst, hk, rfl, rfl, rfl, rfl, n0, n1, d0, d1, HV, HO⟩ := hrel
    by_cases hlt : k < n
    · obtain ⟨m, z, hm, hS⟩ := HO.out
      have HS := Lib.hid hS
      have HM := Lib.hid hm
      obtain ⟨bb, off, x, rfl, hbb, hzx, hcx⟩ := R1.out.cell hS.bel hlt
      have k3 : (k : Int) < (n : Int) := by omega
      have b1 : IntKind.i64.wrap ((k : Int) + 1) = (k : Int) + 1 := by rw [IntKind.wrap_i64]; omega
      have b3 := tmod3 x
      clear hS hzx HO hm
      by_cases hx : x.tmod 3 = 0
      · have hx2 : (x.tmod 3 == 0) = true := by simp [hx]
        rcases HV.out with ⟨rfl, rfl⟩ | ⟨g0, rfl⟩
        · as_aux_lemma =>
          have g1 : ¬ (0 : Int) ≤ -1 := by decide
          clear HV
          go_wp2_with fail
          refine (ss_recv (j := 0) HS.out rfl (by simp) (rc_none) rfl).mono ?_
          rintro e w3 ⟨A3, k4, he, -, h, -⟩
          obtain rfl : e = .returned (.tuple #[.int .i64 0, .bool false, .bool false, .slice A3 0 k4]) := he
          have H3 : Hid (TkT W W.heap.size c d (k + 1) D [] w3) := ⟨m, z, by have := HM.out; omega, h⟩
          clear h HS hcx hx hx2 b3
          go_wp2_with fail
          go_roundw
          case rel => exact ⟨k + 1, nw, D, -1, [], by omega, rfl, rfl, rfl, by go_num, by omega, by omega, by omega, by omega, .inl ⟨rfl, rfl⟩, H3⟩
          case measure => simp [intOf]; omega
        · as_aux_lemma =>
          clear HV
          go_wp2_with fail
          refine (ss_recv (j := 0) HS.out rfl (by simp) (rc_one _) rfl).mono ?_
          rintro e w3 ⟨A3, k4, he, -, h, -⟩
          obtain rfl : e = .returned (.tuple #[.int .i64 hs, .bool true, .bool true, .slice A3 0 k4]) := he
          have H3 : Hid (TkT W W.heap.size c d (k + 1) D [] w3) := ⟨m, z, by have := HM.out; omega, h⟩
          clear h HS hcx hx hx2 b3
          go_wp2_with fail
          go_roundw
          case rel => exact ⟨k + 1, nw, D, -1, [], by omega, rfl, rfl, rfl, by go_num, by omega, by omega, by omega, by omega, .inl ⟨rfl, rfl⟩, H3⟩
          case measure => simp [intOf]; omega
      · have hx2 : (x.tmod 3 == 0) = false := by simpa using hx
        have hr := round_any x 300 wr (by decide) (by decide)
        have hp := pk_lt x (m := 300) (by decide)
        go_wp2_with fail
        refine hr.mono ?_
        rintro e w2 ⟨rfl, rfl⟩
        clear hr hcx hx hx2 b3
        generalize hpk : (pk x 300 : Int) = pv at *
        have hp0 : 0 ≤ pv := by omega
        have hp1 : pv < 300 := by omega
        clear hp hpk
        have b0 : IntKind.i64.wrap (nw + pv) = nw + pv := by rw [IntKind.wrap_i64]; omega
        have m0 : 0 ≤ nw + pv := by omega
        have m1 : nw + pv ≤ 300 * (((k + 1 : Nat) : Int)) := by omega
        by_cases hd : D ≤ nw + pv
        · have hq := gon_row (wh := D) (p := d) (now := nw + pv) (by omega) (by omega) (by omega) (by omega) (by omega)
          have hgon : Hid (Gon D d (nw + pv)) := hq.1
          have q3 := hq.2
          clear hq
          obtain ⟨q, hqe⟩ : ∃ q, ((nw + pv) - D) / d = q := ⟨_, rfl⟩
          have hqb : 0 ≤ q ∧ q ≤ (nw + pv) - D := by
            rw [← hqe]
            exact ⟨Int.ediv_nonneg (by omega) (by omega), Int.ediv_le_self _ (by omega)⟩
          have g2 : ((nw + pv) - D).tdiv d = q := by rw [Int.tdiv_eq_ediv_of_nonneg (by omega)]; exact hqe
          rw [hqe] at q3
          clear hqe
          obtain ⟨pq, hpq⟩ : ∃ pq, d * (q + 1) = pq := ⟨_, rfl⟩
          rw [hpq] at q3
          have hpq2 : 0 ≤ pq ∧ pq ≤ 200000 := by
            have a1 := q3.1
            omega
          obtain ⟨D', hdu⟩ : ∃ z, D + pq = z := ⟨_, rfl⟩
          rw [hdu] at q3
          have g1 : IntKind.i64.wrap ((nw + pv) - D) = (nw + pv) - D := by rw [IntKind.wrap_i64]; omega
          have g3 : IntKind.i64.wrap q = q := by rw [IntKind.wrap_i64]; omega
          have g4 : IntKind.i64.wrap (q + 1) = q + 1 := by rw [IntKind.wrap_i64]; omega
          have g5 : IntKind.i64.wrap (d * (q + 1)) = pq := by rw [hpq, IntKind.wrap_i64]; omega
          have g6 : IntKind.i64.wrap (D + pq) = D' := by rw [hdu, IntKind.wrap_i64]; omega
          have g7 : (d == 0) = false := by simp <;> omega
          have g8 : (d == -1) = false := by simp <;> omega
          have HQ := Lib.hid q3
          have e1 : D' ≤ nw + pv + d := by have := q3.1; have := q3.2.2; omega
          have e2 : nw + pv < D' := by have := q3.1; have := q3.2.1; omega
          have e3 : 0 ≤ D' := by omega
          clear q3 hqb hpq hpq2 hdu
          rcases HV.out with ⟨rfl, rfl⟩ | ⟨g0, rfl⟩
          · as_aux_lemma =>
            have g9 : (-1 : Int) < 0 := by decide
            clear HV
            have hm1 : m ≤ 1000000 := by have := HM.out; omega
            go_wp2_with fail
            refine (fire_some (i := 0) (now := nw + pv) HS.out (tk_on (x := ⟨0, D, z⟩) hd hgon.out) rfl (Pt.chan (j := 0) (s' := cV [nw + pv]) rfl rfl rfl (by simp) rfl) (by simp) hm1 (by simp)).mono ?_
            rintro e w3 ⟨A, cap, he, -, h, -⟩
            obtain rfl : e = .returned (.tuple #[.agg #[.int .i64 0, .int .i64 2, .int .i64 D, .int .i64 (nw + pv), .int .i64 0, .slice A 0 cap, .bool true], .bool true]) := he
            have F3 := Lib.hid (Fbk.new w3 0 2 D (nw + pv) 0 A 0 cap true)
            have H3 : Hid (SS W W.heap.size [⟨2, 0, some c, 1⟩] 1 (m + 1) [⟨0, D', (m : Int) + 1⟩] (fput (fun _ => 0) 0 d) [(c, cV [nw + pv])] (w3.alloc (.cells #[.int .i64 0, .int .i64 2, .int .i64 D, .int .i64 (nw + pv), .int .i64 0, .slice A 0 cap, .bool true] 35))) := by
              have h' := SS.box h (.cells #[.int .i64 0, .int .i64 2, .int .i64 D, .int .i64 (nw + pv), .int .i64 0, .slice A 0 cap, .bool true] 35)
              rw [show nx (⟨0, D, z⟩ : It).w (fput (fun _ => 0) 0 d (⟨0, D, z⟩ : It).id) (nw + pv) = D' from HQ.out.1] at h'
              exact h'
            clear h HS hgon HQ hm1
            go_upto_region 20 with (fail)
            generalize w3.alloc (.cells #[.int .i64 0, .int .i64 2, .int .i64 D, .int .i64 (nw + pv), .int .i64 0, .slice A 0 cap, .bool true] 35) = w4 at *
            generalize w3.heap.size = r at *
            obtain ⟨p0, p1, p2, p3, p4, p5, p6⟩ := F3.out.cells
            clear F3
            go_wp2_with fail
            refine (fire_no (now := nw + pv) H3.out (tk_idle (by show nw + pv < D'; exact e2)) (by have := HM.out; omega) (by simp)).mono ?_
            rintro e w5 ⟨he, h, -⟩
            obtain rfl : e = .returned (.tuple #[.agg #[.int .i64 0, .int .i64 0, .int .i64 0, .int .i64 0, .int .i64 0, .slice none 0 0, .bool false], .bool false]) := he
            have H5 : Hid (TkT W W.heap.size c d (k + 1) D' [nw + pv] (w5.alloc (.cells #[.int .i64 0, .int .i64 0, .int .i64 0, .int .i64 0, .int .i64 0, .slice none 0 0, .bool false] 35))) := ⟨m + 1, _, by have := HM.out; omega, SS.box h _⟩
            clear h H3 p0 p1 p2 p3 p4 p5 p6
            go_upto_region 27 with (fail)
            generalize w5.alloc (.cells #[.int .i64 0, .int .i64 0, .int .i64 0, .int .i64 0, .int .i64 0, .slice none 0 0, .bool false] 35) = w6 at *
            go_wp2_with fail
            go_roundw
            case rel => exact ⟨k + 1, nw + pv, D', nw + pv, [nw + pv], by omega, rfl, rfl, rfl, by go_num, by omega, by omega, by omega, by omega, .inr ⟨by omega, rfl⟩, H5⟩
            case measure => simp [intOf]; omega
          · as_aux_lemma =>
            have g9 : ¬ hs < 0 := by omega
            clear HV
            have hm1 : m ≤ 1000000 := by have := HM.out; omega
            go_wp2_with fail
            refine (fire_some (i := 0) (now := nw + pv) HS.out (tk_on (x := ⟨0, D, z⟩) hd hgon.out) rfl (Pt.chan (j := 0) (s' := cV [hs]) rfl rfl rfl (by simp) rfl) (by simp) hm1 (by simp)).mono ?_
            rintro e w3 ⟨A, cap, he, -, h, -⟩
            obtain rfl : e = .returned (.tuple #[.agg #[.int .i64 0, .int .i64 2, .int .i64 D, .int .i64 (nw + pv), .int .i64 0, .slice A 0 cap, .bool false], .bool true]) := he
            have F3 := Lib.hid (Fbk.new w3 0 2 D (nw + pv) 0 A 0 cap false)
            have H3 : Hid (SS W W.heap.size [⟨2, 0, some c, 1⟩] 1 (m + 1) [⟨0, D', (m : Int) + 1⟩] (fput (fun _ => 0) 0 d) [(c, cV [hs])] (w3.alloc (.cells #[.int .i64 0, .int .i64 2, .int .i64 D, .int .i64 (nw + pv), .int .i64 0, .slice A 0 cap, .bool false] 35))) := by
              have h' := SS.box h (.cells #[.int .i64 0, .int .i64 2, .int .i64 D, .int .i64 (nw + pv), .int .i64 0, .slice A 0 cap, .bool false] 35)
              rw [show nx (⟨0, D, z⟩ : It).w (fput (fun _ => 0) 0 d (⟨0, D, z⟩ : It).id) (nw + pv) = D' from HQ.out.1] at h'
              exact h'
            clear h HS hgon HQ hm1
            go_upto_region 20 with (fail)
            generalize w3.alloc (.cells #[.int .i64 0, .int .i64 2, .int .i64 D, .int .i64 (nw + pv), .int .i64 0, .slice A 0 cap, .bool false] 35) = w4 at *
            generalize w3.heap.size = r at *
            obtain ⟨p0, p1, p2, p3, p4, p5, p6⟩ := F3.out.cells
            clear F3
            go_wp2_with fail
            refine (fire_no (now := nw + pv) H3.out (tk_idle (by show nw + pv < D'; exact e2)) (by have := HM.out; omega) (by simp)).mono ?_
            rintro e w5 ⟨he, h, -⟩
            obtain rfl : e = .returned (.tuple #[.agg #[.int .i64 0, .int .i64 0, .int .i64 0, .int .i64 0, .int .i64 0, .slice none 0 0, .bool false], .bool false]) := he
            have H5 : Hid (TkT W W.heap.size c d (k + 1) D' [hs] (w5.alloc (.cells #[.int .i64 0, .int .i64 0, .int .i64 0, .int .i64 0, .int .i64 0, .slice none 0 0, .bool false] 35))) := ⟨m + 1, _, by have := HM.out; omega, SS.box h _⟩
            clear h H3 p0 p1 p2 p3 p4 p5 p6
            go_upto_region 27 with (fail)
            generalize w5.alloc (.cells #[.int .i64 0, .int .i64 0, .int .i64 0, .int .i64 0, .int .i64 0, .slice none 0 0, .bool false] 35) = w6 at *
            go_wp2_with fail
            go_roundw
            case rel => exact ⟨k + 1, nw + pv, D', hs, [hs], by omega, rfl, rfl, rfl, by go_num, by omega, by omega, by omega, by omega, .inr ⟨by omega, rfl⟩, H5⟩
            case measure => simp [intOf]; omega
        · as_aux_lemma =>
          have hm1 : m ≤ 1000000 := by have := HM.out; omega
          go_wp2_with fail
          refine (fire_no (now := nw + pv) HS.out (tk_idle (by show nw + pv < D; omega)) hm1 (by simp)).mono ?_
          rintro e w3 ⟨he, h, -⟩
          obtain rfl : e = .returned (.tuple #[.agg #[.int .i64 0, .int .i64 0, .int .i64 0, .int .i64 0, .int .i64 0, .slice none 0 0, .bool false], .bool false]) := he
          have H4 : Hid (SS W W.heap.size [⟨2, 0, some c, 1⟩] 1 m [⟨0, D, z⟩] (fput (fun _ => 0) 0 d) [(c, cV lst)] (w3.alloc (.cells #[.int .i64 0, .int .i64 0, .int .i64 0, .int .i64 0, .int .i64 0, .slice none 0 0, .bool false] 35))) := SS.box h _
          clear h HS
          go_upto_region 20 with (fail)
          generalize w3.alloc (.cells #[.int .i64 0, .int .i64 0, .int .i64 0, .int .i64 0, .int .i64 0, .slice none 0 0, .bool false] 35) = w4 at *
          go_wp2_with fail
          refine (fire_no (now := nw + pv) H4.out (tk_idle (by show nw + pv < D; omega)) hm1 (by simp)).mono ?_
          rintro e w5 ⟨he, h, -⟩
          obtain rfl : e = .returned (.tuple #[.agg #[.int .i64 0, .int .i64 0, .int .i64 0, .int .i64 0, .int .i64 0, .slice none 0 0, .bool false], .bool false]) := he
          have H6 : Hid (TkT W W.heap.size c d (k + 1) D lst (w5.alloc (.cells #[.int .i64 0, .int .i64 0, .int .i64 0, .int .i64 0, .int .i64 0, .slice none 0 0, .bool false] 35))) := ⟨m, z, by have := HM.out; omega, SS.box h _⟩
          clear h H4
          go_upto_region 27 with (fail)
          generalize w5.alloc (.cells #[.int .i64 0, .int .i64 0, .int .i64 0, .int .i64 0, .int .i64 0, .slice none 0 0, .bool false] 35) = w6 at *
          go_wp2_with fail
          go_roundw
          case rel => exact ⟨k + 1, nw + pv, D, hs, lst, by omega, rfl, rfl, rfl, by go_num, by omega, by omega, by omega, by omega, HV, H6⟩
          case measure => simp [intOf]; omega
    · obtain rfl : k = n := by omega
      have k3 : ¬ (k : Int) < (k : Int) := by omega
      have HB := Lib.hid (show Below W.heap.size W wr by obtain ⟨_, _, _, h⟩ := HO.out; exact h.bel)
      clear HV HO
      go_wp2_with fail
      refine (awakes_any wr).mono ?_
      rintro e w2 ⟨rfl, hb⟩
      have HB2 := Lib.hid (HB.out.trans (hb.mono HB.out.size))
      clear hb
      go_wp2_with fail
      go_ret
      exact ⟨rfl, HB2.out⟩
set_option maxHeartbeats 4000000 in
theorem ticks_any (d : Int) (A0 : Option Addr) (n c0 : Nat) (l : List Int) (W : World) (hR : Rn W A0 n l) : Calls Try.prog 4 #[.int .i64 d, .slice A0 n c0] W (BoolR true W) := by
  by_cases q0 : d < 1
  ·
    go_enter Try.func4, Try.ntmps4
    go_wp2_with fail
    refine (awakes_any _).mono ?_
    rintro e w' ⟨rfl, hb⟩
    have HB := Lib.hid hb
    clear hb
    go_wp2_with fail
    go_ret
    exact ⟨rfl, HB.out⟩
  by_cases q1 : 100 < d
  ·
    go_enter Try.func4, Try.ntmps4
    go_wp2_with fail
    refine (awakes_any _).mono ?_
    rintro e w' ⟨rfl, hb⟩
    have HB := Lib.hid hb
    clear hb
    go_wp2_with fail
    go_ret
    exact ⟨rfl, HB.out⟩
  by_cases q2 : (50 : Int) < (n : Int)
  ·
    go_enter Try.func4, Try.ntmps4
    go_wp2_with fail
    refine (awakes_any _).mono ?_
    rintro e w' ⟨rfl, hb⟩
    have HB := Lib.hid hb
    clear hb
    go_wp2_with fail
    go_ret
    exact ⟨rfl, HB.out⟩
  exact ticks_in d A0 n c0 l W hR (by omega) (by omega) (by omega)
end Go.Proofs.Ytmadcnpkaijllaa
