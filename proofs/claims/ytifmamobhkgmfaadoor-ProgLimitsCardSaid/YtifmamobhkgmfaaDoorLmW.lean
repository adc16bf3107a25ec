/- The law ProgLimits, walked. Condition: the table lies in its variable. -/
import Derived.Test.YtifmamobhkgmfaaDoorLmA
namespace Go.Proofs.YtifmamobhkgmfaaDoor
open Go.RowKit
set_option linter.unusedVariables false

theorem lim_odd_tail (w : World) (hF : Hid (FT w)) : Calls Tryd.prog 9 #[] w (BoolR true w) := awake_any w hF
set_option maxHeartbeats 1000000 in
theorem lim_out1 (n k : Int) (w : World) (hF : Hid (FT w)) (h : n < 0) : Calls Tryd.prog 5 #[.int .i64 n, .int .i64 k] w (BoolR true w) := by
  go_enter Tryd.func5, Tryd.ntmps5
  go_wp2_with fail
  refine (awake_any w hF).mono ?_
  rintro e w1 ⟨rfl, hb⟩
  have HB := Lib.hid hb
  clear hb
  go_wp2_with fail
  go_ret
  exact ⟨rfl, HB.out⟩
set_option maxHeartbeats 1000000 in
theorem lim_out2 (n k : Int) (w : World) (hF : Hid (FT w)) (h0 : 0 ≤ n) (h : 120 < n) : Calls Tryd.prog 5 #[.int .i64 n, .int .i64 k] w (BoolR true w) := by
  go_enter Tryd.func5, Tryd.ntmps5
  go_wp2_with fail
  refine (awake_any w hF).mono ?_
  rintro e w1 ⟨rfl, hb⟩
  have HB := Lib.hid hb
  clear hb
  go_wp2_with fail
  go_ret
  exact ⟨rfl, HB.out⟩
set_option maxHeartbeats 1000000 in
theorem lim_out3 (n k : Int) (w : World) (hF : Hid (FT w)) (h0 : 0 ≤ n) (h1 : n ≤ 120) (h : k < 0) : Calls Tryd.prog 5 #[.int .i64 n, .int .i64 k] w (BoolR true w) := by
  go_enter Tryd.func5, Tryd.ntmps5
  go_wp2_with fail
  refine (awake_any w hF).mono ?_
  rintro e w1 ⟨rfl, hb⟩
  have HB := Lib.hid hb
  clear hb
  go_wp2_with fail
  go_ret
  exact ⟨rfl, HB.out⟩
set_option maxHeartbeats 1000000 in
theorem lim_out4 (n k : Int) (w : World) (hF : Hid (FT w)) (h0 : 0 ≤ n) (h1 : n ≤ 120) (h2 : 0 ≤ k) (h : 30 < k) : Calls Tryd.prog 5 #[.int .i64 n, .int .i64 k] w (BoolR true w) := by
  go_enter Tryd.func5, Tryd.ntmps5
  go_wp2_with fail
  refine (awake_any w hF).mono ?_
  rintro e w1 ⟨rfl, hb⟩
  have HB := Lib.hid hb
  clear hb
  go_wp2_with fail
  go_ret
  exact ⟨rfl, HB.out⟩

set_option maxRecDepth 100000 in
set_option maxHeartbeats 2000000 in
theorem lim_in (n k : Nat) (W : World) (hF : Hid (FT W)) (hn : n ≤ 120) (hk : k ≤ 30) : Calls Tryd.prog 5 #[.int .i64 n, .int .i64 k] W (BoolR true W) := by
  obtain ⟨i36, hi6, hz60, hz61, hz62⟩ := info_parts Tryd.inf36
  obtain ⟨i29, hi9, hz90, hz91, hz92⟩ := info_parts Tryd.inf29
  obtain ⟨i41, hi4, hz40, hz41, hz42⟩ := info_parts Tryd.inf41
  go_enter Tryd.func5, Tryd.ntmps5
  go_wp2_with fail
  go_loopw [5, 6] (fun v i wr => ∃ j : Nat, j ≤ n ∧ i = .int .i64 j ∧ Hid (LmS W wr j v)) (fun _ i _ => n - (intOf i).toNat)
  case atStart => exact ⟨0, by omega, rfl, Below.refl _ _, World.ownsRow_nil _ _ _ _⟩
  case round =>
    obtain ⟨j, hj, rfl, hS⟩ := hrel
    by_cases hlt : j < n
    · have hown := hS.out.2.alloc (.cells #[.int .i64 7, .int .i64 0, .int .i64 0, .int .i64 0, .slice none 0 0, .bool false] 36)
      have hWs : W.heap.size ≤ (wr.alloc (.cells #[.int .i64 7, .int .i64 0, .int .i64 0, .int .i64 0, .slice none 0 0, .bool false] 36)).heap.size := Nat.le_trans hS.out.1.size (by simp)
      go_wp2_with (at_builtin; go_loud (refine wpList_append_own _ rfl _ _ 29 rfl W.heap.size 36 i36 (.agg #[.int .i64 0, .int .i64 0, .int .i64 0, .int .i64 0, .slice none 0 0, .bool false]) 6 64 Tryd.underlying29 hi6 hz60 hz61 hz62 rfl (by decide) _ _ _ rfl hown ⟨wr.heap.size, 0, none⟩ 1 1 (iV (pl 7 0 0)) rfl rfl (news_at wr _ 36 _ rfl) (iV_one _) (by unfold maxLen; omega) (by omega) hWs ?_; intro v' w3 hown' hgrow _; have HE := Lib.hid (hS.out.next hgrow hown'); clear hown' hgrow hown))
      go_roundw
      case rel => exact ⟨j + 1, by omega, by go_num, HE.out⟩
      case measure => simp [intOf]; omega
    · obtain rfl : j = n := by omega
      have HL := Lib.hid (LcS.mk0 wr)
      have hbw := Lib.hid hS.out.1
      obtain ⟨A, c, rfl, hc1, hc2, hrd⟩ := own_rd hS.out.2
      have HR : Hid (RdI wr A j (exN j)) := ⟨by simp [exN], hrd, fun e he => by rw [List.eq_of_mem_replicate he]; exact At_pl _ _ _ _⟩
      clear hrd hS
      generalize hN : wr.heap.size = N at *
      go_wp2_with fail
      go_loopw [7, 9] (fun pv i wv => ∃ (m : Nat) (cv : Value), m ≤ k ∧ i = .int .i64 m ∧ Hid (LcS wr wv N m m pv cv)) (fun _ i _ => k - (intOf i).toNat)
      case atStart => exact ⟨0, _, by omega, rfl, HL.out⟩
      case round =>
        obtain ⟨m, cv, hm, rfl, hS⟩ := hrel
        clear HL
        by_cases hmk : m < k
        · have hrp := hS.out.rp.alloc (.cells #[.slice none 0 0] 29)
          have hNw : N < wr.heap.size := hS.out.own.lt
          go_wp2_with (first | (at_builtin; refine wpList_append_own _ rfl (.tmp 40) (.tmp 41) 22 rfl (N + 1) 29 i29 (.slice none 0 0) 1 24 Tryd.underlying22 hi9 hz90 hz91 hz92 rfl (by decide) _ _ _ rfl hrp ⟨wr.heap.size, 0, none⟩ 1 1 [.slice none 0 0] rfl rfl (news_at wr _ 29 _ rfl) (by intro y hy; simp at hy; subst hy; rfl) (by unfold maxLen; omega) (by omega) (by simp; omega) ?_; intro v' w3 hown' hgrow _; have HE := Lib.hid (hS.out.p hgrow hown'); have c4 := HE.out.c4; have hN3 : N < w3.heap.size := HE.out.own.lt; have hrc := HE.out.rc.alloc (.cells #[.bool false, .int .i64 0, .int .i64 0] 41); clear hown' hgrow hrp) | (at_builtin; go_loud (refine wpList_append_own _ rfl (.tmp 44) (.tmp 46) 34 rfl (N + 1) 41 i41 (.agg #[.bool false, .int .i64 0, .int .i64 0]) 3 24 Tryd.underlying34 hi4 hz40 hz41 hz42 rfl (by decide) _ _ _ rfl hrc ⟨w3.heap.size, 0, none⟩ 1 1 (cV ⟨false, 0, 0⟩) rfl rfl (news_at w3 _ 41 _ rfl) (cV_one _) (by unfold maxLen; omega) (by omega) (by simp; omega) ?_; intro cv' w4 hown' hgrow _; obtain ⟨gA, gc, rfl, hg1, hg2⟩ := own_cap hown'; obtain ⟨hf4, d4, hN4, hX⟩ := HE.out.c hgrow hown'; have HX := Lib.hid hX; clear hX hown' hgrow hrc c4)))
          go_roundw
          case rel => exact ⟨m + 1, _, by omega, by go_num, HX.out⟩
          case measure => simp [intOf]; omega
        · obtain rfl : m = k := by omega
          have hNwr : N < wr.heap.size := hS.out.own.lt
          have HRl := Lib.hid (HR.out.later (by rw [hN]; exact hS.out.bel))
          have HBW := Lib.hid (hbw.out.trans (hS.out.bel.mono (by rw [← hN]; exact hbw.out.size)))
          obtain ⟨A2, c2, rfl, hp1, hp2, hrdp⟩ := own_rd hS.out.rp
          have HRp : Hid (RdP wr A2 m (prN m)) := ⟨by simp [prN], hrdp, fun e he => by rw [List.eq_of_mem_replicate he]; exact ⟨Nat.le_refl _, by show 0 ≤ _; omega, RdI.nil _ _⟩⟩
          obtain ⟨A3, c3, rfl, hq1, hq2, hrdc⟩ := own_rd hS.out.rc
          have HRc : Hid (RdC wr A3 m (caN m)) := ⟨by simp [caN], hrdc⟩
          have HSs : Hid (In.At wr ⟨15, 0, 0, 0, A3, m, c3, false, caN m⟩) := ⟨hq1, hq2, HRc.out⟩
          have HF1 := Lib.hid (hF.out.later HBW.out)
          have HK1 := Lib.hid (Check_any A j c (exN j) wr HF1.out HRl.out)
          have g1 : (eN (checkB (exN j) 16) == 0) = decide ((j : Int) ≤ 100) := by
            rw [chk_ex]; by_cases h : j ≤ 100
            · rw [decide_eq_true h, decide_eq_true (by omega)]; rfl
            · rw [decide_eq_false h, decide_eq_false (by omega)]; rfl
          generalize eN (checkB (exN j) 16) = z1 at *
          have S0 := Lib.hid hS.out.c0
          have S1 := Lib.hid hS.out.c1
          have S2 := Lib.hid hS.out.c2
          have S3 := Lib.hid hS.out.c3
          have S4 := Lib.hid hS.out.c4
          have S5 := Lib.hid hS.out.c5
          clear hrdp hrdc hS HR hbw HRl HRc
          go_wp2_with fail
          refine HK1.out.mono ?_
          rintro e wa ⟨rfl, hb⟩
          have HBa := Lib.hid hb
          clear hb HK1
          have HK2 := Lib.hid (All_any A2 m c2 (prN m) wa (HF1.out.later HBa.out) (HRp.out.later HBa.out))
          have g2 : (eN (allB (prN m)) == 0) = (decide (1 ≤ (m : Int)) && decide ((m : Int) ≤ 16)) := by
            rw [all_pr]; by_cases h : 1 ≤ m
            · by_cases h2 : m ≤ 16
              · rw [decide_eq_true ⟨h, h2⟩, decide_eq_true (by omega), decide_eq_true (by omega)]; rfl
              · rw [decide_eq_false (by omega), decide_eq_true (by omega), decide_eq_false (by omega)]; rfl
            · rw [decide_eq_false (by omega), decide_eq_false (by omega)]; rfl
          generalize eN (allB (prN m)) = z2 at *
          go_wp2_with fail
          refine HK2.out.mono ?_
          rintro e wb ⟨rfl, hb⟩
          have HBb := Lib.hid (HBa.out.trans (hb.mono HBa.out.size))
          clear hb HK2
          have hNb : N < wb.heap.size := Nat.lt_of_lt_of_le hNwr HBb.out.size
          have s0 : wb.cell? ⟨N, 0, none⟩ = some (.int .i64 15) := (cell_blk (HBb.out.block _ hNwr) 0).trans S0.out
          have s1 : wb.cell? ⟨N, 1, none⟩ = some (.int .i64 0) := (cell_blk (HBb.out.block _ hNwr) 1).trans S1.out
          have s2 : wb.cell? ⟨N, 2, none⟩ = some (.int .i64 0) := (cell_blk (HBb.out.block _ hNwr) 2).trans S2.out
          have s3 : wb.cell? ⟨N, 3, none⟩ = some (.int .i64 0) := (cell_blk (HBb.out.block _ hNwr) 3).trans S3.out
          have s4 : wb.cell? ⟨N, 4, none⟩ = some (.slice A3 m c3) := (cell_blk (HBb.out.block _ hNwr) 4).trans S4.out
          have s5 : wb.cell? ⟨N, 5, none⟩ = some (.bool false) := (cell_blk (HBb.out.block _ hNwr) 5).trans S5.out
          have HK3 := Lib.hid (Check_one (e := ⟨15, 0, 0, 0, A3, m, c3, false, caN m⟩) (HF1.out.later HBb.out) (HSs.out.later HBb.out))
          have g3 : (eN (checkB [⟨15, 0, 0, 0, A3, m, c3, false, caN m⟩] 16) == 0) = decide ((m : Int) ≤ 16) := by
            rw [chk_sel]; by_cases h : m ≤ 16
            · rw [decide_eq_true h, decide_eq_true (by omega)]; rfl
            · rw [decide_eq_false h, decide_eq_false (by omega)]; rfl
          generalize eN (checkB [⟨15, 0, 0, 0, A3, m, c3, false, caN m⟩] 16) = z3 at *
          go_wp2_with fail
          all_goals
            refine HK3.out.mono ?_
            rintro e wc ⟨rfl, hb⟩
            have HBc := Lib.hid (HBb.out.trans (hb.mono HBb.out.size))
            clear hb HK3 s0 s1 s2 s3 s4 s5 hNb
            go_wp2_with fail
            refine (awake_any wc (HF1.out.later HBc.out)).mono ?_
            rintro e wd ⟨rfl, hb⟩
            have HBd := Lib.hid (HBW.out.trans ((HBc.out.trans (hb.mono HBc.out.size)).mono HBW.out.size))
            clear hb
            go_wp2_with fail
            go_ret
            exact ⟨rfl, HBd.out⟩
theorem lim_any (n k : Int) (w : World) (hF : FT w) : Calls Tryd.prog 5 #[.int .i64 n, .int .i64 k] w (BoolR true w) := by
  by_cases h0 : n < 0
  · exact lim_out1 n k w hF h0
  · by_cases h1 : 120 < n
    · exact lim_out2 n k w hF (by omega) h1
    · by_cases h2 : k < 0
      · exact lim_out3 n k w hF (by omega) (by omega) h2
      · by_cases h3 : 30 < k
        · exact lim_out4 n k w hF (by omega) (by omega) (by omega) h3
        · obtain ⟨a, rfl⟩ := Int.eq_ofNat_of_zero_le (show 0 ≤ n by omega)
          obtain ⟨b, rfl⟩ := Int.eq_ofNat_of_zero_le (show 0 ≤ k by omega)
          exact lim_in a b w hF (by omega) (by omega)
end Go.Proofs.YtifmamobhkgmfaaDoor
