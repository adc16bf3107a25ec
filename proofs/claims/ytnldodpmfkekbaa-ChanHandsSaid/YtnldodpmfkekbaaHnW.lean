/- The walk of ChanHands. No condition. -/
import Derived.Test.YtnldodpmfkekbaaSgW
namespace Go.Proofs.Ytnldodpmfkekbaa
open Go.RowKit
set_option linter.unusedVariables false

def fH (i : Nat) : Wt := ⟨i, 2, 0⟩
/-- Who waits still. -/
def rsH (n i : Nat) : List Wt := (List.range' i (n - i)).map fH
theorem rowW_rs (n : Nat) : rowW fH n = rsH n 0 := by simp [rowW, rsH, List.range_eq_range']
theorem rsH_end (n i : Nat) (h : n ≤ i) : rsH n i = [] := by simp [rsH, show n - i = 0 by omega]
theorem rsH_in (n i : Nat) (h : i < n) : rsH n i = fH i :: rsH n (i + 1) := by
  unfold rsH
  rw [show n - i = (n - (i + 1)) + 1 by omega, List.range'_succ]
  simp
theorem rsH_len (n i : Nat) : (rsH n i).length = n - i := by simp [rsH]
theorem gv_more (kd sz : Nat) (cl : Bool) (l : List Int) (ss : List Wt) (v : Int) (h : l.length < sz) : gv ⟨kd, cl, sz, l, ss, []⟩ v = (⟨kd, cl, sz, l ++ [v], ss, []⟩, [], true) := by
  unfold gv
  simp only [if_pos h]
theorem gv_full (kd sz : Nat) (cl : Bool) (l : List Int) (ss : List Wt) (v : Int) (h : l.length = sz) : gv ⟨kd, cl, sz, l, ss, []⟩ v = (⟨kd, cl, sz, l, ss, []⟩, [], false) := by
  unfold gv
  simp only [if_neg (show ¬ l.length < sz by omega)]
def HS (W : World) (c r n i : Nat) (w : World) : Prop := ∃ l : List Int, l.length = min (i - n) r ∧ MS W [(c, ⟨0, false, r, l, [], rsH n i⟩)] w
set_option maxRecDepth 100000 in
set_option maxHeartbeats 8000000 in
theorem hands_in (r n m : Nat) (W : World) (h1 : r ≤ 10) (h2 : n ≤ 10) (h3 : m ≤ 30) : Calls Try.prog 7 #[.int .i64 r, .int .i64 n, .int .i64 m] W (BoolR true W) := by
  have b1 : (r : Int) ≤ 10 := by omega
  have b2 : 0 ≤ (r : Int) := by omega
  have b3 : (n : Int) ≤ 10 := by omega
  have b4 : 0 ≤ (n : Int) := by omega
  have b5 : (m : Int) ≤ 30 := by omega
  have b6 : 0 ≤ (m : Int) := by omega
  go_enter Try.func7, Try.ntmps7
  go_wp2_with fail
  refine (ms_new (MS.nil W) r (by omega)).mono ?_
  rintro e w1 ⟨c, rfl, s1, _⟩
  have S1 : Hid (MS W [(c, ⟨0, false, r, [], [], rowW fH 0⟩)] w1) := s1
  clear s1
  go_wp2_with fail
  go_loopw [9] (fun i wr => ∃ k : Nat, k ≤ n ∧ i = .int .i64 k ∧ Hid (MS W [(c, ⟨0, false, r, [], [], rowW fH k⟩)] wr)) (fun i _ => n - (intOf i).toNat)
  case atStart => exact ⟨0, by omega, rfl, S1⟩
  case round =>
    clear S1
    obtain ⟨k, hk, rfl, hS⟩ := hrel
    by_cases hlt : k < n
    · have k1 : (k : Int) < (n : Int) := by omega
      have k2 : 0 ≤ (k : Int) := by omega
      go_wp2_with fail
      have hw := (ms_wait (i := 0) (fH k) false (wf_of (by simp only [fH]; omega) (by simp only [fH]; omega)) hS.out rfl (by intro b; cases b <;> simp [CS.q, rowW_len] <;> omega) rfl)
      refine hw.mono ?_
      rintro e w2 ⟨rfl, s2, _⟩
      have S2 : Hid (MS W [(c, ⟨0, false, r, [], [], rowW fH (k + 1)⟩)] w2) := by rw [← rowW_succ]; exact s2
      clear s2 hS hw
      go_wp2_with fail
      go_roundw
      case rel => exact ⟨k + 1, by omega, by go_num, S2⟩
      case measure => simp [intOf]; omega
    · obtain rfl : k = n := by omega
      have S0 : Hid (HS W c r k 0 wr) := ⟨[], by simp, by have h9 := hS.out; rw [rowW_rs] at h9; exact h9⟩
      clear hS
      go_wp2_with fail
      go_loopw [10] (fun i wr => ∃ j : Nat, j ≤ m ∧ i = .int .i64 j ∧ Hid (HS W c r k j wr)) (fun i _ => m - (intOf i).toNat)
      case atStart => exact ⟨0, by omega, rfl, S0⟩
      case round =>
        clear S0
        obtain ⟨i, hi, rfl, hS⟩ := hrel
        by_cases hlt2 : i < m
        · have i1 : (i : Int) < (m : Int) := by omega
          have i2 : 0 ≤ (i : Int) := by omega
          by_cases d1 : i < k
          · have d2 : (i : Int) < (k : Int) := by omega
            obtain ⟨l, hl, hs⟩ := hS.out
            obtain rfl : l = [] := List.eq_nil_of_length_eq_zero (by omega)
            rw [rsH_in _ _ d1] at hs
            have S := Lib.hid hs
            clear hS hs hl
            have hrl := rsH_len k (i + 1)
            go_wp2_with fail
            refine (ms_send (i := 0) (s' := ⟨0, false, r, [], [], rsH k (i + 1)⟩) (ws := [⟨i, 2, 40 + i, true, false⟩]) (40 + (i : Int)) S.out rfl rfl rfl (by simp only [List.length_cons]; omega) rfl rfl).mono ?_
            rintro e w6 ⟨A, cap, rfl, r6, s6, _⟩
            have S6 : Hid (HS W c r k (i + 1) w6) := ⟨[], by simp; omega, s6⟩
            obtain ⟨b, cs, rfl, hb, q0, q1, q2, q3, q4⟩ := RdK.cells1 r6
            simp only at q0 q1 q2 q3 q4
            clear s6 S r6 hb
            go_wp2_with fail
            go_roundw
            case rel => exact ⟨i + 1, by omega, by go_num, S6⟩
            case measure => simp [intOf]; omega
          · have d2 : ¬ (i : Int) < (k : Int) := by omega
            obtain ⟨l, hl, hs⟩ := hS.out
            rw [rsH_end _ _ (by omega)] at hs
            have S := Lib.hid hs
            by_cases d3 : i < k + r
            · have d4 : (i : Int) < (k : Int) + (r : Int) := by omega
              have hl2 : l.length < r := by rw [hl]; omega
              have hl3 : l.length + 1 = min (i + 1 - k) r := by rw [hl]; omega
              clear hS hs hl
              go_wp2_with fail
              refine (ms_send (i := 0) (40 + (i : Int)) S.out rfl rfl rfl (by simp) (gv_more _ _ _ _ _ _ hl2) rfl).mono ?_
              rintro e w6 ⟨A, cap, rfl, _, s6, _⟩
              have S6 : Hid (HS W c r k (i + 1) w6) := ⟨l ++ [40 + (i : Int)], by simp; exact hl3, by rw [rsH_end _ _ (by omega)]; exact s6⟩
              clear s6 S hl3 hl2
              go_wp2_with fail
              go_roundw
              case rel => exact ⟨i + 1, by omega, by go_num, S6⟩
              case measure => simp [intOf]; omega
            · have d4 : ¬ (i : Int) < (k : Int) + (r : Int) := by omega
              have hl2 : l.length = r := by rw [hl]; omega
              have hl3 : l.length = min (i + 1 - k) r := by rw [hl]; omega
              clear hS hs hl
              go_wp2_with fail
              refine (ms_send (i := 0) (40 + (i : Int)) S.out rfl rfl rfl (by simp) (gv_full _ _ _ _ _ _ hl2) rfl).mono ?_
              rintro e w6 ⟨A, cap, rfl, _, s6, _⟩
              have S6 : Hid (HS W c r k (i + 1) w6) := ⟨l, hl3, by rw [rsH_end _ _ (by omega)]; exact s6⟩
              clear s6 S hl3 hl2
              go_wp2_with fail
              go_roundw
              case rel => exact ⟨i + 1, by omega, by go_num, S6⟩
              case measure => simp [intOf]; omega
        · obtain rfl : i = m := by omega
          obtain ⟨l, hl, hs⟩ := hS.out
          have S := Lib.hid hs
          have HL := Lib.hid hl
          clear hS hs hl
          by_cases d1 : i < k
          · skip
            have x1 : ¬ ((k : Int) - (i : Int) < 0) := by omega
            have x4 : 0 ≤ (k : Int) - (i : Int) := by omega
            have x2 : (i : Int) - (k : Int) < 0 := by omega
            have HE : Hid ((l.length : Int) = 0) := by have := HL.out; show _ = _; omega
            have HQ : Hid (((rsH k i).length : Int) = (k : Int) - (i : Int)) := by show _ = _; rw [rsH_len]; omega
            clear HL
            go_wp2_with fail
            refine (ms_len (i := 0) S.out rfl).mono ?_
            rintro e w' ⟨rfl, rfl⟩
            simp only [show ¬ ((0 : Nat) = 1) by omega, if_false, HE.out]
            go_wp2_with fail
            refine (ms_waiting (i := 0) false S.out rfl (by simp only [CS.q, rsH_len]; omega)).mono ?_
            rintro e w4 ⟨A4, n4, rfl, _, hb4⟩
            have S4 := Lib.hid (S.out.later hb4)
            clear hb4 S
            simp only [CS.q]
            have hq := HQ.out
            clear HQ
            generalize (rsH k i).length = q at *
            go_wp2_with fail
            refine (awake_any _).mono ?_
            rintro e w' ⟨rfl, hb⟩
            have HB := Lib.hid (S4.out.bel.trans (hb.mono S4.out.bel.size))
            clear hb S4
            go_wp2_with fail
            go_ret
            exact ⟨rfl, HB.out⟩
          by_cases d0 : i = k
          · skip
            subst d0
            have HE : Hid ((l.length : Int) = 0) := by have := HL.out; show _ = _; omega
            have HQ : Hid (((rsH i i).length : Int) = 0) := by show _ = _; rw [rsH_len]; omega
            clear HL
            go_wp2_with fail
            refine (ms_len (i := 0) S.out rfl).mono ?_
            rintro e w' ⟨rfl, rfl⟩
            simp only [show ¬ ((0 : Nat) = 1) by omega, if_false, HE.out]
            go_wp2_with fail
            refine (ms_waiting (i := 0) false S.out rfl (by simp only [CS.q, rsH_len]; omega)).mono ?_
            rintro e w4 ⟨A4, n4, rfl, _, hb4⟩
            have S4 := Lib.hid (S.out.later hb4)
            clear hb4 S
            simp only [CS.q]
            have hq := HQ.out
            clear HQ
            generalize (rsH i i).length = q at *
            go_wp2_with fail
            refine (awake_any _).mono ?_
            rintro e w' ⟨rfl, hb⟩
            have HB := Lib.hid (S4.out.bel.trans (hb.mono S4.out.bel.size))
            clear hb S4
            go_wp2_with fail
            go_ret
            exact ⟨rfl, HB.out⟩
          by_cases d2 : i ≤ k + r
          · skip
            have x1 : (k : Int) - (i : Int) < 0 := by omega
            have x2 : ¬ ((i : Int) - (k : Int) < 0) := by omega
            have x3 : ¬ ((r : Int) < (i : Int) - (k : Int)) := by omega
            have HE : Hid ((l.length : Int) = (i : Int) - (k : Int)) := by have := HL.out; show _ = _; omega
            have HQ : Hid (((rsH k i).length : Int) = 0) := by show _ = _; rw [rsH_len]; omega
            clear HL
            go_wp2_with fail
            refine (ms_len (i := 0) S.out rfl).mono ?_
            rintro e w' ⟨rfl, rfl⟩
            simp only [show ¬ ((0 : Nat) = 1) by omega, if_false, HE.out]
            go_wp2_with fail
            refine (ms_waiting (i := 0) false S.out rfl (by simp only [CS.q, rsH_len]; omega)).mono ?_
            rintro e w4 ⟨A4, n4, rfl, _, hb4⟩
            have S4 := Lib.hid (S.out.later hb4)
            clear hb4 S
            simp only [CS.q]
            have hq := HQ.out
            clear HQ
            generalize (rsH k i).length = q at *
            go_wp2_with fail
            refine (awake_any _).mono ?_
            rintro e w' ⟨rfl, hb⟩
            have HB := Lib.hid (S4.out.bel.trans (hb.mono S4.out.bel.size))
            clear hb S4
            go_wp2_with fail
            go_ret
            exact ⟨rfl, HB.out⟩
          · skip
            have x1 : (k : Int) - (i : Int) < 0 := by omega
            have x2 : ¬ ((i : Int) - (k : Int) < 0) := by omega
            have x3 : (r : Int) < (i : Int) - (k : Int) := by omega
            have HE : Hid ((l.length : Int) = (r : Int)) := by have := HL.out; show _ = _; omega
            have HQ : Hid (((rsH k i).length : Int) = 0) := by show _ = _; rw [rsH_len]; omega
            clear HL
            go_wp2_with fail
            refine (ms_len (i := 0) S.out rfl).mono ?_
            rintro e w' ⟨rfl, rfl⟩
            simp only [show ¬ ((0 : Nat) = 1) by omega, if_false, HE.out]
            go_wp2_with fail
            refine (ms_waiting (i := 0) false S.out rfl (by simp only [CS.q, rsH_len]; omega)).mono ?_
            rintro e w4 ⟨A4, n4, rfl, _, hb4⟩
            have S4 := Lib.hid (S.out.later hb4)
            clear hb4 S
            simp only [CS.q]
            have hq := HQ.out
            clear HQ
            generalize (rsH k i).length = q at *
            go_wp2_with fail
            refine (awake_any _).mono ?_
            rintro e w' ⟨rfl, hb⟩
            have HB := Lib.hid (S4.out.bel.trans (hb.mono S4.out.bel.size))
            clear hb S4
            go_wp2_with fail
            go_ret
            exact ⟨rfl, HB.out⟩
set_option maxRecDepth 100000 in
theorem hands_out (r n m : Int) (W : World) (h : r < 0 ∨ 10 < r ∨ n < 0 ∨ 10 < n ∨ m < 0 ∨ 30 < m) : Calls Try.prog 7 #[.int .i64 r, .int .i64 n, .int .i64 m] W (BoolR true W) := by
  by_cases d0 : r < 0
  · skip
    clear h
    go_enter Try.func7, Try.ntmps7
    go_wp2_with fail
    refine (awake_any W).mono ?_
    rintro e w' ⟨rfl, hb⟩
    have HB := Lib.hid hb
    clear hb
    go_wp2_with fail
    go_ret
    exact ⟨rfl, HB.out⟩
  by_cases d1 : 10 < r
  · skip
    clear h
    go_enter Try.func7, Try.ntmps7
    go_wp2_with fail
    refine (awake_any W).mono ?_
    rintro e w' ⟨rfl, hb⟩
    have HB := Lib.hid hb
    clear hb
    go_wp2_with fail
    go_ret
    exact ⟨rfl, HB.out⟩
  by_cases d2 : n < 0
  · skip
    clear h
    go_enter Try.func7, Try.ntmps7
    go_wp2_with fail
    refine (awake_any W).mono ?_
    rintro e w' ⟨rfl, hb⟩
    have HB := Lib.hid hb
    clear hb
    go_wp2_with fail
    go_ret
    exact ⟨rfl, HB.out⟩
  by_cases d3 : 10 < n
  · skip
    clear h
    go_enter Try.func7, Try.ntmps7
    go_wp2_with fail
    refine (awake_any W).mono ?_
    rintro e w' ⟨rfl, hb⟩
    have HB := Lib.hid hb
    clear hb
    go_wp2_with fail
    go_ret
    exact ⟨rfl, HB.out⟩
  by_cases d4 : m < 0
  · skip
    clear h
    go_enter Try.func7, Try.ntmps7
    go_wp2_with fail
    refine (awake_any W).mono ?_
    rintro e w' ⟨rfl, hb⟩
    have HB := Lib.hid hb
    clear hb
    go_wp2_with fail
    go_ret
    exact ⟨rfl, HB.out⟩
  · have d5 : 30 < m := by omega
    clear h
    go_enter Try.func7, Try.ntmps7
    go_wp2_with fail
    refine (awake_any W).mono ?_
    rintro e w' ⟨rfl, hb⟩
    have HB := Lib.hid hb
    clear hb
    go_wp2_with fail
    go_ret
    exact ⟨rfl, HB.out⟩
theorem hands_walk (r n m : Int) (W : World) : Calls Try.prog 7 #[.int .i64 r, .int .i64 n, .int .i64 m] W (BoolR true W) := by
  by_cases h : r < 0 ∨ 10 < r ∨ n < 0 ∨ 10 < n ∨ m < 0 ∨ 30 < m
  · exact hands_out r n m W h
  · obtain ⟨r, rfl⟩ := Int.eq_ofNat_of_zero_le (show 0 ≤ r by omega)
    obtain ⟨n, rfl⟩ := Int.eq_ofNat_of_zero_le (show 0 ≤ n by omega)
    obtain ⟨m, rfl⟩ := Int.eq_ofNat_of_zero_le (show 0 ≤ m by omega)
    exact hands_in r n m W (by omega) (by omega) (by omega)
end Go.Proofs.Ytnldodpmfkekbaa
