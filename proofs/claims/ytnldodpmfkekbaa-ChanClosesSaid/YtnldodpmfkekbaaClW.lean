/- The walk of ChanCloses. No condition. -/
import Derived.Test.YtnldodpmfkekbaaSgW
namespace Go.Proofs.Ytnldodpmfkekbaa
open Go.RowKit
set_option linter.unusedVariables false

def fC (i : Nat) : Wt := ⟨i, (i : Int) % 3, 90 + i⟩
theorem fC_inj : ∀ i j, (fC i).t = (fC j).t → i = j := fun i j h => by simp only [fC] at h; omega
def gC (p : Bool) (i : Nat) : Wk := ⟨i, (i : Int) % 3, 0, false, p⟩
/-- The values from place i on. -/
def drI (n i : Nat) : List Int := (List.range' i (n - i)).map fun j : Nat => 50 + (j : Int)
def rowI (n : Nat) : List Int := (List.range n).map fun j : Nat => 50 + (j : Int)
theorem rowI_len (n : Nat) : (rowI n).length = n := by simp [rowI]
theorem rowI_succ (n : Nat) : rowI n ++ [50 + (n : Int)] = rowI (n + 1) := by simp [rowI, List.range_succ]
theorem rowI_dr (n : Nat) : rowI n = drI n 0 := by simp [rowI, drI, List.range_eq_range']
theorem drI_end (n i : Nat) (h : n ≤ i) : drI n i = [] := by simp [drI, show n - i = 0 by omega]
theorem drI_in (n i : Nat) (h : i < n) : drI n i = (50 + (i : Int)) :: drI n (i + 1) := by
  unfold drI
  rw [show n - i = (n - (i + 1)) + 1 by omega, List.range'_succ]
  simp
theorem gv_room (kd sz : Nat) (cl : Bool) (l : List Int) (ss : List Wt) (v : Int) (h : l.length < sz) : gv ⟨kd, cl, sz, l, ss, []⟩ v = (⟨kd, cl, sz, l ++ [v], ss, []⟩, [], true) := by
  unfold gv
  simp only [if_pos h]
theorem wt_full (sz : Nat) (l : List Int) (ss : List Wt) (x : Wt) (h : l.length = sz) : wt ⟨0, false, sz, l, ss, []⟩ x true = (⟨0, false, sz, l, ss ++ [x], []⟩, 0) := by
  simp [wt, fr, meet, CS.q, CS.sq, h]
set_option maxRecDepth 100000 in
set_option maxHeartbeats 8000000 in
theorem closes_send (sz v wn : Nat) (W : World) (h1 : sz ≤ 20) (h2 : v ≤ sz) (h3 : wn ≤ 20) : Calls Try.prog 5 #[.int .i64 sz, .int .i64 v, .int .i64 wn, .bool true] W (BoolR true W) := by
  have b1 : (sz : Int) ≤ 20 := by omega
  have b2 : 0 ≤ (sz : Int) := by omega
  have b3 : (v : Int) ≤ (sz : Int) := by omega
  have b4 : 0 ≤ (v : Int) := by omega
  have b5 : (wn : Int) ≤ 20 := by omega
  have b6 : 0 ≤ (wn : Int) := by omega
  go_enter Try.func5, Try.ntmps5
  go_wp2_with fail
  refine (ms_new (MS.nil W) sz (by omega)).mono ?_
  rintro e w1 ⟨c, rfl, s1, _⟩
  have S1 : Hid (MS W [(c, ⟨0, false, sz, rowI 0, [], []⟩)] w1) := s1
  clear s1
  go_wp2_with fail
  go_loopw [11] (fun i wr => ∃ k : Nat, k ≤ sz ∧ i = .int .i64 k ∧ Hid (MS W [(c, ⟨0, false, sz, rowI k, [], []⟩)] wr)) (fun i _ => sz - (intOf i).toNat)
  case atStart => exact ⟨0, by omega, rfl, S1⟩
  case round =>
      clear S1
      obtain ⟨k, hk, rfl, hS⟩ := hrel
      by_cases hlt : k < sz
      · have k1 : (k : Int) < (sz : Int) := by omega
        have k2 : 0 ≤ (k : Int) := by omega
        go_wp2_with fail
        refine (ms_send (i := 0) (s' := ⟨0, false, sz, rowI (k + 1), [], []⟩) (50 + (k : Int)) hS.out rfl rfl rfl (by simp) (by rw [← rowI_succ]; exact gv_room _ _ _ _ _ _ (by rw [rowI_len]; omega)) rfl).mono ?_
        rintro e w2 ⟨A, cap, rfl, _, s2, _⟩
        have S2 : Hid (MS W [(c, ⟨0, false, sz, rowI (k + 1), [], []⟩)] w2) := s2
        clear s2 hS
        go_wp2_with fail
        go_roundw
        case rel => exact ⟨k + 1, by omega, by go_num, S2⟩
        case measure => simp [intOf]; omega
      · obtain rfl : sz = k := by omega
        have S1 : Hid (MS W [(c, ⟨0, false, sz, rowI sz, rowW fC 0, []⟩)] wr) := hS.out
        clear hS
        go_wp2_with fail
        go_loopw [15] (fun i wr => ∃ k : Nat, k ≤ wn ∧ i = .int .i64 k ∧ Hid (MS W [(c, ⟨0, false, sz, rowI sz, rowW fC k, []⟩)] wr)) (fun i _ => wn - (intOf i).toNat)
        case atStart => exact ⟨0, by omega, rfl, S1⟩
        case round =>
          clear S1
          obtain ⟨k, hk, rfl, hS⟩ := hrel
          by_cases hlt : k < wn
          · have k1 : (k : Int) < (wn : Int) := by omega
            have k2 : 0 ≤ (k : Int) := by omega
            go_wp2_with fail
            have hw := (ms_wait (i := 0) (fC k) true (wf_of (by simp only [fC]; omega) (by simp only [fC]; omega)) hS.out rfl (by intro b; cases b <;> simp [CS.q, rowW_len] <;> omega) (wt_full sz (rowI sz) _ _ (rowI_len sz)))
            refine hw.mono ?_
            rintro e w2 ⟨rfl, s2, _⟩
            have S2 : Hid (MS W [(c, ⟨0, false, sz, rowI sz, rowW fC (k + 1), []⟩)] w2) := by rw [← rowW_succ]; exact s2
            clear s2 hS hw
            go_wp2_with fail
            go_roundw
            case rel => exact ⟨k + 1, by omega, by go_num, S2⟩
            case measure => simp [intOf]; omega
          · obtain rfl : k = wn := by omega
            go_wp2_with fail
            refine (ms_close (i := 0) (n := k) (ws := rowK (gC true) k) hS.out rfl rfl rfl (by simp only [rowW_len]; omega) (by simp) (tot_send fC_inj k 0 sz false (rowI sz)) (rowK_len _ _)).mono ?_
            rintro e w3 ⟨A, cap, rfl, r3, s3, _⟩
            have S3 : Hid (MS W [(c, ⟨0, true, sz, rowI sz, [], []⟩)] w3) := s3
            have R3 := Lib.hid r3
            clear s3 hS r3
            go_wp2_with fail
            refine (ms_close_closed (i := 0) S3.out rfl rfl rfl).mono ?_
            rintro e w' ⟨rfl, rfl⟩
            go_wp2_with fail
            refine (ms_waiting (i := 0) true S3.out rfl (by simp [CS.q])).mono ?_
            rintro e w4 ⟨A4, n4, rfl, _, hb4⟩
            have S4 : Hid (MS W [(c, ⟨0, true, sz, drI sz 0, [], []⟩)] w4) := by rw [← rowI_dr]; exact S3.out.later hb4
            have R4 := Lib.hid (R3.out.later hb4)
            clear hb4 S3 R3
            simp only [CS.q, List.length_nil]
            go_wp2_with fail
            go_loopw [20] (fun i wr => ∃ j : Nat, j ≤ k ∧ i = .int .i64 j ∧ wr = w4) (fun i _ => k - (intOf i).toNat)
            case atStart => exact ⟨0, by omega, rfl, rfl⟩
            case round =>
              obtain ⟨j, hj, rfl, rfl⟩ := hrel
              by_cases hlt2 : j < k
              · have j1 : (j : Int) < (k : Int) := by omega
                have j2 : 0 ≤ (j : Int) := by omega
                obtain ⟨b, cs, rfl, hb, c0, c1, c2, c3, c4⟩ := R4.out.at_ (rowK_at _ hlt2)
                simp only [gC] at c0 c1 c2 c3 c4
                clear hb
                go_wp2_with fail
                go_roundw
                case rel => exact ⟨j + 1, by omega, by go_num, trivial⟩
                case measure => simp [intOf]; omega
              · obtain rfl : j = k := by omega
                clear R4
                go_wp2_with fail
                go_loopw [21] (fun i wr => ∃ j : Nat, j ≤ sz + 1 ∧ i = .int .i64 j ∧ Hid (MS W [(c, ⟨0, true, sz, drI sz j, [], []⟩)] wr)) (fun i _ => sz + 1 - (intOf i).toNat)
                case atStart => exact ⟨0, by omega, rfl, S4⟩
                case round =>
                  clear S4
                  obtain ⟨i, hi, rfl, hS⟩ := hrel
                  by_cases hlt4 : i < sz
                  · have i1 : (i : Int) < (sz : Int) := by omega
                    have i2 : 0 ≤ (i : Int) := by omega
                    have i3 : (i : Int) ≤ (sz : Int) := by omega
                    have S : Hid (MS W [(c, ⟨0, true, sz, (50 + (i : Int)) :: drI sz (i + 1), [], []⟩)] wr) := by have h9 := hS.out; rw [drI_in _ _ hlt4] at h9; exact h9
                    clear hS
                    go_wp2_with fail
                    refine (ms_recv (i := 0) S.out rfl (by simp) rfl rfl).mono ?_
                    rintro e w7 ⟨A7, n7, rfl, _, s7, _⟩
                    have S7 : Hid (MS W [(c, ⟨0, true, sz, drI sz (i + 1), [], []⟩)] w7) := s7
                    clear s7 S
                    go_wp2_with fail
                    go_roundw
                    case rel => exact ⟨i + 1, by omega, by go_num, S7⟩
                    case measure => simp [intOf]; omega
                  by_cases hlt5 : i = sz
                  · obtain rfl : sz = i := hlt5.symm
                    have S : Hid (MS W [(c, ⟨0, true, sz, [], [], []⟩)] wr) := by have h9 := hS.out; rw [drI_end _ _ (Nat.le_refl _)] at h9; exact h9
                    clear hS
                    go_wp2_with fail
                    refine (ms_recv (i := 0) S.out rfl (by simp) rfl rfl).mono ?_
                    rintro e w7 ⟨A7, n7, rfl, _, s7, _⟩
                    have S7 : Hid (MS W [(c, ⟨0, true, sz, drI sz (sz + 1), [], []⟩)] w7) := by rw [drI_end _ _ (by omega)]; exact s7
                    clear s7 S
                    go_wp2_with fail
                    go_roundw
                    case rel => exact ⟨sz + 1, by omega, by go_num, S7⟩
                    case measure => simp [intOf] <;> omega
                  · obtain rfl : i = sz + 1 := by omega
                    have S : Hid (MS W [(c, ⟨0, true, sz, [], [], []⟩)] wr) := by have h9 := hS.out; rw [drI_end _ _ (by omega)] at h9; exact h9
                    clear hS
                    go_wp2_with fail
                    refine (ms_wait (i := 0) ⟨1, 0, 0⟩ true (by unfold Wf; decide) S.out rfl (by intro b; cases b <;> simp [CS.q]) rfl).mono ?_
                    rintro e w8 ⟨rfl, s8, _⟩
                    have S8 := Lib.hid s8
                    clear s8 S
                    go_wp2_with fail
                    refine (awake_any _).mono ?_
                    rintro e w' ⟨rfl, hb⟩
                    have HB := Lib.hid (S8.out.bel.trans (hb.mono S8.out.bel.size))
                    clear hb S8
                    go_wp2_with fail
                    go_ret
                    exact ⟨rfl, HB.out⟩
set_option maxRecDepth 100000 in
set_option maxHeartbeats 8000000 in
theorem closes_recv (sz v wn : Nat) (W : World) (h1 : sz ≤ 20) (h2 : v ≤ sz) (h3 : wn ≤ 20) (h4 : 0 < wn) : Calls Try.prog 5 #[.int .i64 sz, .int .i64 v, .int .i64 wn, .bool false] W (BoolR true W) := by
  have b1 : (sz : Int) ≤ 20 := by omega
  have b2 : 0 ≤ (sz : Int) := by omega
  have b3 : (v : Int) ≤ (sz : Int) := by omega
  have b4 : 0 ≤ (v : Int) := by omega
  have b5 : (wn : Int) ≤ 20 := by omega
  have b6 : 0 ≤ (wn : Int) := by omega
  have b7 : 0 < (wn : Int) := by omega
  go_enter Try.func5, Try.ntmps5
  go_wp2_with fail
  refine (ms_new (MS.nil W) sz (by omega)).mono ?_
  rintro e w1 ⟨c, rfl, s1, _⟩
  have S1 : Hid (MS W [(c, ⟨0, false, sz, rowI 0, [], []⟩)] w1) := s1
  clear s1
  go_wp2_with fail
  go_loopw [11] (fun i wr => ∃ k : Nat, k ≤ 0 ∧ i = .int .i64 k ∧ Hid (MS W [(c, ⟨0, false, sz, rowI k, [], []⟩)] wr)) (fun i _ => 0 - (intOf i).toNat)
  case atStart => exact ⟨0, by omega, rfl, S1⟩
  case round =>
      clear S1
      obtain ⟨k, hk, rfl, hS⟩ := hrel
      by_cases hlt : k < 0
      · exact absurd hlt (by omega)
      · have k9 : ¬ (k : Int) < 0 := by omega
        have hS : Hid (MS W [(c, ⟨0, false, sz, rowI 0, [], []⟩)] wr) := by have h9 := hS.out; rw [show k = 0 by omega] at h9; exact h9
        have S1 : Hid (MS W [(c, ⟨0, false, sz, rowI 0, [], rowW fC 0⟩)] wr) := hS.out
        clear hS
        go_wp2_with fail
        go_loopw [15] (fun i wr => ∃ k : Nat, k ≤ wn ∧ i = .int .i64 k ∧ Hid (MS W [(c, ⟨0, false, sz, rowI 0, [], rowW fC k⟩)] wr)) (fun i _ => wn - (intOf i).toNat)
        case atStart => exact ⟨0, by omega, rfl, S1⟩
        case round =>
          clear S1
          obtain ⟨k, hk, rfl, hS⟩ := hrel
          by_cases hlt : k < wn
          · have k1 : (k : Int) < (wn : Int) := by omega
            have k2 : 0 ≤ (k : Int) := by omega
            go_wp2_with fail
            have hw := (ms_wait (i := 0) (fC k) false (wf_of (by simp only [fC]; omega) (by simp only [fC]; omega)) hS.out rfl (by intro b; cases b <;> simp [CS.q, rowW_len] <;> omega) rfl)
            refine hw.mono ?_
            rintro e w2 ⟨rfl, s2, _⟩
            have S2 : Hid (MS W [(c, ⟨0, false, sz, rowI 0, [], rowW fC (k + 1)⟩)] w2) := by rw [← rowW_succ]; exact s2
            clear s2 hS hw
            go_wp2_with fail
            go_roundw
            case rel => exact ⟨k + 1, by omega, by go_num, S2⟩
            case measure => simp [intOf]; omega
          · obtain rfl : k = wn := by omega
            go_wp2_with fail
            refine (ms_close (i := 0) (n := k) (ws := rowK (gC false) k) hS.out rfl rfl rfl (by simp) (by simp only [rowW_len]; omega) (tot_recv fC_inj k 0 sz false (rowI 0)) (rowK_len _ _)).mono ?_
            rintro e w3 ⟨A, cap, rfl, r3, s3, _⟩
            have S3 : Hid (MS W [(c, ⟨0, true, sz, rowI 0, [], []⟩)] w3) := s3
            have R3 := Lib.hid r3
            clear s3 hS r3
            go_wp2_with fail
            refine (ms_close_closed (i := 0) S3.out rfl rfl rfl).mono ?_
            rintro e w' ⟨rfl, rfl⟩
            go_wp2_with fail
            refine (ms_waiting (i := 0) false S3.out rfl (by simp [CS.q])).mono ?_
            rintro e w4 ⟨A4, n4, rfl, _, hb4⟩
            have S4 : Hid (MS W [(c, ⟨0, true, sz, drI 0 0, [], []⟩)] w4) := by rw [← rowI_dr]; exact S3.out.later hb4
            have R4 := Lib.hid (R3.out.later hb4)
            clear hb4 S3 R3
            simp only [CS.q, List.length_nil]
            go_wp2_with fail
            go_loopw [20] (fun i wr => ∃ j : Nat, j ≤ k ∧ i = .int .i64 j ∧ wr = w4) (fun i _ => k - (intOf i).toNat)
            case atStart => exact ⟨0, by omega, rfl, rfl⟩
            case round =>
              obtain ⟨j, hj, rfl, rfl⟩ := hrel
              by_cases hlt2 : j < k
              · have j1 : (j : Int) < (k : Int) := by omega
                have j2 : 0 ≤ (j : Int) := by omega
                obtain ⟨b, cs, rfl, hb, c0, c1, c2, c3, c4⟩ := R4.out.at_ (rowK_at _ hlt2)
                simp only [gC] at c0 c1 c2 c3 c4
                clear hb
                go_wp2_with fail
                go_roundw
                case rel => exact ⟨j + 1, by omega, by go_num, trivial⟩
                case measure => simp [intOf]; omega
              · obtain rfl : j = k := by omega
                clear R4
                go_wp2_with fail
                go_loopw [21] (fun i wr => ∃ j : Nat, j ≤ 0 + 1 ∧ i = .int .i64 j ∧ Hid (MS W [(c, ⟨0, true, sz, drI 0 j, [], []⟩)] wr)) (fun i _ => 0 + 1 - (intOf i).toNat)
                case atStart => exact ⟨0, by omega, rfl, S4⟩
                case round =>
                  clear S4
                  obtain ⟨i, hi, rfl, hS⟩ := hrel
                  by_cases hlt4 : i < 0
                  · exact absurd hlt4 (by omega)
                  by_cases hlt5 : i = 0
                  · obtain rfl : i = 0 := hlt5
                    have S : Hid (MS W [(c, ⟨0, true, sz, [], [], []⟩)] wr) := by have h9 := hS.out; rw [drI_end _ _ (Nat.le_refl _)] at h9; exact h9
                    clear hS
                    go_wp2_with fail
                    refine (ms_recv (i := 0) S.out rfl (by simp) rfl rfl).mono ?_
                    rintro e w7 ⟨A7, n7, rfl, _, s7, _⟩
                    have S7 : Hid (MS W [(c, ⟨0, true, sz, drI 0 (0 + 1), [], []⟩)] w7) := by rw [drI_end _ _ (by omega)]; exact s7
                    clear s7 S
                    go_wp2_with fail
                    go_roundw
                    case rel => exact ⟨0 + 1, by omega, by go_num, S7⟩
                    case measure => simp [intOf] <;> omega
                  · obtain rfl : i = 0 + 1 := by omega
                    have S : Hid (MS W [(c, ⟨0, true, sz, [], [], []⟩)] wr) := by have h9 := hS.out; rw [drI_end _ _ (by omega)] at h9; exact h9
                    clear hS
                    go_wp2_with fail
                    refine (ms_wait (i := 0) ⟨1, 0, 0⟩ true (by unfold Wf; decide) S.out rfl (by intro b; cases b <;> simp [CS.q]) rfl).mono ?_
                    rintro e w8 ⟨rfl, s8, _⟩
                    have S8 := Lib.hid s8
                    clear s8 S
                    go_wp2_with fail
                    refine (awake_any _).mono ?_
                    rintro e w' ⟨rfl, hb⟩
                    have HB := Lib.hid (S8.out.bel.trans (hb.mono S8.out.bel.size))
                    clear hb S8
                    go_wp2_with fail
                    go_ret
                    exact ⟨rfl, HB.out⟩
set_option maxRecDepth 100000 in
set_option maxHeartbeats 8000000 in
theorem closes_none (sz v : Nat) (W : World) (h1 : sz ≤ 20) (h2 : v ≤ sz) : Calls Try.prog 5 #[.int .i64 sz, .int .i64 v, .int .i64 0, .bool false] W (BoolR true W) := by
  have b1 : (sz : Int) ≤ 20 := by omega
  have b2 : 0 ≤ (sz : Int) := by omega
  have b3 : (v : Int) ≤ (sz : Int) := by omega
  have b4 : 0 ≤ (v : Int) := by omega
  go_enter Try.func5, Try.ntmps5
  go_wp2_with fail
  refine (ms_new (MS.nil W) sz (by omega)).mono ?_
  rintro e w1 ⟨c, rfl, s1, _⟩
  have S1 : Hid (MS W [(c, ⟨0, false, sz, rowI 0, [], []⟩)] w1) := s1
  clear s1
  go_wp2_with fail
  go_loopw [11] (fun i wr => ∃ k : Nat, k ≤ v ∧ i = .int .i64 k ∧ Hid (MS W [(c, ⟨0, false, sz, rowI k, [], []⟩)] wr)) (fun i _ => v - (intOf i).toNat)
  case atStart => exact ⟨0, by omega, rfl, S1⟩
  case round =>
      clear S1
      obtain ⟨k, hk, rfl, hS⟩ := hrel
      by_cases hlt : k < v
      · have k1 : (k : Int) < (v : Int) := by omega
        have k2 : 0 ≤ (k : Int) := by omega
        go_wp2_with fail
        refine (ms_send (i := 0) (s' := ⟨0, false, sz, rowI (k + 1), [], []⟩) (50 + (k : Int)) hS.out rfl rfl rfl (by simp) (by rw [← rowI_succ]; exact gv_room _ _ _ _ _ _ (by rw [rowI_len]; omega)) rfl).mono ?_
        rintro e w2 ⟨A, cap, rfl, _, s2, _⟩
        have S2 : Hid (MS W [(c, ⟨0, false, sz, rowI (k + 1), [], []⟩)] w2) := s2
        clear s2 hS
        go_wp2_with fail
        go_roundw
        case rel => exact ⟨k + 1, by omega, by go_num, S2⟩
        case measure => simp [intOf]; omega
      · obtain rfl : v = k := by omega
        have S1 : Hid (MS W [(c, ⟨0, false, sz, rowI v, [], rowW fC 0⟩)] wr) := hS.out
        clear hS
        go_wp2_with fail
        go_loopw [15] (fun i wr => ∃ k : Nat, k ≤ 0 ∧ i = .int .i64 k ∧ Hid (MS W [(c, ⟨0, false, sz, rowI v, [], rowW fC k⟩)] wr)) (fun i _ => 0 - (intOf i).toNat)
        case atStart => exact ⟨0, by omega, rfl, S1⟩
        case round =>
          clear S1
          obtain ⟨k, hk, rfl, hS⟩ := hrel
          by_cases hlt : k < 0
          · exact absurd hlt (by omega)
          · have k9 : ¬ (k : Int) < 0 := by omega
            have hS : Hid (MS W [(c, ⟨0, false, sz, rowI v, [], []⟩)] wr) := by have h9 := hS.out; rw [show k = 0 by omega] at h9; exact h9
            go_wp2_with fail
            refine (ms_close (i := 0) (n := 0) (ws := []) hS.out rfl rfl rfl (by simp) (by simp) rfl rfl).mono ?_
            rintro e w3 ⟨A, cap, rfl, r3, s3, _⟩
            have S3 : Hid (MS W [(c, ⟨0, true, sz, rowI v, [], []⟩)] w3) := s3
            have R3 := Lib.hid r3
            clear s3 hS r3
            go_wp2_with fail
            refine (ms_close_closed (i := 0) S3.out rfl rfl rfl).mono ?_
            rintro e w' ⟨rfl, rfl⟩
            go_wp2_with fail
            refine (ms_waiting (i := 0) false S3.out rfl (by simp [CS.q])).mono ?_
            rintro e w4 ⟨A4, n4, rfl, _, hb4⟩
            have S4 : Hid (MS W [(c, ⟨0, true, sz, drI v 0, [], []⟩)] w4) := by rw [← rowI_dr]; exact S3.out.later hb4
            have R4 := Lib.hid (R3.out.later hb4)
            clear hb4 S3 R3
            simp only [CS.q, List.length_nil]
            go_wp2_with fail
            go_loopw [20] (fun i wr => ∃ j : Nat, j ≤ 0 ∧ i = .int .i64 j ∧ wr = w4) (fun i _ => 0 - (intOf i).toNat)
            case atStart => exact ⟨0, by omega, rfl, rfl⟩
            case round =>
              obtain ⟨j, hj, rfl, rfl⟩ := hrel
              by_cases hlt2 : j < 0
              · exact absurd hlt2 (by omega)
              · have j9 : ¬ (j : Int) < 0 := by omega
                clear R4
                go_wp2_with fail
                go_loopw [21] (fun i wr => ∃ j : Nat, j ≤ v + 1 ∧ i = .int .i64 j ∧ Hid (MS W [(c, ⟨0, true, sz, drI v j, [], []⟩)] wr)) (fun i _ => v + 1 - (intOf i).toNat)
                case atStart => exact ⟨0, by omega, rfl, S4⟩
                case round =>
                  clear S4
                  obtain ⟨i, hi, rfl, hS⟩ := hrel
                  by_cases hlt4 : i < v
                  · have i1 : (i : Int) < (v : Int) := by omega
                    have i2 : 0 ≤ (i : Int) := by omega
                    have i3 : (i : Int) ≤ (v : Int) := by omega
                    have S : Hid (MS W [(c, ⟨0, true, sz, (50 + (i : Int)) :: drI v (i + 1), [], []⟩)] wr) := by have h9 := hS.out; rw [drI_in _ _ hlt4] at h9; exact h9
                    clear hS
                    go_wp2_with fail
                    refine (ms_recv (i := 0) S.out rfl (by simp) rfl rfl).mono ?_
                    rintro e w7 ⟨A7, n7, rfl, _, s7, _⟩
                    have S7 : Hid (MS W [(c, ⟨0, true, sz, drI v (i + 1), [], []⟩)] w7) := s7
                    clear s7 S
                    go_wp2_with fail
                    go_roundw
                    case rel => exact ⟨i + 1, by omega, by go_num, S7⟩
                    case measure => simp [intOf]; omega
                  by_cases hlt5 : i = v
                  · obtain rfl : v = i := hlt5.symm
                    have S : Hid (MS W [(c, ⟨0, true, sz, [], [], []⟩)] wr) := by have h9 := hS.out; rw [drI_end _ _ (Nat.le_refl _)] at h9; exact h9
                    clear hS
                    go_wp2_with fail
                    refine (ms_recv (i := 0) S.out rfl (by simp) rfl rfl).mono ?_
                    rintro e w7 ⟨A7, n7, rfl, _, s7, _⟩
                    have S7 : Hid (MS W [(c, ⟨0, true, sz, drI v (v + 1), [], []⟩)] w7) := by rw [drI_end _ _ (by omega)]; exact s7
                    clear s7 S
                    go_wp2_with fail
                    go_roundw
                    case rel => exact ⟨v + 1, by omega, by go_num, S7⟩
                    case measure => simp [intOf] <;> omega
                  · obtain rfl : i = v + 1 := by omega
                    have S : Hid (MS W [(c, ⟨0, true, sz, [], [], []⟩)] wr) := by have h9 := hS.out; rw [drI_end _ _ (by omega)] at h9; exact h9
                    clear hS
                    go_wp2_with fail
                    refine (ms_wait (i := 0) ⟨1, 0, 0⟩ true (by unfold Wf; decide) S.out rfl (by intro b; cases b <;> simp [CS.q]) rfl).mono ?_
                    rintro e w8 ⟨rfl, s8, _⟩
                    have S8 := Lib.hid s8
                    clear s8 S
                    go_wp2_with fail
                    refine (awake_any _).mono ?_
                    rintro e w' ⟨rfl, hb⟩
                    have HB := Lib.hid (S8.out.bel.trans (hb.mono S8.out.bel.size))
                    clear hb S8
                    go_wp2_with fail
                    go_ret
                    exact ⟨rfl, HB.out⟩
set_option maxRecDepth 100000 in
theorem closes_out (sz v wn : Int) (s : Bool) (W : World) (h : sz < 0 ∨ 20 < sz ∨ v < 0 ∨ sz < v ∨ wn < 0 ∨ 20 < wn) : Calls Try.prog 5 #[.int .i64 sz, .int .i64 v, .int .i64 wn, .bool s] W (BoolR true W) := by
  by_cases d0 : sz < 0
  · skip
    clear h
    go_enter Try.func5, Try.ntmps5
    go_wp2_with fail
    refine (awake_any W).mono ?_
    rintro e w' ⟨rfl, hb⟩
    have HB := Lib.hid hb
    clear hb
    go_wp2_with fail
    go_ret
    exact ⟨rfl, HB.out⟩
  by_cases d1 : 20 < sz
  · skip
    clear h
    go_enter Try.func5, Try.ntmps5
    go_wp2_with fail
    refine (awake_any W).mono ?_
    rintro e w' ⟨rfl, hb⟩
    have HB := Lib.hid hb
    clear hb
    go_wp2_with fail
    go_ret
    exact ⟨rfl, HB.out⟩
  by_cases d2 : v < 0
  · skip
    clear h
    go_enter Try.func5, Try.ntmps5
    go_wp2_with fail
    refine (awake_any W).mono ?_
    rintro e w' ⟨rfl, hb⟩
    have HB := Lib.hid hb
    clear hb
    go_wp2_with fail
    go_ret
    exact ⟨rfl, HB.out⟩
  by_cases d3 : sz < v
  · skip
    clear h
    go_enter Try.func5, Try.ntmps5
    go_wp2_with fail
    refine (awake_any W).mono ?_
    rintro e w' ⟨rfl, hb⟩
    have HB := Lib.hid hb
    clear hb
    go_wp2_with fail
    go_ret
    exact ⟨rfl, HB.out⟩
  by_cases d4 : wn < 0
  · skip
    clear h
    go_enter Try.func5, Try.ntmps5
    go_wp2_with fail
    refine (awake_any W).mono ?_
    rintro e w' ⟨rfl, hb⟩
    have HB := Lib.hid hb
    clear hb
    go_wp2_with fail
    go_ret
    exact ⟨rfl, HB.out⟩
  · have d5 : 20 < wn := by omega
    clear h
    go_enter Try.func5, Try.ntmps5
    go_wp2_with fail
    refine (awake_any W).mono ?_
    rintro e w' ⟨rfl, hb⟩
    have HB := Lib.hid hb
    clear hb
    go_wp2_with fail
    go_ret
    exact ⟨rfl, HB.out⟩
theorem closes_walk (sz v wn : Int) (s : Bool) (W : World) : Calls Try.prog 5 #[.int .i64 sz, .int .i64 v, .int .i64 wn, .bool s] W (BoolR true W) := by
  by_cases h : sz < 0 ∨ 20 < sz ∨ v < 0 ∨ sz < v ∨ wn < 0 ∨ 20 < wn
  · exact closes_out sz v wn s W h
  · obtain ⟨sz, rfl⟩ := Int.eq_ofNat_of_zero_le (show 0 ≤ sz by omega)
    obtain ⟨v, rfl⟩ := Int.eq_ofNat_of_zero_le (show 0 ≤ v by omega)
    obtain ⟨wn, rfl⟩ := Int.eq_ofNat_of_zero_le (show 0 ≤ wn by omega)
    cases s
    · by_cases h0 : 0 < wn
      · exact closes_recv sz v wn W (by omega) (by omega) (by omega) h0
      · obtain rfl : wn = 0 := by omega
        exact closes_none sz v W (by omega) (by omega)
    · exact closes_send sz v wn W (by omega) (by omega) (by omega)
end Go.Proofs.Ytnldodpmfkekbaa
