/- The walk of ChanLeaves. No condition. -/
import Derived.Test.YtnldodpmfkekbaaSgW
namespace Go.Proofs.Ytnldodpmfkekbaa
open Go.RowKit
set_option linter.unusedVariables false

def fL (i : Nat) : Wt := ⟨i, 0, 70 + i⟩
theorem fL_inj : ∀ i j, (fL i).t = (fL j).t → i = j := fun i j h => by simp only [fL] at h; omega
/-- Who is left of n from place i on, without K. -/
def lv (n K i : Nat) : List Wt := ((List.range' i (n - i)).filter (· != K)).map fL
theorem lv_end (n K : Nat) : lv n K n = [] := by simp [lv]
theorem lv_out (n K : Nat) (h : K < n) : lv n K K = lv n K (K + 1) := by
  unfold lv
  rw [show n - K = (n - (K + 1)) + 1 by omega, List.range'_succ]
  simp
theorem lv_in (n K i : Nat) (h : i < n) (hk : i ≠ K) : lv n K i = fL i :: lv n K (i + 1) := by
  unfold lv
  rw [show n - i = (n - (i + 1)) + 1 by omega, List.range'_succ]
  simp [hk]
theorem isT_fL (K i : Nat) : isT K (fL i) = (i == K) := by
  show ((i : Int) == (K : Int)) = _
  rw [beq_nat]
  rfl
theorem lv_start (n K : Nat) : (rowW fL n).filter (fun x => !isT K x) = lv n K 0 := by
  unfold rowW lv
  rw [List.filter_map, List.range_eq_range']
  congr 1
  rw [Nat.sub_zero]
  apply List.filter_congr
  intro i _
  show (!isT K (fL i)) = _
  rw [isT_fL]
  rfl
theorem ct_row (n K : Nat) (h : K < n) : (rowW fL n).countP (isT K) = 1 := by
  have key : ∀ m, (rowW fL m).countP (isT K) = if K < m then 1 else 0 := by
    intro m
    induction m with
    | zero => simp [rowW]
    | succ m ih =>
      rw [← rowW_succ, List.countP_append, ih]
      simp only [List.countP_singleton, isT_fL]
      by_cases h1 : m = K
      · subst h1; simp
      · by_cases h2 : K < m
        · simp [h1, h2, Nat.lt_succ_of_lt h2]
        · have : ¬ K < m + 1 := by omega
          simp [h1, h2, this]
  rw [key, if_pos h]
theorem ct_lv (n K i : Nat) : (lv n K i).countP (isT K) = 0 := by
  rw [List.countP_eq_zero]
  unfold lv
  intro x hx
  obtain ⟨j, hj, rfl⟩ := List.mem_map.1 hx
  have := (List.mem_filter.1 hj).2
  rw [isT_fL]
  simpa using this
theorem flt_lv (n K i : Nat) : (lv n K i).filter (fun x => !isT K x) = lv n K i := by
  rw [List.filter_eq_self]
  unfold lv
  intro x hx
  obtain ⟨j, hj, rfl⟩ := List.mem_map.1 hx
  have := (List.mem_filter.1 hj).2
  rw [isT_fL]
  simpa using this
theorem lv_len (n K i : Nat) : (lv n K i).length ≤ n := by
  unfold lv
  rw [List.length_map]
  exact Nat.le_trans (List.length_filter_le _ _) (by simp)
set_option maxRecDepth 100000 in
set_option maxHeartbeats 4000000 in
theorem leaves_send (n : Nat) (out : Int) (W : World) (h1 : 1 ≤ n) (hn : n ≤ 15) : Calls Try.prog 8 #[.int .i64 n, .int .i64 out, .bool true] W (BoolR true W) := by
  have b1 : (n : Int) ≤ 15 := by omega
  have b2 : 1 ≤ (n : Int) := by omega
  have b3 : 0 ≤ out % (n : Int) := Int.emod_nonneg _ (by omega)
  have b4 : out % (n : Int) < n := Int.emod_lt_of_pos _ (by omega)
  obtain ⟨K, hK⟩ := Int.eq_ofNat_of_zero_le b3
  have hKn : K < n := by omega
  go_enter Try.func8, Try.ntmps8
  go_wp2_with fail
  refine (ms_new (MS.nil W) 0 (by omega)).mono ?_
  rintro e w1 ⟨c, rfl, s1, _⟩
  have S1 : Hid (MS W [(c, ⟨0, false, 0, [], rowW fL 0, []⟩)] w1) := s1
  clear s1
  go_wp2_with fail
  go_loopw [9] (fun i wr => ∃ k : Nat, k ≤ n ∧ i = .int .i64 k ∧ Hid (MS W [(c, ⟨0, false, 0, [], rowW fL k, []⟩)] wr)) (fun i _ => n - (intOf i).toNat)
  case atStart => exact ⟨0, by omega, rfl, S1⟩
  case round =>
    clear S1
    obtain ⟨k, hk, rfl, hS⟩ := hrel
    by_cases hlt : k < n
    · have k1 : (k : Int) < (n : Int) := by omega
      have k2 : 0 ≤ (k : Int) := by omega
      go_wp2_with fail
      have hw := (ms_wait (i := 0) (fL k) true (wf_of (by simp only [fL]; omega) (by simp only [fL]; omega)) hS.out rfl (by intro b; cases b <;> simp [CS.q, rowW_len] <;> omega) rfl)
      refine hw.mono ?_
      rintro e w2 ⟨rfl, s2, _⟩
      have S2 : Hid (MS W [(c, ⟨0, false, 0, [], rowW fL (k + 1), []⟩)] w2) := by rw [← rowW_succ]; exact s2
      clear s2 hS hw
      go_wp2_with fail
      go_roundw
      case rel => exact ⟨k + 1, by omega, by go_num, S2⟩
      case measure => simp [intOf]; omega
    · obtain rfl : k = n := by omega
      rename Nat => n
      go_wp2_with fail
      refine (round_any out n wr (by omega) (by omega)).mono ?_
      rintro e w' ⟨rfl, rfl⟩
      rw [hK]
      go_wp2_with fail
      refine (ms_remove (i := 0) K hS.out rfl (by simp only [rowW_len]; omega) (by simp)).mono ?_
      rintro e w3 ⟨rfl, s3, _⟩
      have S3 : Hid (MS W [(c, ⟨0, false, 0, [], lv n K 0, []⟩)] w3) := by rw [← lv_start]; exact s3
      clear s3 hS
      simp only [ct_row n K hKn, List.countP_nil]
      go_wp2_with fail
      refine (ms_remove (i := 0) K S3.out rfl (Nat.le_trans (lv_len n K 0) (by omega)) (by simp)).mono ?_
      rintro e w4 ⟨rfl, s4, _⟩
      have S4 : Hid (MS W [(c, ⟨0, false, 0, [], lv n K 0, []⟩)] w4) := by
        have e : gone ⟨0, false, 0, [], lv n K 0, []⟩ K = ⟨0, false, 0, [], lv n K 0, []⟩ := by unfold gone; simp only [flt_lv, List.filter_nil]
        rw [← e]; exact s4
      clear s4 S3
      simp only [ct_lv, List.countP_nil]
      go_wp2_with fail
      go_loopw [11] (fun i wr => ∃ k : Nat, k ≤ n ∧ i = .int .i64 k ∧ Hid (MS W [(c, ⟨0, false, 0, [], lv n K k, []⟩)] wr)) (fun i _ => n - (intOf i).toNat)
      case atStart => exact ⟨0, by omega, rfl, S4⟩
      case round =>
        clear S4
        obtain ⟨i, hi, rfl, hS⟩ := hrel
        by_cases hlt2 : i < n
        · have i1 : (i : Int) < (n : Int) := by omega
          have i2 : 0 ≤ (i : Int) := by omega
          by_cases hiK : i = K
          · subst hiK
            have S : Hid (MS W [(c, ⟨0, false, 0, [], lv n i (i + 1), []⟩)] wr) := by rw [← lv_out _ _ hKn]; exact hS.out
            clear hS
            go_wp2_with fail
            go_roundw
            case rel => exact ⟨i + 1, by omega, by go_num, S⟩
            case measure => simp [intOf]; omega
          · have hl := lv_len n K (i + 1)
            have S : Hid (MS W [(c, ⟨0, false, 0, [], fL i :: lv n K (i + 1), []⟩)] wr) := by rw [← lv_in _ _ _ hlt2 hiK]; exact hS.out
            have hne : ¬ ((i : Int) = (K : Int)) := by omega
            clear hS
            go_wp2_with fail
            refine (ms_recv (i := 0) (s := ⟨0, false, 0, [], fL i :: lv n K (i + 1), []⟩) (s' := ⟨0, false, 0, [], lv n K (i + 1), []⟩) S.out rfl (by simp only [List.length_cons]; omega) rfl rfl).mono ?_
            rintro e w6 ⟨A, cap, rfl, r6, s6, _⟩
            have S6 : Hid (MS W [(c, ⟨0, false, 0, [], lv n K (i + 1), []⟩)] w6) := s6
            obtain ⟨b, cs, rfl, hb, q0, q1, q2, q3, q4⟩ := RdK.cells1 r6
            simp only [fL] at q0 q1 q2 q3 q4
            clear s6 S r6 hb
            simp only [fL]
            go_wp2_with fail
            go_roundw
            case rel => exact ⟨i + 1, by omega, by go_num, S6⟩
            case measure => simp [intOf]; omega
        · obtain rfl : i = n := by omega
          have S : Hid (MS W [(c, ⟨0, false, 0, [], [], []⟩)] wr) := by have h9 := hS.out; rw [lv_end] at h9; exact h9
          clear hS
          go_wp2_with fail
          refine (ms_canB (i := 0) true S.out rfl).mono ?_
          rintro e w7 ⟨rfl, s7⟩
          have S7 := Lib.hid s7
          clear s7 S
          rw [show can ⟨0, false, 0, [], [], []⟩ true = false from rfl]
          go_wp2_with fail
          refine (ms_canB (i := 0) false S7.out rfl).mono ?_
          rintro e w8 ⟨rfl, s8⟩
          have S8 := Lib.hid s8
          clear s8 S7
          rw [show can ⟨0, false, 0, [], [], []⟩ false = false from rfl]
          go_wp2_with fail
          refine (awake_any _).mono ?_
          rintro e w' ⟨rfl, hb⟩
          have HB := Lib.hid (S8.out.bel.trans (hb.mono S8.out.bel.size))
          clear hb S8
          go_wp2_with fail
          go_ret
          exact ⟨rfl, HB.out⟩
set_option maxRecDepth 100000 in
set_option maxHeartbeats 4000000 in
theorem leaves_recv (n : Nat) (out : Int) (W : World) (h1 : 1 ≤ n) (hn : n ≤ 15) : Calls Try.prog 8 #[.int .i64 n, .int .i64 out, .bool false] W (BoolR true W) := by
  have b1 : (n : Int) ≤ 15 := by omega
  have b2 : 1 ≤ (n : Int) := by omega
  have b3 : 0 ≤ out % (n : Int) := Int.emod_nonneg _ (by omega)
  have b4 : out % (n : Int) < n := Int.emod_lt_of_pos _ (by omega)
  obtain ⟨K, hK⟩ := Int.eq_ofNat_of_zero_le b3
  have hKn : K < n := by omega
  go_enter Try.func8, Try.ntmps8
  go_wp2_with fail
  refine (ms_new (MS.nil W) 0 (by omega)).mono ?_
  rintro e w1 ⟨c, rfl, s1, _⟩
  have S1 : Hid (MS W [(c, ⟨0, false, 0, [], [], rowW fL 0⟩)] w1) := s1
  clear s1
  go_wp2_with fail
  go_loopw [9] (fun i wr => ∃ k : Nat, k ≤ n ∧ i = .int .i64 k ∧ Hid (MS W [(c, ⟨0, false, 0, [], [], rowW fL k⟩)] wr)) (fun i _ => n - (intOf i).toNat)
  case atStart => exact ⟨0, by omega, rfl, S1⟩
  case round =>
    clear S1
    obtain ⟨k, hk, rfl, hS⟩ := hrel
    by_cases hlt : k < n
    · have k1 : (k : Int) < (n : Int) := by omega
      have k2 : 0 ≤ (k : Int) := by omega
      go_wp2_with fail
      have hw := (ms_wait (i := 0) (fL k) false (wf_of (by simp only [fL]; omega) (by simp only [fL]; omega)) hS.out rfl (by intro b; cases b <;> simp [CS.q, rowW_len] <;> omega) rfl)
      refine hw.mono ?_
      rintro e w2 ⟨rfl, s2, _⟩
      have S2 : Hid (MS W [(c, ⟨0, false, 0, [], [], rowW fL (k + 1)⟩)] w2) := by rw [← rowW_succ]; exact s2
      clear s2 hS hw
      go_wp2_with fail
      go_roundw
      case rel => exact ⟨k + 1, by omega, by go_num, S2⟩
      case measure => simp [intOf]; omega
    · obtain rfl : k = n := by omega
      rename Nat => n
      go_wp2_with fail
      refine (round_any out n wr (by omega) (by omega)).mono ?_
      rintro e w' ⟨rfl, rfl⟩
      rw [hK]
      go_wp2_with fail
      refine (ms_remove (i := 0) K hS.out rfl (by simp) (by simp only [rowW_len]; omega)).mono ?_
      rintro e w3 ⟨rfl, s3, _⟩
      have S3 : Hid (MS W [(c, ⟨0, false, 0, [], [], lv n K 0⟩)] w3) := by rw [← lv_start]; exact s3
      clear s3 hS
      simp only [ct_row n K hKn, List.countP_nil]
      go_wp2_with fail
      refine (ms_remove (i := 0) K S3.out rfl (by simp) (Nat.le_trans (lv_len n K 0) (by omega))).mono ?_
      rintro e w4 ⟨rfl, s4, _⟩
      have S4 : Hid (MS W [(c, ⟨0, false, 0, [], [], lv n K 0⟩)] w4) := by
        have e : gone ⟨0, false, 0, [], [], lv n K 0⟩ K = ⟨0, false, 0, [], [], lv n K 0⟩ := by unfold gone; simp only [flt_lv, List.filter_nil]
        rw [← e]; exact s4
      clear s4 S3
      simp only [ct_lv, List.countP_nil]
      go_wp2_with fail
      go_loopw [11] (fun i wr => ∃ k : Nat, k ≤ n ∧ i = .int .i64 k ∧ Hid (MS W [(c, ⟨0, false, 0, [], [], lv n K k⟩)] wr)) (fun i _ => n - (intOf i).toNat)
      case atStart => exact ⟨0, by omega, rfl, S4⟩
      case round =>
        clear S4
        obtain ⟨i, hi, rfl, hS⟩ := hrel
        by_cases hlt2 : i < n
        · have i1 : (i : Int) < (n : Int) := by omega
          have i2 : 0 ≤ (i : Int) := by omega
          by_cases hiK : i = K
          · subst hiK
            have S : Hid (MS W [(c, ⟨0, false, 0, [], [], lv n i (i + 1)⟩)] wr) := by rw [← lv_out _ _ hKn]; exact hS.out
            clear hS
            go_wp2_with fail
            go_roundw
            case rel => exact ⟨i + 1, by omega, by go_num, S⟩
            case measure => simp [intOf]; omega
          · have hl := lv_len n K (i + 1)
            have S : Hid (MS W [(c, ⟨0, false, 0, [], [], fL i :: lv n K (i + 1)⟩)] wr) := by rw [← lv_in _ _ _ hlt2 hiK]; exact hS.out
            have hne : ¬ ((i : Int) = (K : Int)) := by omega
            clear hS
            go_wp2_with fail
            refine (ms_send (i := 0) (s := ⟨0, false, 0, [], [], fL i :: lv n K (i + 1)⟩) (s' := ⟨0, false, 0, [], [], lv n K (i + 1)⟩) 9 S.out rfl rfl rfl (by simp only [List.length_cons]; omega) rfl rfl).mono ?_
            rintro e w6 ⟨A, cap, rfl, r6, s6, _⟩
            have S6 : Hid (MS W [(c, ⟨0, false, 0, [], [], lv n K (i + 1)⟩)] w6) := s6
            obtain ⟨b, cs, rfl, hb, q0, q1, q2, q3, q4⟩ := RdK.cells1 r6
            simp only [fL] at q0 q1 q2 q3 q4
            clear s6 S r6 hb
            simp only [fL]
            go_wp2_with fail
            go_roundw
            case rel => exact ⟨i + 1, by omega, by go_num, S6⟩
            case measure => simp [intOf]; omega
        · obtain rfl : i = n := by omega
          have S : Hid (MS W [(c, ⟨0, false, 0, [], [], []⟩)] wr) := by have h9 := hS.out; rw [lv_end] at h9; exact h9
          clear hS
          go_wp2_with fail
          refine (ms_canB (i := 0) true S.out rfl).mono ?_
          rintro e w7 ⟨rfl, s7⟩
          have S7 := Lib.hid s7
          clear s7 S
          rw [show can ⟨0, false, 0, [], [], []⟩ true = false from rfl]
          go_wp2_with fail
          refine (ms_canB (i := 0) false S7.out rfl).mono ?_
          rintro e w8 ⟨rfl, s8⟩
          have S8 := Lib.hid s8
          clear s8 S7
          rw [show can ⟨0, false, 0, [], [], []⟩ false = false from rfl]
          go_wp2_with fail
          refine (awake_any _).mono ?_
          rintro e w' ⟨rfl, hb⟩
          have HB := Lib.hid (S8.out.bel.trans (hb.mono S8.out.bel.size))
          clear hb S8
          go_wp2_with fail
          go_ret
          exact ⟨rfl, HB.out⟩
theorem leaves_out (n out : Int) (s : Bool) (W : World) (h : n < 1 ∨ 15 < n) : Calls Try.prog 8 #[.int .i64 n, .int .i64 out, .bool s] W (BoolR true W) := by
  by_cases d1 : n < 1
  · clear h
    go_enter Try.func8, Try.ntmps8
    go_wp2_with fail
    refine (awake_any W).mono ?_
    rintro e w' ⟨rfl, hb⟩
    have HB := Lib.hid hb
    clear hb
    go_wp2_with fail
    go_ret
    exact ⟨rfl, HB.out⟩
  · have d2 : 15 < n := by omega
    clear h
    go_enter Try.func8, Try.ntmps8
    go_wp2_with fail
    refine (awake_any W).mono ?_
    rintro e w' ⟨rfl, hb⟩
    have HB := Lib.hid hb
    clear hb
    go_wp2_with fail
    go_ret
    exact ⟨rfl, HB.out⟩
theorem leaves_walk (n out : Int) (s : Bool) (W : World) : Calls Try.prog 8 #[.int .i64 n, .int .i64 out, .bool s] W (BoolR true W) := by
  by_cases h : n < 1 ∨ 15 < n
  · exact leaves_out n out s W h
  · obtain ⟨n, rfl⟩ := Int.eq_ofNat_of_zero_le (show 0 ≤ n by omega)
    cases s
    · exact leaves_recv n out W (by omega) (by omega)
    · exact leaves_send n out W (by omega) (by omega)
end Go.Proofs.Ytnldodpmfkekbaa
