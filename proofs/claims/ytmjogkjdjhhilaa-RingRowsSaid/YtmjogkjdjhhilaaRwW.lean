/- The walk of RingRows. No condition. -/
import Derived.Test.YtmjogkjdjhhilaaNnW
namespace Go.Proofs.Ytmjogkjdjhhilaa
open Go.RowKit
set_option linter.unusedVariables false

def RoundR (n : Nat) (w : World) (e : Ending) (w' : World) : Prop := ∃ r : Nat, r < n ∧ e = .returned (.int .i64 r) ∧ w = w'
theorem round_any (k : Int) (n : Nat) (w : World) (h0 : 0 < n) (h1 : n ≤ 64) : Calls Try.prog 16 #[.int .i64 k, .int .i64 n] w (RoundR n w) := by
  have b1 : (0 : Int) < (n : Int) := by omega
  have b2 : (n : Int) ≤ 64 := by omega
  have t1 : k.tmod n < n := Int.tmod_lt_of_pos _ (by omega)
  have t2 : -(n : Int) < k.tmod n := by
    have := Int.tmod_lt_of_pos (-k) (show (0 : Int) < n by omega)
    rw [Int.neg_tmod] at this; omega
  have HE : Hid (RoundR n w (.returned (.int .i64 ((k.tmod n + n) % n))) w) := by
    refine ⟨((k.tmod n + n) % n).toNat, ?_, ?_, rfl⟩
    · have := Int.emod_lt_of_pos (k.tmod n + n) (show (0 : Int) < n by omega); omega
    · rw [Int.toNat_of_nonneg (Int.emod_nonneg _ (by omega))]
  go_enter Try.func16, Try.ntmps16
  go_wp2
  go_ret
  exact HE.out

/-- Numbers in a row. -/
def rowL (g m : Nat) : List Int := (List.range' (100 + g) m).map Int.ofNat
theorem rowL_len (g m : Nat) : (rowL g m).length = m := by simp [rowL]
theorem rowL_snoc (g m : Nat) : rowL g m ++ [100 + ((g + m : Nat) : Int)] = rowL g (m + 1) := by
  simp [rowL, List.range'_1_concat]; omega
theorem rowL_cons (g m : Nat) : rowL g (m + 1) = (100 + (g : Int)) :: rowL (g + 1) m := by
  simp only [rowL, List.range'_succ, List.map_cons, Nat.add_assoc]
  congr 1

set_option maxHeartbeats 1000000 in
theorem rows_out (size n ahead : Int) (W : World) (h : size < 1 ∨ 64 < size ∨ n < 0 ∨ 500 < n) : Calls Try.prog 4 #[.int .i64 size, .int .i64 n, .int .i64 ahead] W (BoolR true W) := by
  by_cases c1 : size < 1
  · go_enter Try.func4, Try.ntmps4
    go_wp2_with fail
    refine (awake_any W).mono ?_
    rintro e w' ⟨rfl, hb⟩
    have HB := Lib.hid hb
    clear hb
    go_wp2_with fail
    go_ret
    exact ⟨rfl, HB.out⟩
  by_cases c2 : 64 < size
  · go_enter Try.func4, Try.ntmps4
    go_wp2_with fail
    refine (awake_any W).mono ?_
    rintro e w' ⟨rfl, hb⟩
    have HB := Lib.hid hb
    clear hb
    go_wp2_with fail
    go_ret
    exact ⟨rfl, HB.out⟩
  by_cases c3 : n < 0
  · go_enter Try.func4, Try.ntmps4
    go_wp2_with fail
    refine (awake_any W).mono ?_
    rintro e w' ⟨rfl, hb⟩
    have HB := Lib.hid hb
    clear hb
    go_wp2_with fail
    go_ret
    exact ⟨rfl, HB.out⟩
  have c4 : 500 < n := by omega
  clear h
  go_enter Try.func4, Try.ntmps4
  go_wp2_with fail
  refine (awake_any W).mono ?_
  rintro e w' ⟨rfl, hb⟩
  have HB := Lib.hid hb
  clear hb
  go_wp2_with fail
  go_ret
  exact ⟨rfl, HB.out⟩

set_option maxHeartbeats 1000000 in
theorem rows_in (sz n : Nat) (ahead : Int) (W : World) (h1 : 1 ≤ sz) (h2 : sz ≤ 64) (h3 : n ≤ 500) : Calls Try.prog 4 #[.int .i64 sz, .int .i64 n, .int .i64 ahead] W (BoolR true W) := by
  have b1 : (1 : Int) ≤ (sz : Int) := by omega
  have b2 : (sz : Int) ≤ 64 := by omega
  have b3 : (n : Int) ≤ 500 := by omega
  go_enter Try.func4, Try.ntmps4
  go_wp2_with fail
  refine (new_yes sz W h2).mono ?_
  rintro e w1 q1
  obtain rfl := q1.1
  have S1 := Lib.hid (ST.start q1)
  clear q1
  go_wp2_with fail
  refine (round_any ahead sz w1 (by omega) h2).mono ?_
  rintro e w' ⟨r, hr, rfl, rfl⟩
  have b4 : (r : Int) < (sz : Int) := by omega
  go_wp2_with fail
  go_loopw [10, 11] (fun got i wr => ∃ g m : Nat, g + m ≤ n ∧ m ≤ r ∧ got = .int .i64 (g : Int) ∧ i = .int .i64 ((g + m : Nat) : Int) ∧ Hid (ST W (W.heap.size + 1) W.heap.size sz (rowL g m) wr)) (fun _ i _ => n - (intOf i).toNat)
  case atStart => exact ⟨0, 0, by omega, by omega, rfl, rfl, S1⟩
  case round =>
    obtain ⟨g, m, hk, hm, rfl, rfl, hS⟩ := hrel
    by_cases hlt : g + m < n
    · have k1 : ((g + m : Nat) : Int) < (n : Int) := by omega
      have k2 : (0 : Int) ≤ ((g + m : Nat) : Int) := by omega
      have hrl := rowL_len g m
      go_wp2_with fail
      refine (push_room (100 + ((g + m : Nat) : Int)) wr hS.out.rg h2 (by omega)).mono ?_
      rintro e w2 ⟨rfl, r2, o2⟩
      rw [rowL_snoc] at r2
      have S2 := Lib.hid (hS.out.go r2 o2)
      clear r2 o2 hS
      go_wp2_with fail
      refine (len_any w2 S2.out.rg).mono ?_
      rintro e w' ⟨rfl, rfl⟩
      rw [rowL_len]
      clear hrl
      by_cases he : m = r
      · subst he
        have e1 : (((m + 1 : Nat) : Int) == 1 + (m : Int)) = true := by simp; omega
        rw [rowL_cons] at S2
        have k3 : (0 : Int) ≤ (g : Int) := by omega
        have k4 : (g : Int) ≤ 500 := by omega
        have S2' := Lib.hid S2.out
        clear S2
        go_wp2_with fail
        refine (pop_some w2 S2'.out.rg h2).mono ?_
        rintro e w3 ⟨rfl, r3, o3⟩
        have S3 := Lib.hid (S2'.out.go r3 o3)
        clear r3 o3 S2'
        go_wp2_with fail
        go_roundw
        case rel => exact ⟨g + 1, m, by omega, by omega, by go_num, by rw [show g + 1 + m = g + m + 1 by omega]; go_num, S3⟩
        case measure => simp [intOf]; omega
      · have e1 : (((m + 1 : Nat) : Int) == 1 + (r : Int)) = false := by simp; omega
        go_wp2_with fail
        go_roundw
        case rel => exact ⟨g, m + 1, by omega, by omega, rfl, by rw [show g + (m + 1) = g + m + 1 by omega]; go_num, S2⟩
        case measure => simp [intOf]; omega
    · have hgm : g + m = n := by omega
      have HGM := Lib.hid hgm
      have k1 : (n : Int) - (g : Int) = (m : Int) := by omega
      have k2 : ¬ ((g + m : Nat) : Int) < (n : Int) := by omega
      have k3 : (0 : Int) ≤ (g : Int) := by omega
      have k4 : (g : Int) ≤ 500 := by omega
      clear hgm hlt
      go_wp2_with fail
      refine (len_any wr hS.out.rg).mono ?_
      rintro e w' ⟨rfl, rfl⟩
      rw [rowL_len]
      go_wp2_with fail
      refine (awake_any wr).mono ?_
      rintro e w4 ⟨rfl, hb⟩
      have HB := Lib.hid (hS.out.later hb)
      clear hb
      go_wp2_with fail
      go_ret
      exact ⟨rfl, HB.out.bel⟩

theorem rows_walk (size n ahead : Int) (W : World) : Calls Try.prog 4 #[.int .i64 size, .int .i64 n, .int .i64 ahead] W (BoolR true W) := by
  by_cases h : size < 1 ∨ 64 < size ∨ n < 0 ∨ 500 < n
  · exact rows_out size n ahead W h
  · obtain ⟨sz, rfl⟩ := Int.eq_ofNat_of_zero_le (show 0 ≤ size by omega)
    obtain ⟨m, rfl⟩ := Int.eq_ofNat_of_zero_le (show 0 ≤ n by omega)
    exact rows_in sz m ahead W (by omega) (by omega) (by omega)
end Go.Proofs.Ytmjogkjdjhhilaa
