/- TreeLines walked: a row, each on the one ahead. No condition. -/
import Derived.Test.YtplckaodenpdbaaAwk
namespace Go.Proofs.Ytplckaodenpdbaa
open Go.RowKit
set_option linter.unusedVariables false
set_option maxRecDepth 100000

theorem walk_off {S : TS} (h : WF S) (p : Int) : ∀ n i, S.length - i < n → i < S.length → walk (S ++ [(p, false)]) i = walk S i := by
  intro n
  induction n with
  | zero => intro i hn; omega
  | succ n ih =>
    intro i hn hi
    rw [walk_eq, walk_eq S, kids_push h p false i hi, if_neg (by simp)]
    congr 1
    refine flatMap_same fun x hx => ?_
    have := kids_lt hx
    exact ih x (by omega) this.2
theorem cut_off (S : TS) (x : Int × Bool) (k : Nat) (hk : k < S.length) : cut (S ++ [x]) k = cut S k ++ [x] := by
  unfold cut
  rw [List.getElem?_append_left hk]
  cases h : S[k]? with
  | none => rfl
  | some y => exact List.set_append_left _ _ hk
/-- What is asked of a row, be there a lone one behind it. -/
structure LT (m : Nat) (T : TS) : Prop where
  len : m ≤ T.length
  a : walk T 0 = List.range' 0 m
  c : ∀ k, 0 < k → k < m → T[k]? = some (((k - 1 : Nat) : Int), true)
  l : ∀ k, 0 < k → k < m → walk (cut T k) 0 = List.range' 0 k
  h : ∀ k, 0 < k → k < m → walk (cut T k) k = List.range' k (m - k)
theorem LT.of_row {m : Nat} (h0 : 0 < m) : LT m (row m) where
  len := by rw [row_len]; omega
  a := by have := row_walk m _ 0 (Nat.lt_succ_self _) h0; simpa using this
  c := fun k h1 h2 => by rw [row_at m k h2, show ((k - 1 : Nat) : Int) = (k : Int) - 1 from by omega, decide_eq_true h1]
  l := fun k h1 h2 => by rw [row_cut_low m k h1 h2, List.range_eq_range']
  h := fun k h1 h2 => row_cut_high m k h2
theorem LT.lone {m : Nat} (h0 : 0 < m) : LT m (row m ++ [(-1, false)]) := by
  have h := LT.of_row h0
  have hw := row_wf m
  refine ⟨by simp [row_len], ?_, ?_, ?_, ?_⟩
  · rw [walk_off hw _ _ 0 (Nat.lt_succ_self _) (by rw [row_len]; exact h0)]; exact h.a
  · intro k h1 h2
    rw [List.getElem?_append_left (by rw [row_len]; exact h2)]; exact h.c k h1 h2
  · intro k h1 h2
    rw [cut_off _ _ _ (by rw [row_len]; exact h2), walk_off (hw.cut k) _ _ 0 (Nat.lt_succ_self _) (by rw [cut_len, row_len]; exact h0)]
    exact h.l k h1 h2
  · intro k h1 h2
    rw [cut_off _ _ _ (by rw [row_len]; exact h2), walk_off (hw.cut k) _ _ k (Nat.lt_succ_self _) (by rw [cut_len, row_len]; exact h2)]
    exact h.h k h1 h2
section
variable {W w : World} {t : Nat}
theorem line_add (k : Nat) (hk : k < 1000) (h : LS W t (row k) [] w) : Calls Try.prog 10 #[.pointer (some ⟨t, 0, none⟩), .int .i64 ((k : Int) - 1), .bool true] w fun e w' => e = .returned (.tuple #[.int .i64 (k : Int), .int .i64 0]) ∧ Hid (LS W t (row (k + 1)) [] w') := by
  rw [row_succ]
  rcases Nat.eq_zero_or_pos k with rfl | h0
  · exact root_ls h (by rw [row_len]; omega) true
  · have := hung_ls h (by rw [row_len]; omega) (k - 1) (by rw [row_len]; omega)
    rw [show ((k - 1 : Nat) : Int) = (k : Int) - 1 from by omega] at this
    unfold AddL at this
    rw [row_len] at this
    rw [decide_eq_true h0]
    exact this
theorem line_more (k : Nat) (hk : 1000 ≤ k) (h : LS W t (row 1000) [] w) : Calls Try.prog 10 #[.pointer (some ⟨t, 0, none⟩), .int .i64 ((k : Int) - 1), .bool true] w fun e w' => ∃ x : Int, (x = 1 ∨ x = 3) ∧ e = .returned (.tuple #[.int .i64 0, .int .i64 x]) ∧ w = w' := by
  by_cases c : k = 1000
  · subst c
    exact (full_ls h (row_len _) _ true (.inr ⟨by omega, by rw [row_len]; omega⟩)).mono fun e w' ⟨h1, h2⟩ => ⟨3, .inr rfl, h1, h2⟩
  · exact (arg_ls h _ true (.inr (by rw [row_len]; omega))).mono fun e w' ⟨h1, h2⟩ => ⟨1, .inl rfl, h1, h2⟩
/-- The lone one behind the row. -/
theorem line_last (m : Nat) (h0 : 0 < m) (hm : m ≤ 1000) (h : LS W t (row m) [] w) : Calls Try.prog 10 #[.pointer (some ⟨t, 0, none⟩), .int .i64 (-1), .bool false] w fun e w' => ∃ (x y : Int) (T : TS), Hid (LT m T) ∧ Hid (LS W t T [] w') ∧ e = .returned (.tuple #[.int .i64 x, .int .i64 y]) ∧ (y == 3) = ((m : Int) == 1000) := by
  by_cases c : m = 1000
  · refine (full_ls h (by rw [row_len]; exact c) (-1) false (.inl rfl)).mono ?_
    rintro e w' ⟨rfl, rfl⟩
    subst c
    exact ⟨0, 3, _, LT.of_row h0, h, rfl, rfl⟩
  · refine (root_ls h (by rw [row_len]; omega) false).mono ?_
    rintro e w' ⟨rfl, h2⟩
    refine ⟨_, 0, _, LT.lone h0, h2, rfl, ?_⟩
    rw [show ((m : Int) == 1000) = false from beq_eq_false_iff_ne.2 (by omega)]; rfl
end
set_option maxHeartbeats 4000000 in
theorem lines_any (n at' : Int) (W : World) : Calls Try.prog 7 #[.int .i64 n, .int .i64 at'] W (BoolR true W) := by
  have HAW := Lib.hid fun w => awake_any w
  by_cases c1 : n < 2
  · go_enter Try.func7, Try.ntmps7
    go_wp2_with fail
    refine (HAW.out _).mono ?_
    rintro e w' ⟨rfl, hb⟩
    have HB := Lib.hid hb
    clear hb
    go_wp2_with fail
    go_ret
    exact ⟨rfl, HB.out⟩
  by_cases c2 : 1010 < n
  · go_enter Try.func7, Try.ntmps7
    go_wp2_with fail
    refine (HAW.out _).mono ?_
    rintro e w' ⟨rfl, hb⟩
    have HB := Lib.hid hb
    clear hb
    go_wp2_with fail
    go_ret
    exact ⟨rfl, HB.out⟩
  obtain ⟨n, rfl⟩ : ∃ k : Nat, n = (k : Int) := Int.eq_ofNat_of_zero_le (by omega)
  have HN := Lib.hid (new_ls (Below.refl W.heap.size W))
  have hn1 : (n : Int) ≤ 1010 := by omega
  go_enter Try.func7, Try.ntmps7
  go_wp2_with (go_at_call 9; (with_reducible refine HN.out.mono ?_); rintro e w1 ⟨t, rfl, h1⟩; have H1 : Hid (LS W t (row (min 0 1000)) [] w1) := h1; clear h1 HN)
  go_loopw [6] (fun x wr => ∃ k : Nat, k ≤ n ∧ x = .int .i64 k ∧ Hid (LS W t (row (min k 1000)) [] wr)) (fun x _ => n - (intOf x).toNat)
  case atStart => exact ⟨0, by omega, rfl, H1⟩
  case round =>
    clear H1
    obtain ⟨k, hk, rfl, hL⟩ := hrel
    by_cases hlt : k < n
    · have b1 : (k : Int) < (n : Int) := by omega
      by_cases hk1 : k < 1000
      · have b2 : ¬ (1000 : Int) ≤ (k : Int) := by omega
        have b3 : (k : Int) < 1000 := by omega
        have hL2 := hL.out
        rw [show min k 1000 = k from by omega] at hL2
        have HC := Lib.hid (line_add k hk1 hL2)
        clear hL hL2
        go_wp2_with (go_at_call 10; (with_reducible refine HC.out.mono ?_); rintro e w' ⟨rfl, hL⟩)
        go_roundw
        case rel => exact ⟨k + 1, by omega, by go_num, by rw [show min (k + 1) 1000 = k + 1 from by omega]; exact hL⟩
        case measure => simp [intOf]; omega
      · have b2 : (1000 : Int) ≤ (k : Int) := by omega
        have hL2 := hL.out
        rw [show min k 1000 = 1000 from by omega] at hL2
        have HC := Lib.hid (line_more k (by omega) hL2)
        have HL := Lib.hid hL2
        clear hL hL2
        go_wp2_with (go_at_call 10; (with_reducible refine HC.out.mono ?_); rintro e w' ⟨x, hx, rfl, rfl⟩; rcases hx with rfl | rfl)
        all_goals
          go_roundw
          case rel => exact ⟨k + 1, by omega, by go_num, by rw [show min (k + 1) 1000 = 1000 from by omega]; exact HL⟩
          case measure => simp [intOf]; omega
    · obtain rfl : k = n := by omega
      have hL2 := hL.out
      obtain ⟨m, hm⟩ : ∃ m, min k 1000 = m := ⟨_, rfl⟩
      have e0 : min (k : Int) 1000 = (m : Int) := by omega
      rw [hm] at hL2
      have HC := Lib.hid (line_last m (by omega) (by omega) hL2)
      have b1 : (m : Int) ≤ 1000 := by omega
      have b2 : (2 : Int) ≤ (m : Int) := by omega
      clear hL hL2
      go_wp2_with fail
      clear e0 hm
      with_reducible refine HC.out.mono ?_
      rintro e w2 ⟨x, y, T, HT, HL, rfl, hy⟩
      clear HC
      have HR := Lib.hid (show Calls Try.prog 22 #[.int .i64 at', .int .i64 ((m : Int) - 1)] w2 fun e w' => e = .returned (.int .i64 (pk at' (m - 1) : Int)) ∧ w2 = w' from by
        have := round_any at' (m - 1) w2 (by omega) (by omega)
        rwa [show ((m - 1 : Nat) : Int) = (m : Int) - 1 from by omega] at this)
      have hpk := pk_lt at' (m := m - 1) (by omega)
      generalize pk at' (m - 1) = r at HR hpk
      have b3 : (r : Int) + 1 < (m : Int) := by omega
      go_wp2_with (go_at_call 22; (with_reducible refine HR.out.mono ?_); rintro e w' ⟨rfl, rfl⟩; clear HR)
      rw [show (1 : Int) + (r : Int) = ((r + 1 : Nat) : Int) from by omega]
      obtain ⟨j, hj⟩ : ∃ j, r + 1 = j := ⟨_, rfl⟩
      rw [hj]
      have j1 : 0 < j := by omega
      have j2 : j < m := by omega
      have j3 : (0 : Int) < (j : Int) := by omega
      have j4 : (j : Int) < (m : Int) := by omega
      clear hj hpk b3
      refine (show Calls Try.prog 20 #[.pointer (some ⟨t, 0, none⟩), .int .i64 0] w2 _ from walk_ls HL.out 0 (by have := HT.out.len; omega)).mono ?_
      rintro e w3 ⟨P3, c3, n3, hn3, rfl, HL3⟩
      have e3 : n3 = m := by rw [hn3.out, nz_len, HT.out.a]; simp
      rw [e3]
      clear e3 hn3 HL
      have HC := Lib.hid (cut_ls (HL3.out.sub (List.nil_sublist _)) j (HT.out.c j j1 j2))
      clear HL3
      go_wp2_with (go_at_call 12; (with_reducible refine HC.out.mono ?_); rintro e w4 ⟨rfl, HL4⟩; clear HC)
      refine (show Calls Try.prog 20 #[.pointer (some ⟨t, 0, none⟩), .int .i64 0] w4 _ from walk_ls HL4.out 0 (by have := HT.out.len; rw [cut_len]; omega)).mono ?_
      rintro e w5 ⟨P5, c5, n5, hn5, rfl, HL5⟩
      rw [HT.out.l j j1 j2] at hn5 HL5
      have e5 : n5 = j := by rw [hn5.out, nz_len]; simp
      rw [e5]
      clear e5 hn5 HL4
      have HC := Lib.hid (walk_ls HL5.out j (by have := HT.out.len; rw [cut_len]; omega))
      clear HL5
      obtain ⟨n6, hn6⟩ : ∃ n6, m - j = n6 := ⟨_, rfl⟩
      have b6 : (m : Int) - (j : Int) = (n6 : Int) := by omega
      go_wp2_with (go_at_call 20; (with_reducible refine HC.out.mono ?_); rintro e w6 ⟨P6, c6, n7, hn7, rfl, HL6⟩; (rw [HT.out.h j j1 j2, hn6] at hn7 HL6); have e7 : n7 = n6 := (by rw [hn7.out, nz_len]; simp); (rw [e7]); clear e7 hn7 HC)
      have b7 : (n6 : Int) ≤ 1000 := by omega
      clear b6
      go_loopw [14] (fun x wr => ∃ i : Nat, i ≤ j ∧ x = .int .i64 i ∧ Hid (w6 = wr)) (fun x _ => j - (intOf x).toNat)
      case atStart => exact ⟨0, by omega, rfl, rfl⟩
      case round =>
        obtain ⟨i, hi, rfl, hwr⟩ := hrel
        have hwr' := hwr.out
        subst hwr'
        clear hwr
        by_cases hlt : i < j
        · have b8 : (i : Int) < (j : Int) := by omega
          have b9 : (0 : Int) ≤ (i : Int) := by omega
          have ho := HL6.out.own (i := 1) rfl
          obtain ⟨g, hg, _⟩ := row_form ho (by simp [nz]; omega)
          have hc := ho.at hg (i := i) (x := (i : Int)) (by simp [nz, hlt])
          have hg' : P5 = some ⟨g, 0, none⟩ := hg
          subst hg'
          clear ho hg
          go_wp2_with fail
          go_roundw
          case rel => exact ⟨i + 1, by omega, by go_num, trivial⟩
          case measure => simp [intOf]; omega
        · obtain rfl : i = j := by omega
          go_wp2_with fail
          go_loopw [15] (fun x wr => ∃ k : Nat, k ≤ n6 ∧ x = .int .i64 k ∧ Hid (w6 = wr)) (fun x _ => n6 - (intOf x).toNat)
          case atStart => exact ⟨0, by omega, rfl, rfl⟩
          case round =>
            obtain ⟨k, hk, rfl, hwr⟩ := hrel
            have hwr' := hwr.out
            subst hwr'
            clear hwr
            by_cases hlt : k < n6
            · have b8 : (k : Int) < (n6 : Int) := by omega
              have b9 : (0 : Int) ≤ (k : Int) := by omega
              have ho := HL6.out.own (i := 0) rfl
              obtain ⟨g, hg, _⟩ := row_form ho (by simp [nz]; omega)
              have hc := ho.at hg (i := k) (x := (i : Int) + (k : Int)) (by simp [nz, hlt])
              have hg' : P6 = some ⟨g, 0, none⟩ := hg
              subst hg'
              clear ho hg
              go_wp2_with fail
              go_roundw
              case rel => exact ⟨k + 1, by omega, by go_num, trivial⟩
              case measure => simp [intOf]; omega
            · obtain rfl : k = n6 := by omega
              have HB := Lib.hid HL6.out.bel
              clear HL6
              go_wp2_with fail
              refine (HAW.out _).mono ?_
              rintro e w' ⟨rfl, hb⟩
              have HB2 := Lib.hid (HB.out.trans (hb.mono HB.out.size))
              clear hb
              go_wp2_with fail
              go_ret
              exact ⟨rfl, HB2.out⟩
end Go.Proofs.Ytplckaodenpdbaa
