/- The walk of ArenaActs. Condition: the list of pairs reads as it came. -/
import Derived.Test.YtfmjnhiipcocnaaTwo
namespace Go.Proofs.Ytfmjnhiipcocnaa
open Go.RowKit
set_option linter.unusedVariables false

set_option maxRecDepth 100000 in
set_option maxHeartbeats 1000000 in
theorem acts_out (most : Int) (A1 : Option Addr) (n1 c1 : Nat) (W : World) (h : 80 < n1 ∨ most < 1 ∨ 1000 < most) : Calls Try.prog 3 #[.int .i64 most, .slice A1 n1 c1] W (BoolR true W) := by
  by_cases d1 : (80 : Int) < (n1 : Int)
  · go_enter Try.func3, Try.ntmps3
    go_wp2_with fail
    refine (awake_any W).mono ?_
    rintro e w' ⟨rfl, hb⟩
    have HB := Lib.hid hb
    clear hb
    go_wp2_with fail
    go_ret
    exact ⟨rfl, HB.out⟩
  by_cases d2 : most < 1
  · go_enter Try.func3, Try.ntmps3
    go_wp2_with fail
    refine (I.new_no most W (.inl d2)).mono ?_
    rintro e w' ⟨rfl, rfl⟩
    go_wp2_with fail
    refine (awake_any W).mono ?_
    rintro e w' ⟨rfl, hb⟩
    have HB := Lib.hid hb
    clear hb
    go_wp2_with fail
    go_ret
    exact ⟨rfl, HB.out⟩
  have d3 : 1000 < most := by omega
  clear h
  go_enter Try.func3, Try.ntmps3
  go_wp2_with fail
  refine (I.new_no most W (.inr d3)).mono ?_
  rintro e w' ⟨rfl, rfl⟩
  go_wp2_with fail
  refine (awake_any W).mono ?_
  rintro e w' ⟨rfl, hb⟩
  have HB := Lib.hid hb
  clear hb
  go_wp2_with fail
  go_ret
  exact ⟨rfl, HB.out⟩

set_option maxRecDepth 100000 in
set_option maxHeartbeats 4000000 in
theorem acts_in (m : Nat) (A1 : Option Addr) (n1 c1 : Nat) (kf vf : Nat → Int) (W : World) (h1 : RdP W A1 n1 kf vf) (hm1 : 1 ≤ m) (hm : m ≤ 1000) (hn1 : n1 ≤ 80) : Calls Try.prog 3 #[.int .i64 (m : Int), .slice A1 n1 c1] W (BoolR true W) := by
  obtain ⟨i0, hi, hz0, hz1, hz2⟩ := info_parts I.inf
  have b1 : (1 : Int) ≤ (m : Int) := by omega
  have b2 : (m : Int) ≤ 1000 := by omega
  have b3 : (n1 : Int) ≤ 80 := by omega
  have R1 := Lib.hid h1
  clear h1
  go_enter Try.func3, Try.ntmps3
  go_wp2_with fail
  refine (I.new_yes m W hm1 hm).mono ?_
  rintro e w1 q1
  obtain rfl := q1.1
  have S0 := Lib.hid (AS.start (I.start q1))
  clear q1
  go_wp2_with fail
  go_loopw [7, 8] (fun v i wr => ∃ (k n : Nat) (l : List Int) (P1 : Option Addr) (c1 : Nat) (P2 : Option Addr) (c2 : Nat), k ≤ n1 ∧ v = .slice P2 n c2 ∧ i = .int .i64 (k : Int) ∧ Hid (AS W m P1 c1 l n P2 c2 l n wr)) (fun _ i _ => n1 - (intOf i).toNat)
  case atStart => exact ⟨0, 0, [], none, 0, none, 0, by omega, rfl, rfl, S0⟩
  case round =>
    clear S0
    obtain ⟨k, n, l, P1, cc1, P2, cc2, hk, rfl, rfl, hS⟩ := hrel
    have hle := hS.out.ar.le
    have i0' : (n : Int) ≤ 1000 := by omega
    by_cases hlt : k < n1
    · obtain ⟨bb, off, rfl, hbb, hcx, hcv⟩ := R1.out.cell hS.out.bel hlt
      generalize kf k = x at *
      generalize vf k = v at *
      have k3 : (k : Int) < (n1 : Int) := by omega
      have k4 : (0 : Int) ≤ (k : Int) := by omega
      go_wp2_with fail
      go_quiet (fail)
      have S1 := Lib.hid (hS.out.drewN nq)
      generalize wr.drewN nq = w1 at *
      clear hS hcx hcv
      by_cases hx : x < 0
      · by_cases hnm : n < m
        · have k5 : ¬ (m : Int) ≤ (n : Int) := by omega
          go_wp2_with fail
          refine (I.add_room v w1 S1.out.ar hm hnm S1.out.bel.size).mono ?_
          rintro e w2 ⟨rfl, g, c2, r2⟩
          have e9 : iV l ++ [.int .i64 v] = iV (l ++ [v]) := iV_snoc l v
          rw [e9] at r2
          have S2 := Lib.hid (S1.out.go r2)
          have hnew := Lib.hid (iV_snoc l v)
          clear r2 S1 e9
          go_wp2_with (at_builtin; go_loud (refine wpList_append_lies _ rfl (.tmp 88) (.tmp 90) 28 rfl W.heap.size 3 i0 _ 1 8 Try.underlying28 hi hz0 hz1 hz2 rfl (by omega) (.slice P2 n cc2) n (iV l) rfl (row_later S2.out.row (below_al w2 _)) ⟨w2.heap.size, 0, none⟩ 1 1 [.int .i64 v] rfl rfl (World.news_of_block (cs := #[.int .i64 v]) (heap_alloc_new w2 _)) (I.one_cell v) (by omega) (by unfold maxLen; omega) (by omega) (by have := S2.out.bel.size; simp; omega) (w2.heap.size + 1) (by simp) ?_; intro g3 cap3 w3 hown hgrow hat hlt1; have S4 := Lib.hid (S2.out.app (below_al w2 _) hown hgrow (hat.imp id (by omega))); clear hown hgrow hat hlt1 S2))
          have S2 := S4
          clear S4
          generalize n + 1 = n at *
          generalize l ++ [v] = l at *
          generalize w3 = w2 at *
          have hle := S2.out.ar.le
          have i1 : (n : Int) ≤ (m : Int) := by omega
          have i2 : (0 : Int) ≤ (n : Int) := by omega
          go_wp2_with fail
          refine (I.len_any w2 S2.out.ar).mono ?_
          rintro e w' ⟨rfl, rfl⟩
          go_wp2_with fail
          refine (I.left_any w2 S2.out.ar hm).mono ?_
          rintro e w' ⟨rfl, q2, rfl⟩
          have S3 := Lib.hid (S2.out.drewN q2)
          generalize w2.drewN q2 = w3 at *
          clear S2
          go_wp2_with fail
          go_loopw [13] (fun j wq => ∃ j' : Nat, j' ≤ n + 1 ∧ j = .int .i64 (j' : Int) ∧ wq = w3) (fun j _ => n + 1 - (intOf j).toNat)
          case atStart => exact ⟨0, by omega, rfl, rfl⟩
          case round =>
            obtain ⟨j, hj, rfl, rfl⟩ := hrel
            have j1 : (0 : Int) ≤ (j : Int) := by omega
            have j2 : (j : Int) ≤ 1001 := by omega
            by_cases hjn : j < n
            · have j3 : (j : Int) < (n : Int) := by omega
              have j4 : (j : Int) ≤ (n : Int) := by omega
              have q1 := iV_at (show j < l.length by rw [S3.out.len1]; exact hjn)
              obtain ⟨g2, hP2, hc2⟩ := row_form S3.out.row (by omega)
              cases hP2
              have q4 := (S3.out.row.cellAt j (by omega)).trans q1
              generalize l.getD j 0 = z at *
              have Q1 := Lib.hid q1
              clear q1
              go_wp2_with fail
              refine (I.get_yes z _ S3.out.ar j hjn Q1.out).mono ?_
              rintro e w' ⟨rfl, rfl⟩
              go_wp2_with fail
              go_roundw
              case rel => exact ⟨j + 1, by omega, by go_num, by first | rfl | trivial⟩
              case measure => simp [intOf]; omega
            by_cases hje : j = n
            · have j3 : ¬ (j : Int) < (n : Int) := by omega
              have j4 : (j : Int) ≤ (n : Int) := by omega
              have j5 : (n : Int) ≤ (j : Int) := by omega
              clear hjn hje
              go_wp2_with fail
              refine (I.get_no _ S3.out.ar (j : Int) (.inr j5)).mono ?_
              rintro e w' ⟨rfl, rfl⟩
              go_wp2_with fail
              go_roundw
              case rel => exact ⟨j + 1, by omega, by go_num, by first | rfl | trivial⟩
              case measure => simp [intOf]; omega
            have j4 : ¬ (j : Int) ≤ (n : Int) := by omega
            clear hjn hje hj
            go_wp2_with fail
            go_roundw
            case rel => exact ⟨k + 1, n, l, _, _, _, _, by omega, rfl, by go_num, S3⟩
            case measure => simp [intOf]; omega
        · have k5 : (m : Int) ≤ (n : Int) := by omega
          go_wp2_with fail
          refine (I.add_full v w1 S1.out.ar hm (by omega)).mono ?_
          rintro e w2 ⟨rfl, r2⟩
          have S2 := Lib.hid (S1.out.later r2)
          clear r2 S1
          have hle := S2.out.ar.le
          have i1 : (n : Int) ≤ (m : Int) := by omega
          have i2 : (0 : Int) ≤ (n : Int) := by omega
          go_wp2_with fail
          refine (I.len_any w2 S2.out.ar).mono ?_
          rintro e w' ⟨rfl, rfl⟩
          go_wp2_with fail
          refine (I.left_any w2 S2.out.ar hm).mono ?_
          rintro e w' ⟨rfl, q2, rfl⟩
          have S3 := Lib.hid (S2.out.drewN q2)
          generalize w2.drewN q2 = w3 at *
          clear S2
          go_wp2_with fail
          go_loopw [13] (fun j wq => ∃ j' : Nat, j' ≤ n + 1 ∧ j = .int .i64 (j' : Int) ∧ wq = w3) (fun j _ => n + 1 - (intOf j).toNat)
          case atStart => exact ⟨0, by omega, rfl, rfl⟩
          case round =>
            obtain ⟨j, hj, rfl, rfl⟩ := hrel
            have j1 : (0 : Int) ≤ (j : Int) := by omega
            have j2 : (j : Int) ≤ 1001 := by omega
            by_cases hjn : j < n
            · have j3 : (j : Int) < (n : Int) := by omega
              have j4 : (j : Int) ≤ (n : Int) := by omega
              have q1 := iV_at (show j < l.length by rw [S3.out.len1]; exact hjn)
              obtain ⟨g2, hP2, hc2⟩ := row_form S3.out.row (by omega)
              cases hP2
              have q4 := (S3.out.row.cellAt j (by omega)).trans q1
              generalize l.getD j 0 = z at *
              have Q1 := Lib.hid q1
              clear q1
              go_wp2_with fail
              refine (I.get_yes z _ S3.out.ar j hjn Q1.out).mono ?_
              rintro e w' ⟨rfl, rfl⟩
              go_wp2_with fail
              go_roundw
              case rel => exact ⟨j + 1, by omega, by go_num, by first | rfl | trivial⟩
              case measure => simp [intOf]; omega
            by_cases hje : j = n
            · have j3 : ¬ (j : Int) < (n : Int) := by omega
              have j4 : (j : Int) ≤ (n : Int) := by omega
              have j5 : (n : Int) ≤ (j : Int) := by omega
              clear hjn hje
              go_wp2_with fail
              refine (I.get_no _ S3.out.ar (j : Int) (.inr j5)).mono ?_
              rintro e w' ⟨rfl, rfl⟩
              go_wp2_with fail
              go_roundw
              case rel => exact ⟨j + 1, by omega, by go_num, by first | rfl | trivial⟩
              case measure => simp [intOf]; omega
            have j4 : ¬ (j : Int) ≤ (n : Int) := by omega
            clear hjn hje hj
            go_wp2_with fail
            go_roundw
            case rel => exact ⟨k + 1, n, l, _, _, _, _, by omega, rfl, by go_num, S3⟩
            case measure => simp [intOf]; omega
      · obtain ⟨y, rfl⟩ := Int.eq_ofNat_of_zero_le (show 0 ≤ x by omega)
        by_cases hyn : y < n
        · have k5 : (y : Int) < (n : Int) := by omega
          have hyl : y < l.length := by rw [S1.out.len1]; exact hyn
          go_wp2_with fail
          refine (I.set_yes v (l.getD y 0) w1 S1.out.ar y hyn (iV_at hyl)).mono ?_
          rintro e w2 ⟨rfl, r2⟩
          rw [iV_set] at r2
          have S2 := Lib.hid (S1.out.go r2)
          clear r2 S1
          obtain ⟨g2, hP2, hc2⟩ := row_form S2.out.row (by omega)
          cases hP2
          have q4 := (S2.out.row.cellAt y (by omega)).trans (iV_at hyl)
          have q5 := S2.out.row.frozenAt y
          have S4 := Lib.hid (S2.out.set (j := y) v)
          clear S2
          go_wp2_with fail
          have S2 := S4
          clear S4 q4 q5
          generalize w2.setCell ⟨g2, y, none⟩ (.int .i64 v) = w2 at *
          generalize l.set y v = l at *
          have hle := S2.out.ar.le
          have i1 : (n : Int) ≤ (m : Int) := by omega
          have i2 : (0 : Int) ≤ (n : Int) := by omega
          go_wp2_with fail
          refine (I.len_any w2 S2.out.ar).mono ?_
          rintro e w' ⟨rfl, rfl⟩
          go_wp2_with fail
          refine (I.left_any w2 S2.out.ar hm).mono ?_
          rintro e w' ⟨rfl, q2, rfl⟩
          have S3 := Lib.hid (S2.out.drewN q2)
          generalize w2.drewN q2 = w3 at *
          clear S2
          go_wp2_with fail
          go_loopw [13] (fun j wq => ∃ j' : Nat, j' ≤ n + 1 ∧ j = .int .i64 (j' : Int) ∧ wq = w3) (fun j _ => n + 1 - (intOf j).toNat)
          case atStart => exact ⟨0, by omega, rfl, rfl⟩
          case round =>
            obtain ⟨j, hj, rfl, rfl⟩ := hrel
            have j1 : (0 : Int) ≤ (j : Int) := by omega
            have j2 : (j : Int) ≤ 1001 := by omega
            by_cases hjn : j < n
            · have j3 : (j : Int) < (n : Int) := by omega
              have j4 : (j : Int) ≤ (n : Int) := by omega
              have q1 := iV_at (show j < l.length by rw [S3.out.len1]; exact hjn)
              obtain ⟨g2, hP2, hc2⟩ := row_form S3.out.row (by omega)
              cases hP2
              have q4 := (S3.out.row.cellAt j (by omega)).trans q1
              generalize l.getD j 0 = z at *
              have Q1 := Lib.hid q1
              clear q1
              go_wp2_with fail
              refine (I.get_yes z _ S3.out.ar j hjn Q1.out).mono ?_
              rintro e w' ⟨rfl, rfl⟩
              go_wp2_with fail
              go_roundw
              case rel => exact ⟨j + 1, by omega, by go_num, by first | rfl | trivial⟩
              case measure => simp [intOf]; omega
            by_cases hje : j = n
            · have j3 : ¬ (j : Int) < (n : Int) := by omega
              have j4 : (j : Int) ≤ (n : Int) := by omega
              have j5 : (n : Int) ≤ (j : Int) := by omega
              clear hjn hje
              go_wp2_with fail
              refine (I.get_no _ S3.out.ar (j : Int) (.inr j5)).mono ?_
              rintro e w' ⟨rfl, rfl⟩
              go_wp2_with fail
              go_roundw
              case rel => exact ⟨j + 1, by omega, by go_num, by first | rfl | trivial⟩
              case measure => simp [intOf]; omega
            have j4 : ¬ (j : Int) ≤ (n : Int) := by omega
            clear hjn hje hj
            go_wp2_with fail
            go_roundw
            case rel => exact ⟨k + 1, n, l, _, _, _, _, by omega, rfl, by go_num, S3⟩
            case measure => simp [intOf]; omega
        · have k5 : ¬ (y : Int) < (n : Int) := by omega
          have k6 : (n : Int) ≤ (y : Int) := by omega
          go_wp2_with fail
          refine (I.set_no v w1 S1.out.ar (y : Int) (.inr k6)).mono ?_
          rintro e w2 ⟨rfl, rfl⟩
          have S2 := Lib.hid S1.out
          clear S1
          generalize w1 = w2 at *
          have hle := S2.out.ar.le
          have i1 : (n : Int) ≤ (m : Int) := by omega
          have i2 : (0 : Int) ≤ (n : Int) := by omega
          go_wp2_with fail
          refine (I.len_any w2 S2.out.ar).mono ?_
          rintro e w' ⟨rfl, rfl⟩
          go_wp2_with fail
          refine (I.left_any w2 S2.out.ar hm).mono ?_
          rintro e w' ⟨rfl, q2, rfl⟩
          have S3 := Lib.hid (S2.out.drewN q2)
          generalize w2.drewN q2 = w3 at *
          clear S2
          go_wp2_with fail
          go_loopw [13] (fun j wq => ∃ j' : Nat, j' ≤ n + 1 ∧ j = .int .i64 (j' : Int) ∧ wq = w3) (fun j _ => n + 1 - (intOf j).toNat)
          case atStart => exact ⟨0, by omega, rfl, rfl⟩
          case round =>
            obtain ⟨j, hj, rfl, rfl⟩ := hrel
            have j1 : (0 : Int) ≤ (j : Int) := by omega
            have j2 : (j : Int) ≤ 1001 := by omega
            by_cases hjn : j < n
            · have j3 : (j : Int) < (n : Int) := by omega
              have j4 : (j : Int) ≤ (n : Int) := by omega
              have q1 := iV_at (show j < l.length by rw [S3.out.len1]; exact hjn)
              obtain ⟨g2, hP2, hc2⟩ := row_form S3.out.row (by omega)
              cases hP2
              have q4 := (S3.out.row.cellAt j (by omega)).trans q1
              generalize l.getD j 0 = z at *
              have Q1 := Lib.hid q1
              clear q1
              go_wp2_with fail
              refine (I.get_yes z _ S3.out.ar j hjn Q1.out).mono ?_
              rintro e w' ⟨rfl, rfl⟩
              go_wp2_with fail
              go_roundw
              case rel => exact ⟨j + 1, by omega, by go_num, by first | rfl | trivial⟩
              case measure => simp [intOf]; omega
            by_cases hje : j = n
            · have j3 : ¬ (j : Int) < (n : Int) := by omega
              have j4 : (j : Int) ≤ (n : Int) := by omega
              have j5 : (n : Int) ≤ (j : Int) := by omega
              clear hjn hje
              go_wp2_with fail
              refine (I.get_no _ S3.out.ar (j : Int) (.inr j5)).mono ?_
              rintro e w' ⟨rfl, rfl⟩
              go_wp2_with fail
              go_roundw
              case rel => exact ⟨j + 1, by omega, by go_num, by first | rfl | trivial⟩
              case measure => simp [intOf]; omega
            have j4 : ¬ (j : Int) ≤ (n : Int) := by omega
            clear hjn hje hj
            go_wp2_with fail
            go_roundw
            case rel => exact ⟨k + 1, n, l, _, _, _, _, by omega, rfl, by go_num, S3⟩
            case measure => simp [intOf]; omega
    · have k3 : ¬ (k : Int) < (n1 : Int) := by omega
      go_wp2_with fail
      refine (awake_any wr).mono ?_
      rintro e w4 ⟨rfl, hb⟩
      have HB := Lib.hid (hS.out.later hb)
      clear hb
      go_wp2_with fail
      go_ret
      exact ⟨rfl, HB.out.bel⟩
theorem acts_walk (most : Int) (A1 : Option Addr) (n1 c1 : Nat) (kf vf : Nat → Int) (W : World) (h1 : RdP W A1 n1 kf vf) : Calls Try.prog 3 #[.int .i64 most, .slice A1 n1 c1] W (BoolR true W) := by
  by_cases h : 80 < n1 ∨ most < 1 ∨ 1000 < most
  · exact acts_out most A1 n1 c1 W h
  · obtain ⟨m, rfl⟩ := Int.eq_ofNat_of_zero_le (show 0 ≤ most by omega)
    exact acts_in m A1 n1 c1 kf vf W h1 (by omega) (by omega) (by omega)
end Go.Proofs.Ytfmjnhiipcocnaa
