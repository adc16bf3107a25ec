/- The walk of WaitRows. Condition: the list reads as it came. -/
import Derived.Test.YtdmdmaolbbjboaaRws
namespace Go.Proofs.Ytdmdmaolbbjboaa
open Go.RowKit
set_option linter.unusedVariables false

set_option maxRecDepth 100000 in
set_option maxHeartbeats 4000000 in
theorem rows_in (n : Nat) (A1 : Option Addr) (n1 c1 : Nat) (l1 : List Int) (W : World) (h1 : Rn W W.heap.size A1 n1 l1) (hn : n ≤ 60) (hn1 : n1 ≤ 60) : Calls Try.prog 4 #[.int .i64 n, .slice A1 n1 c1] W (BoolR true W) := by
  have b1 : (n : Int) ≤ 60 := by omega
  have b2 : 0 ≤ (n : Int) := by omega
  have b3 : (n1 : Int) ≤ 60 := by omega
  have R1 := Lib.hid h1
  clear h1
  go_enter Try.func4, Try.ntmps4
  go_wp2_with fail
  refine (new_any W).mono ?_
  rintro e w1 q1
  obtain rfl := q1.1
  have S1 : Hid (ST W ((List.range 0).map mkw) w1) := ST.start q1
  clear q1
  go_wp2_with fail
  go_loopw [6] (fun i wr => ∃ k : Nat, k ≤ n ∧ i = .int .i64 k ∧ Hid (ST W ((List.range k).map mkw) wr)) (fun i _ => n - (intOf i).toNat)
  case atStart => exact ⟨0, by omega, rfl, S1⟩
  case round =>
    clear S1
    obtain ⟨k, hk, rfl, hS⟩ := hrel
    by_cases hlt : k < n
    · have k1 : (k : Int) < (n : Int) := by omega
      have k2 : (k : Int) ≤ 60 := by omega
      go_wp2_with fail
      refine (push_any (mkw k) hS.out.ql (by simp; omega)).mono ?_
      rintro e w2 ⟨rfl, q2, f2⟩
      have S2 : Hid (ST W ((List.range (k + 1)).map mkw) w2) := by
        have := hS.out.go f2 q2
        rw [List.range_succ, List.map_append]; exact this
      clear q2 f2 hS
      go_wp2_with fail
      go_roundw
      case rel => exact ⟨k + 1, by omega, by go_num, S2⟩
      case measure => simp [intOf]; omega
    · obtain rfl : k = n := by omega
      have hmk := mk_b wr (k + 1) (by omega)
      rw [show ((k + 1 : Nat) : Int) = (k : Int) + 1 from by omega] at hmk
      have HR : Hid (RwS W wr.heap.size k (List.replicate (k + 1) false) 0 (wr.alloc (.cells (gA (List.replicate (k + 1) false)) 4))) :=
        ⟨by have h9 := hS.out.later (below_al wr (.cells (gA (List.replicate (k + 1) false)) 4)); rw [← lefts_start] at h9; exact h9, heap_alloc_new _ _, by simp, hS.out.bel.size⟩
      clear hS
      go_wp2_with fail
      clear hmk
      generalize wr.alloc (.cells (gA (List.replicate (k + 1) false)) 4) = w3 at *
      generalize wr.heap.size = G at *
      go_loopw [8] (fun i wx => ∃ (j : Nat) (gs : List Bool), j ≤ n1 ∧ i = .int .i64 j ∧ Hid (RwS W G k gs 0 wx)) (fun i _ => n1 - (intOf i).toNat)
      case atStart => exact ⟨0, _, by omega, rfl, HR⟩
      case round =>
        clear HR
        obtain ⟨j, gs, hj, rfl, hS⟩ := hrel
        by_cases hjl : j < n1
        · have k1 : (j : Int) < (n1 : Int) := by omega
          obtain ⟨bb, off, x, rfl, _, _, hc⟩ := R1.out.cell hS.out.st.bel hjl
          go_wp2_with fail
          refine (round_any x ((k : Int) + 1) _ (by omega) (by omega)).mono ?_
          rintro e w' ⟨rfl, rfl⟩
          obtain ⟨p, hp⟩ : ∃ p : Nat, x % ((k : Int) + 1) = (p : Int) := ⟨(x % ((k : Int) + 1)).toNat, by have := Int.emod_nonneg x (b := (k : Int) + 1) (by omega); omega⟩
          have hpk : p ≤ k := by have := Int.emod_lt_of_pos x (b := (k : Int) + 1) (by omega); omega
          rw [hp]
          clear hp hc
          have hcg := hS.out.cell p hpk
          have p1 : (p : Int) < (k : Int) + 1 := by omega
          have p2 : (0 : Int) ≤ (p : Int) := by omega
          by_cases d1 : p = k
          · subst d1
            have hct : Hid (((lefts gs 0 (p - 0)).map mkw).countP (isT (p : Int)) = 0) := by show _ = _; rw [Nat.sub_zero, lefts_ct, if_neg (by omega)]
            clear hcg
            go_wp2_with fail
            refine (remove_any (p : Int) hS.out.st.ql (by have := lefts_le gs 0 (p - 0); rw [List.length_map]; omega)).mono ?_
            rintro e w4 ⟨rfl, q4, f4⟩
            obtain ⟨m4, g4⟩ := hS.out.mark (Nat.le_refl p) f4 q4
            have c4 := gA_at gs p (by rw [hS.out.gl]; omega)
            rw [← cell_of_row w4 G p _ _ _ g4] at c4
            have f4' := frozen_of_row w4 G p _ _ g4
            have S4 := Lib.hid m4
            clear q4 f4 g4 m4 hS
            rw [hct.out]
            go_wp2_with fail
            go_roundw
            case rel => exact ⟨j + 1, _, by omega, by go_num, S4⟩
            case measure => simp [intOf]; omega
          · have d1' : ((p : Int) == (k : Int)) = false := by simp; omega
            cases hg : gone gs p with
            | true =>
              rw [hg] at hcg
              have hct : Hid (((lefts gs 0 (k - 0)).map mkw).countP (isT (p : Int)) = 0) := by show _ = _; rw [Nat.sub_zero, lefts_ct, if_neg (by rw [hg]; simp)]
              clear hg
              go_wp2_with fail
              refine (remove_any (p : Int) hS.out.st.ql (by have := lefts_le gs 0 (k - 0); rw [List.length_map]; omega)).mono ?_
              rintro e w4 ⟨rfl, q4, f4⟩
              obtain ⟨m4, g4⟩ := hS.out.mark hpk f4 q4
              have c4 := gA_at gs p (by rw [hS.out.gl]; omega)
              rw [← cell_of_row w4 G p _ _ _ g4] at c4
              have f4' := frozen_of_row w4 G p _ _ g4
              have S4 := Lib.hid m4
              clear q4 f4 g4 m4 hS
              rw [hct.out]
              go_wp2_with fail
              go_roundw
              case rel => exact ⟨j + 1, _, by omega, by go_num, S4⟩
              case measure => simp [intOf]; omega
            | false =>
              rw [hg] at hcg
              have hct : Hid (((lefts gs 0 (k - 0)).map mkw).countP (isT (p : Int)) = 1) := by show _ = _; rw [Nat.sub_zero, lefts_ct, if_pos ⟨by omega, hg⟩]
              clear hg
              go_wp2_with fail
              refine (remove_any (p : Int) hS.out.st.ql (by have := lefts_le gs 0 (k - 0); rw [List.length_map]; omega)).mono ?_
              rintro e w4 ⟨rfl, q4, f4⟩
              obtain ⟨m4, g4⟩ := hS.out.mark hpk f4 q4
              have c4 := gA_at gs p (by rw [hS.out.gl]; omega)
              rw [← cell_of_row w4 G p _ _ _ g4] at c4
              have f4' := frozen_of_row w4 G p _ _ g4
              have S4 := Lib.hid m4
              clear q4 f4 g4 m4 hS
              rw [hct.out]
              go_wp2_with fail
              go_roundw
              case rel => exact ⟨j + 1, _, by omega, by go_num, S4⟩
              case measure => simp [intOf]; omega
        · obtain rfl : j = n1 := by omega
          go_wp2_with fail
          go_loopw [11] (fun i wz => ∃ m : Nat, m ≤ k ∧ i = .int .i64 m ∧ Hid (RwS W G k gs m wz)) (fun i _ => k - (intOf i).toNat)
          case atStart => exact ⟨0, by omega, rfl, hS⟩
          case round =>
            clear hS
            obtain ⟨m, hm, rfl, hS⟩ := hrel
            by_cases hml : m < k
            · have k1 : (m : Int) < (k : Int) := by omega
              have k2 : (0 : Int) ≤ (m : Int) := by omega
              have k3 : (m : Int) ≤ 60 := by omega
              have k4 : (m : Int) < (k : Int) + 1 := by omega
              have hcg := hS.out.cell m (by omega)
              obtain ⟨r, hr⟩ : ∃ r, k - m = r + 1 := ⟨k - m - 1, by omega⟩
              have hr2 : k - (m + 1) = r := by omega
              cases hg : gone gs m with
              | true =>
                rw [hg] at hcg
                have S4 : Hid (RwS W G k gs (m + 1) wr) := ⟨by have h9 := hS.out.st; rw [hr, lefts_out hg, ← hr2] at h9; exact h9, hS.out.gh, hS.out.gl, hS.out.gW⟩
                clear hg hr hr2 hS
                go_wp2_with fail
                go_roundw
                case rel => exact ⟨m + 1, by omega, by go_num, S4⟩
                case measure => simp [intOf]; omega
              | false =>
                rw [hg] at hcg
                have hq : QL wr W.heap.size W.heap.size (mkw m :: (lefts gs (m + 1) r).map mkw) := by have h9 := hS.out.st.ql; rw [hr, lefts_in hg, List.map_cons] at h9; exact h9
                have HQ := Lib.hid hq
                have HR2 := Lib.hid hr2
                have hle := lefts_le gs (m + 1) r
                have hr60 : r ≤ 60 := by omega
                clear hg hr hr2 hq
                go_wp2_with fail
                refine (pop_some HQ.out (by rw [List.length_map]; omega)).mono ?_
                rintro e w4 ⟨rfl, q4, f4⟩
                have S4 : Hid (RwS W G k gs (m + 1) w4) := hS.out.go f4 (by rw [HR2.out]; exact q4)
                clear q4 f4 hS HQ HR2 hcg
                unfold wG mkw
                go_wp2_with fail
                have S5 := Lib.hid (S4.out.later (below_al _ (.cells #[.int .i64 m, .int .i64 0, .int .i64 (10 * (m : Int))] 28)))
                go_roundw
                case rel => exact ⟨m + 1, by omega, by go_num, S5⟩
                case measure => simp [intOf]; omega
            · obtain rfl : m = k := by omega
              have hq : QL wr W.heap.size W.heap.size [] := by have h9 := hS.out.st.ql; rw [Nat.sub_self] at h9; exact h9
              have HQ := Lib.hid hq
              clear hq
              go_wp2_with fail
              refine (len_any HQ.out).mono ?_
              rintro e w' ⟨rfl, rfl⟩
              go_wp2_with fail
              refine (awake_any wr).mono ?_
              rintro e w5 ⟨rfl, hb⟩
              have HB := Lib.hid (hS.out.st.later hb)
              clear hb hS HQ
              go_wp2_with fail
              go_ret
              exact ⟨rfl, HB.out.bel⟩

theorem rows_out (n : Int) (A1 : Option Addr) (n1 c1 : Nat) (W : World) (h : n < 0 ∨ 60 < n ∨ 60 < n1) : Calls Try.prog 4 #[.int .i64 n, .slice A1 n1 c1] W (BoolR true W) := by
  by_cases d1 : n < 0
  · clear h
    go_enter Try.func4, Try.ntmps4
    go_wp2_with fail
    refine (awake_any W).mono ?_
    rintro e w' ⟨rfl, hb⟩
    have HB := Lib.hid hb
    clear hb
    go_wp2_with fail
    go_ret
    exact ⟨rfl, HB.out⟩
  by_cases d2 : 60 < n
  · clear h
    go_enter Try.func4, Try.ntmps4
    go_wp2_with fail
    refine (awake_any W).mono ?_
    rintro e w' ⟨rfl, hb⟩
    have HB := Lib.hid hb
    clear hb
    go_wp2_with fail
    go_ret
    exact ⟨rfl, HB.out⟩
  · have d3 : (60 : Int) < (n1 : Int) := by omega
    clear h
    go_enter Try.func4, Try.ntmps4
    go_wp2_with fail
    refine (awake_any W).mono ?_
    rintro e w' ⟨rfl, hb⟩
    have HB := Lib.hid hb
    clear hb
    go_wp2_with fail
    go_ret
    exact ⟨rfl, HB.out⟩
theorem rows_walk (n : Int) (A1 : Option Addr) (n1 c1 : Nat) (l1 : List Int) (W : World) (h1 : Rn W W.heap.size A1 n1 l1) : Calls Try.prog 4 #[.int .i64 n, .slice A1 n1 c1] W (BoolR true W) := by
  by_cases h : n < 0 ∨ 60 < n ∨ 60 < n1
  · exact rows_out n A1 n1 c1 W h
  · obtain ⟨m, rfl⟩ := Int.eq_ofNat_of_zero_le (show 0 ≤ n by omega)
    exact rows_in m A1 n1 c1 l1 W h1 (by omega) (by omega)
end Go.Proofs.Ytdmdmaolbbjboaa
