/- The walk of RingClears. Conditions: both slices read as they came. -/
import Derived.Test.YtmjogkjdjhhilaaTwo
import Derived.Deep.RegionHeld3
import Derived.Deep.CutRange
import Derived.Deep.DeepCutAuto
namespace Go.Proofs.Ytmjogkjdjhhilaa
open Go.RowKit
set_option linter.unusedVariables false

set_option maxRecDepth 100000 in
set_option maxHeartbeats 1000000 in
theorem clears_out (size : Int) (A1 A2 : Option Addr) (n1 c1 n2 c2 : Nat) (W : World) (h : size < 0 ∨ 64 < size ∨ 80 < n1 ∨ 80 < n2) :
    Calls Try.prog 5 #[.int .i64 size, .slice A1 n1 c1, .slice A2 n2 c2] W (BoolR true W) := by
  by_cases d1 : size < 0
  · go_enter Try.func5, Try.ntmps5
    go_wp2_with fail
    refine (awake_any W).mono ?_
    rintro e w' ⟨rfl, hb⟩
    have HB := Lib.hid hb
    clear hb
    go_wp2_with fail
    go_ret
    exact ⟨rfl, HB.out⟩
  by_cases d2 : 64 < size
  · go_enter Try.func5, Try.ntmps5
    go_wp2_with fail
    refine (awake_any W).mono ?_
    rintro e w' ⟨rfl, hb⟩
    have HB := Lib.hid hb
    clear hb
    go_wp2_with fail
    go_ret
    exact ⟨rfl, HB.out⟩
  by_cases d3 : (80 : Int) < (n1 : Int)
  · go_enter Try.func5, Try.ntmps5
    go_wp2_with fail
    refine (awake_any W).mono ?_
    rintro e w' ⟨rfl, hb⟩
    have HB := Lib.hid hb
    clear hb
    go_wp2_with fail
    go_ret
    exact ⟨rfl, HB.out⟩
  have d4 : (80 : Int) < (n2 : Int) := by omega
  clear h
  go_enter Try.func5, Try.ntmps5
  go_wp2_with fail
  refine (awake_any W).mono ?_
  rintro e w' ⟨rfl, hb⟩
  have HB := Lib.hid hb
  clear hb
  go_wp2_with fail
  go_ret
  exact ⟨rfl, HB.out⟩

set_option maxRecDepth 100000 in
set_option maxHeartbeats 2000000 in
theorem clears_in (sz : Nat) (A1 A2 : Option Addr) (n1 c1 n2 c2 : Nat) (l1 l2 : List Int) (W : World) (h1 : Rn W W.heap.size A1 n1 l1) (h2 : Rn W W.heap.size A2 n2 l2) (hz : sz ≤ 64) (hn1 : n1 ≤ 80) (hn2 : n2 ≤ 80) :
    Calls Try.prog 5 #[.int .i64 sz, .slice A1 n1 c1, .slice A2 n2 c2] W (BoolR true W) := by
  have b1 : (sz : Int) ≤ 64 := by omega
  have b2 : (n1 : Int) ≤ 80 := by omega
  have b3 : (n2 : Int) ≤ 80 := by omega
  have R1 := Lib.hid h1
  have R2 := Lib.hid h2
  clear h1 h2
  go_enter Try.func5, Try.ntmps5
  go_wp2_with fail
  refine (new_yes sz W hz).mono ?_
  rintro e w1 q1
  obtain rfl := q1.1
  have hs1 := q1.2.2.2
  have Q1 := Lib.hid q1
  have HS1 := Lib.hid hs1
  clear q1 hs1
  go_wp2_with fail
  refine (new_yes sz w1 hz).mono ?_
  rintro e w2 q2
  obtain rfl := q2.1
  have T0 := Lib.hid (S2.start Q1.out q2)
  have HQ : Hid (w1.heap.size + 1 = W.heap.size + 3) := by show _ = _; rw [HS1.out]
  rw [HQ.out]
  clear q2 Q1 HS1 HQ
  go_wp2_with fail
  go_loopw [11, 12] (fun nn i wr => ∃ (k : Nat) (la : List Int), k ≤ n1 ∧ nn = .int .i64 la.length ∧ i = .int .i64 k ∧ Hid (S2 W (W.heap.size + 1) W.heap.size (W.heap.size + 3) (W.heap.size + 2) sz la [] wr)) (fun _ i _ => n1 - (intOf i).toNat)
  case atStart => exact ⟨0, [], by omega, rfl, rfl, T0⟩
  case round =>
    obtain ⟨k, la, hk, rfl, rfl, hS⟩ := hrel
    by_cases hlt : k < n1
    · obtain ⟨bb, off, x, rfl, _, _, hc⟩ := R1.out.cell hS.out.bel hlt
      have hll : la.length ≤ 64 := by have := hS.out.ra.le; omega
      have hl1 : (la.length : Int) ≤ 64 := by omega
      by_cases he : x.tmod 2 = 0
      · by_cases hf : la.length < sz
        · go_wp2_with fail
          refine (push_room x wr hS.out.ra hz hf).mono ?_
          rintro e w3 ⟨rfl, r3, o3⟩
          have T3 := Lib.hid (hS.out.goA r3 o3)
          clear r3 o3 hS
          go_wp2_with fail
          go_roundw
          case rel => exact ⟨k + 1, la ++ [x], by omega, by rw [List.length_append]; go_num, by go_num, T3⟩
          case measure => simp [intOf]; omega
        · go_wp2_with fail
          refine (push_full x wr hS.out.ra (by have := hS.out.ra.le; omega)).mono ?_
          rintro e w3 ⟨rfl, r3, o3⟩
          have T3 := Lib.hid (hS.out.goA r3 o3)
          clear r3 o3 hS
          go_wp2_with fail
          go_roundw
          case rel => exact ⟨k + 1, la, by omega, rfl, by go_num, T3⟩
          case measure => simp [intOf]; omega
      · cases la with
        | nil =>
          go_wp2_with fail
          refine (pop_none wr hS.out.ra).mono ?_
          rintro e w3 ⟨rfl, r3, o3⟩
          have T3 := Lib.hid (hS.out.goA r3 o3)
          clear r3 o3 hS
          go_wp2_with fail
          go_roundw
          case rel => exact ⟨k + 1, [], by omega, rfl, by go_num, T3⟩
          case measure => simp [intOf]; omega
        | cons y la =>
          have hl2 : la.length ≤ 63 := by simpa using hll
          rw [show ((y :: la).length : Int) = (la.length : Int) + 1 by simp]
          clear hll hl1
          go_wp2_with fail
          refine (pop_some wr hS.out.ra hz).mono ?_
          rintro e w3 ⟨rfl, r3, o3⟩
          have T3 := Lib.hid (hS.out.goA r3 o3)
          clear r3 o3 hS
          go_wp2_with fail
          go_roundw
          case rel => exact ⟨k + 1, la, by omega, by go_num, by go_num, T3⟩
          case measure => simp [intOf]; omega
    · obtain rfl : k = n1 := by omega
      clear hlt
      go_wp2_with fail
      refine (clear_any wr hS.out.ra).mono ?_
      rintro e w3 ⟨rfl, r3, o3⟩
      have T3 := Lib.hid (hS.out.goA r3 o3)
      clear r3 o3 hS
      go_wp2_with fail
      refine (clear_any w3 T3.out.ra).mono ?_
      rintro e w4 ⟨rfl, r4, o4⟩
      have T4 := Lib.hid (T3.out.goA r4 o4)
      clear r4 o4 T3
      go_wp2_with fail
      refine (len_any w4 T4.out.ra).mono ?_
      rintro e w' ⟨rfl, rfl⟩
      go_wp2_with fail
      refine (all_any w4 T4.out.ra hz).mono ?_
      rintro e w5 ⟨A, c, rfl, _, hb5⟩
      have T5 := Lib.hid (T4.out.later hb5)
      clear hb5 T4
      go_wp2_with fail
      go_loopw [15] (fun i wr => ∃ (k : Nat) (la : List Int), k ≤ n2 ∧ i = .int .i64 k ∧ Hid (S2 W (W.heap.size + 1) W.heap.size (W.heap.size + 3) (W.heap.size + 2) sz la la wr)) (fun i _ => n2 - (intOf i).toNat)
      case atStart => exact ⟨0, [], by omega, rfl, T5⟩
      case round =>
        clear T5
        obtain ⟨k, la, hk, rfl, hS⟩ := hrel
        by_cases hlt : k < n2
        · obtain ⟨bb, off, x, rfl, hbb, _, hc⟩ := R2.out.cell hS.out.bel hlt
          have KP : Hid (∀ w' : World, Below W.heap.size W w' → w'.cell? ⟨bb, off + k, none⟩ = some (.int .i64 x) ∧ Hid (Below W.heap.size W w')) :=
            fun w' hb => ⟨by rw [cell_blk (hb.block bb hbb), ← cell_blk (hS.out.bel.block bb hbb)]; exact hc, hb⟩
          obtain ⟨t, ht⟩ : ∃ t, Hid (t = decide (la.length < sz)) := ⟨_, rfl⟩
          go_wp2_with fail
          have HV0 : Hid (S2 W (W.heap.size + 1) W.heap.size (W.heap.size + 3) (W.heap.size + 2) sz la la wr.drew) := hS.out.drew
          clear hc hbb
          go_cut [123] (fun s123 wx => s123 = .bool false ∧ Hid (S2 W (W.heap.size + 1) W.heap.size (W.heap.size + 3) (W.heap.size + 2) sz (psh sz la x) (psh sz la x) wx))
          case first =>
            go_region_held3 (fun w' => w'.cell? ⟨bb, off + k, none⟩ = some (.int .i64 x) ∧ Hid (Below W.heap.size W w'))
              (first
                | exact KP.out _ HV0.out.bel
                | exact KP.out _ HV1.out.bel
                | exact KP.out _ HV2.out.bel)
              (first
                | (go_at_call 11; (with_reducible refine (push_any x _ t ht HV0.out.ra hz).mono ?_); rintro e v1 ⟨rfl, r1, o1⟩; have HV1 := Lib.hid (HV0.out.goA r1 o1); clear r1 o1)
                | (go_at_call 11; (with_reducible refine (push_any x _ t ht HV1.out.rb hz).mono ?_); rintro e v2 ⟨rfl, r2, o2⟩; have HV2 := Lib.hid (HV1.out.goB r2 o2); clear r2 o2))
            all_goals (go_wp2_with fail)
            all_goals go_meet
            all_goals exact ⟨rfl, HV2⟩
          case rest =>
            obtain ⟨rfl, hSx⟩ := hcut
            clear HV0 KP hS
            go_wp2_with fail
            go_roundw
            case rel => exact ⟨k + 1, psh sz la x, by omega, by go_num, hSx⟩
            case measure => simp [intOf]; omega
        · obtain rfl : k = n2 := by omega
          have hll : la.length ≤ 64 := by have := hS.out.ra.le; omega
          go_wp2_with fail
          refine (all_any wr hS.out.ra hz).mono ?_
          rintro e wa ⟨Aa, ca, rfl, ra, hba⟩
          have Ta := Lib.hid (hS.out.later hba)
          have RA := Lib.hid ra
          clear hba ra hS
          go_wp2_with fail
          refine (all_any wa Ta.out.rb hz).mono ?_
          rintro e wb ⟨Ab, cb, rfl, rb, hbb⟩
          have Tb := Lib.hid (Ta.out.later hbb)
          have RB := Lib.hid rb
          have RA2 := Lib.hid (RA.out.later hbb)
          clear hbb rb Ta RA
          go_wp2_with fail
          refine (ints_eq RA2.out RB.out (by omega)).mono ?_
          rintro e w' ⟨rfl, q8, rfl⟩
          have T8 : Hid (Below W.heap.size W (wb.drewN q8)) := ⟨Tb.out.bel.os, Tb.out.bel.tape, Tb.out.bel.output, Tb.out.bel.size, Tb.out.bel.block⟩
          generalize wb.drewN q8 = w8 at *
          clear Tb RA2 RB
          go_wp2_with fail
          refine (awake_any w8).mono ?_
          rintro e w9 ⟨rfl, hb9⟩
          have T9 := Lib.hid (T8.out.trans (hb9.mono T8.out.size))
          clear hb9 T8
          go_wp2_with fail
          go_ret
          exact ⟨rfl, T9.out⟩
theorem clears_walk (size : Int) (A1 A2 : Option Addr) (n1 c1 n2 c2 : Nat) (l1 l2 : List Int) (W : World) (h1 : Rn W W.heap.size A1 n1 l1) (h2 : Rn W W.heap.size A2 n2 l2) :
    Calls Try.prog 5 #[.int .i64 size, .slice A1 n1 c1, .slice A2 n2 c2] W (BoolR true W) := by
  by_cases h : size < 0 ∨ 64 < size ∨ 80 < n1 ∨ 80 < n2
  · exact clears_out size A1 A2 n1 c1 n2 c2 W h
  · obtain ⟨sz, rfl⟩ := Int.eq_ofNat_of_zero_le (show 0 ≤ size by omega)
    exact clears_in sz A1 A2 n1 c1 n2 c2 l1 l2 W h1 h2 (by omega) (by omega) (by omega)
end Go.Proofs.Ytmjogkjdjhhilaa
