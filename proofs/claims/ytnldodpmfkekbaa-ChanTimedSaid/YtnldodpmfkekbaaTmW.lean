/- The walk of ChanTimed. Condition: the slice that came in reads as l. -/
import Derived.Test.YtnldodpmfkekbaaSgW
import Derived.Test.YtnldodpmfkekbaaOpn
namespace Go.Proofs.Ytnldodpmfkekbaa
open Go.RowKit
set_option linter.unusedVariables false

def hvl : Bool → Int → List Int
  | true, v => [v]
  | false, _ => []
def TM (W : World) (c k : Nat) (has : Bool) (v : Int) (m : Nat) (w : World) : Prop := ∃ rs : List Wt, rs.length = m ∧ m ≤ k ∧ MS W [(c, ⟨1, false, 1, hvl has v, [], rs⟩)] w
theorem can_has (has : Bool) (v : Int) (rs : List Wt) : can ⟨1, false, 1, hvl has v, [], rs⟩ false = has := by cases has <;> rfl
theorem can_not (l : List Int) (rs : List Wt) : can ⟨1, false, 1, l, [], rs⟩ true = false := rfl
theorem drop_has (has : Bool) (v : Int) : decide (0 < (hvl has v).length) = has := by cases has <;> rfl
set_option maxRecDepth 100000 in
set_option maxHeartbeats 8000000 in
theorem timed_in (A : Option Addr) (n cap : Nat) (l : List Int) (W : World) (hA : IsN W A n cap l) (hn : n ≤ 60) : Calls Try.prog 6 #[.slice A n cap] W (BoolR true W) := by
  have b1 : (n : Int) ≤ 60 := by omega
  have b2 : 0 ≤ (n : Int) := by omega
  have HA := Lib.hid hA
  have HLN := Lib.hid hA.2.2.1
  clear hA
  go_enter Try.func6, Try.ntmps6
  go_wp2_with fail
  refine (ms_timed (MS.nil W)).mono ?_
  rintro e w1 ⟨c, rfl, s1, _⟩
  have S1 : Hid (TM W c 0 false 0 0 w1) := ⟨[], rfl, Nat.le_refl _, s1⟩
  clear s1
  go_wp2_with fail
  go_loopw [4, 5, 6, 7] (fun h v m i wr => ∃ (k nw : Nat) (has : Bool) (x : Int), k ≤ n ∧ nw ≤ k ∧ h = .bool has ∧ v = .int .i64 x ∧ m = .int .i64 nw ∧ i = .int .i64 k ∧ Hid (TM W c k has x nw wr)) (fun _ _ _ i _ => n - (intOf i).toNat)
  case atStart => exact ⟨0, 0, false, 0, by omega, by omega, rfl, rfl, rfl, rfl, S1⟩
  case round =>
    clear S1
    obtain ⟨k, nw, has, v, hk, hnw, rfl, rfl, rfl, rfl, hS⟩ := hrel
    have m1 : 0 ≤ (nw : Int) := by omega
    have m2 : (nw : Int) ≤ 60 := by omega
    by_cases hlt : k < n
    · have k1 : (k : Int) < (n : Int) := by omega
      have k2 : 0 ≤ (k : Int) := by omega
      have hkl : k < l.length := by rw [HLN.out]; exact hlt
      have hbel : Below W.heap.size W wr := by obtain ⟨rs, _, _, s⟩ := hS.out; exact s.bel
      obtain ⟨_, bb, off, rfl, hbb, c0⟩ := IsN.at HA.out hbel (List.getElem?_eq_getElem hkl)
      generalize l[k]'hkl = y at *
      clear hbel hkl hbb
      go_wp2_with fail
      refine (round_any y 4 wr (by omega) (by omega)).mono ?_
      rintro e w' ⟨rfl, rfl⟩
      clear c0
      have r0 : 0 ≤ y % 4 := Int.emod_nonneg _ (by omega)
      have r1 : y % 4 < 4 := Int.emod_lt_of_pos _ (by omega)
      generalize y % 4 = r at *
      by_cases d0 : r = 0
      · subst d0
        clear r0 r1
        go_wp2_with fail
        obtain ⟨rs, hl, hm, s⟩ := hS.out
        cases rs with
        | cons x rs =>
          simp only [List.length_cons] at hl
          obtain rfl : nw = rs.length + 1 := hl.symm
          have g1 : 0 < ((rs.length + 1 : Nat) : Int) := by omega
          refine (ms_put (i := 0) (s' := ⟨1, false, 1, hvl has v, [], rs⟩) (ws := [⟨x.t, x.c, k, true, false⟩]) k s rfl rfl (by simp only [List.length_cons]; omega) rfl rfl).mono ?_
          rintro e w6 ⟨A6, cap6, rfl, r6, s6, _⟩
          have T : Hid (TM W c (k + 1) has v rs.length w6) := ⟨rs, rfl, by omega, s6⟩
          obtain ⟨b, cs, rfl, hb, q0, q1, q2, q3, q4⟩ := RdK.cells1 r6
          simp only at q0 q1 q2 q3 q4
          have g2 : ((rs.length + 1 : Nat) : Int) - 1 = (rs.length : Int) := by omega
          have HM : Hid (rs.length ≤ k + 1 ∧ rs.length ≤ 60) := by show _ ∧ _; omega
          clear s6 s hS r6 hb hm
          generalize rs.length = mw at *
          go_wp2_with fail
          obtain ⟨rs7, hl7, hm7, s7⟩ := T.out
          have hlen := ms_len (i := 0) s7 rfl
          rw [if_pos rfl] at hlen
          refine hlen.mono ?_
          rintro e w' ⟨rfl, rfl⟩
          clear hlen
          go_wp2_with fail
          have hcap := ms_cap (i := 0) s7 rfl
          rw [if_pos rfl] at hcap
          refine hcap.mono ?_
          rintro e w' ⟨rfl, rfl⟩
          clear hcap
          go_wp2_with fail
          refine (ms_canB (i := 0) false s7 rfl).mono ?_
          rintro e w8 ⟨rfl, s8⟩
          rw [can_has]
          have HL7 := Lib.hid hl7
          have HM7 : Hid (mw ≤ k + 1) := hm7
          clear hl7 hm7 s7 T
          go_wp2_with fail
          refine (ms_canB (i := 0) true s8 rfl).mono ?_
          rintro e w9 ⟨rfl, s9⟩
          rw [can_not]
          clear s8
          go_wp2_with fail
          have hwt := ms_waiting (i := 0) false s9 rfl (by have := HL7.out; have := HM7.out; simp only [CS.q]; omega)
          simp only [CS.q] at hwt
          refine hwt.mono ?_
          rintro e w10 ⟨A10, n10, rfl, _, hb10⟩
          rw [HL7.out]
          have T10 : Hid (TM W c (k + 1) has v (mw) w10) := ⟨rs7, HL7.out, HM7.out, s9.later hb10⟩
          clear hb10 s9 hwt HL7
          go_wp2_with fail
          go_roundw
          case rel => exact ⟨k + 1, mw, has, v, by omega, HM7.out, rfl, rfl, by go_num, by go_num, T10⟩
          case measure => simp [intOf]; omega
        | nil =>
          obtain rfl : nw = 0 := by rw [← hl]; rfl
          cases has with
          | true =>
            refine (ms_put (i := 0) (s' := ⟨1, false, 1, hvl true v, [], []⟩) (ws := []) k s rfl rfl (by simp) rfl rfl).mono ?_
            rintro e w6 ⟨A6, cap6, rfl, r6, s6, _⟩
            have T : Hid (TM W c (k + 1) true v 0 w6) := ⟨[], rfl, by omega, s6⟩
            clear s6 s hS r6 hm
            go_wp2_with fail
            obtain ⟨rs7, hl7, hm7, s7⟩ := T.out
            have hlen := ms_len (i := 0) s7 rfl
            rw [if_pos rfl] at hlen
            refine hlen.mono ?_
            rintro e w' ⟨rfl, rfl⟩
            clear hlen
            go_wp2_with fail
            have hcap := ms_cap (i := 0) s7 rfl
            rw [if_pos rfl] at hcap
            refine hcap.mono ?_
            rintro e w' ⟨rfl, rfl⟩
            clear hcap
            go_wp2_with fail
            refine (ms_canB (i := 0) false s7 rfl).mono ?_
            rintro e w8 ⟨rfl, s8⟩
            rw [can_has]
            have HL7 := Lib.hid hl7
            have HM7 : Hid (0 ≤ k + 1) := hm7
            clear hl7 hm7 s7 T
            go_wp2_with fail
            refine (ms_canB (i := 0) true s8 rfl).mono ?_
            rintro e w9 ⟨rfl, s9⟩
            rw [can_not]
            clear s8
            go_wp2_with fail
            have hwt := ms_waiting (i := 0) false s9 rfl (by have := HL7.out; have := HM7.out; simp only [CS.q]; omega)
            simp only [CS.q] at hwt
            refine hwt.mono ?_
            rintro e w10 ⟨A10, n10, rfl, _, hb10⟩
            rw [HL7.out]
            have T10 : Hid (TM W c (k + 1) true v (0) w10) := ⟨rs7, HL7.out, HM7.out, s9.later hb10⟩
            clear hb10 s9 hwt HL7
            go_wp2_with fail
            go_roundw
            case rel => exact ⟨k + 1, 0, true, v, by omega, HM7.out, rfl, rfl, by go_num, by go_num, T10⟩
            case measure => simp [intOf]; omega
          | false =>
            refine (ms_put (i := 0) (s' := ⟨1, false, 1, hvl true k, [], []⟩) (ws := []) k s rfl rfl (by simp) rfl rfl).mono ?_
            rintro e w6 ⟨A6, cap6, rfl, r6, s6, _⟩
            have T : Hid (TM W c (k + 1) true k 0 w6) := ⟨[], rfl, by omega, s6⟩
            clear s6 s hS r6 hm
            go_wp2_with fail
            obtain ⟨rs7, hl7, hm7, s7⟩ := T.out
            have hlen := ms_len (i := 0) s7 rfl
            rw [if_pos rfl] at hlen
            refine hlen.mono ?_
            rintro e w' ⟨rfl, rfl⟩
            clear hlen
            go_wp2_with fail
            have hcap := ms_cap (i := 0) s7 rfl
            rw [if_pos rfl] at hcap
            refine hcap.mono ?_
            rintro e w' ⟨rfl, rfl⟩
            clear hcap
            go_wp2_with fail
            refine (ms_canB (i := 0) false s7 rfl).mono ?_
            rintro e w8 ⟨rfl, s8⟩
            rw [can_has]
            have HL7 := Lib.hid hl7
            have HM7 : Hid (0 ≤ k + 1) := hm7
            clear hl7 hm7 s7 T
            go_wp2_with fail
            refine (ms_canB (i := 0) true s8 rfl).mono ?_
            rintro e w9 ⟨rfl, s9⟩
            rw [can_not]
            clear s8
            go_wp2_with fail
            have hwt := ms_waiting (i := 0) false s9 rfl (by have := HL7.out; have := HM7.out; simp only [CS.q]; omega)
            simp only [CS.q] at hwt
            refine hwt.mono ?_
            rintro e w10 ⟨A10, n10, rfl, _, hb10⟩
            rw [HL7.out]
            have T10 : Hid (TM W c (k + 1) true (k : Int) (0) w10) := ⟨rs7, HL7.out, HM7.out, s9.later hb10⟩
            clear hb10 s9 hwt HL7
            go_wp2_with fail
            go_roundw
            case rel => exact ⟨k + 1, 0, true, (k : Int), by omega, HM7.out, rfl, rfl, by go_num, by go_num, T10⟩
            case measure => simp [intOf]; omega
      by_cases d1 : r = 1
      · subst d1
        clear r0 r1 d0
        go_wp2_with fail
        obtain ⟨rs, hl, hm, s⟩ := hS.out
        cases has with
        | true =>
          refine (ms_recv (i := 0) (s' := ⟨1, false, 1, hvl false v, [], rs⟩) (ws := []) s rfl (by simp) rfl rfl).mono ?_
          rintro e w6 ⟨A6, cap6, rfl, r6, s6, _⟩
          have T : Hid (TM W c (k + 1) false v nw w6) := ⟨rs, hl, by omega, s6⟩
          clear s6 s hS r6 hm hl
          go_wp2_with fail
          obtain ⟨rs7, hl7, hm7, s7⟩ := T.out
          have hlen := ms_len (i := 0) s7 rfl
          rw [if_pos rfl] at hlen
          refine hlen.mono ?_
          rintro e w' ⟨rfl, rfl⟩
          clear hlen
          go_wp2_with fail
          have hcap := ms_cap (i := 0) s7 rfl
          rw [if_pos rfl] at hcap
          refine hcap.mono ?_
          rintro e w' ⟨rfl, rfl⟩
          clear hcap
          go_wp2_with fail
          refine (ms_canB (i := 0) false s7 rfl).mono ?_
          rintro e w8 ⟨rfl, s8⟩
          rw [can_has]
          have HL7 := Lib.hid hl7
          have HM7 : Hid (nw ≤ k + 1) := hm7
          clear hl7 hm7 s7 T
          go_wp2_with fail
          refine (ms_canB (i := 0) true s8 rfl).mono ?_
          rintro e w9 ⟨rfl, s9⟩
          rw [can_not]
          clear s8
          go_wp2_with fail
          have hwt := ms_waiting (i := 0) false s9 rfl (by have := HL7.out; have := HM7.out; simp only [CS.q]; omega)
          simp only [CS.q] at hwt
          refine hwt.mono ?_
          rintro e w10 ⟨A10, n10, rfl, _, hb10⟩
          rw [HL7.out]
          have T10 : Hid (TM W c (k + 1) false v (nw) w10) := ⟨rs7, HL7.out, HM7.out, s9.later hb10⟩
          clear hb10 s9 hwt HL7
          go_wp2_with fail
          go_roundw
          case rel => exact ⟨k + 1, nw, false, v, by omega, HM7.out, rfl, rfl, by go_num, by go_num, T10⟩
          case measure => simp [intOf]; omega
        | false =>
          refine (ms_recv (i := 0) (s' := ⟨1, false, 1, hvl false v, [], rs⟩) (ws := []) s rfl (by simp) rfl rfl).mono ?_
          rintro e w5 ⟨A6, cap6, rfl, r6, s6, _⟩
          have S5 : Hid (MS W [(c, ⟨1, false, 1, hvl false v, [], rs⟩)] w5) := s6
          clear s6 s hS r6
          have HM : Hid (nw ≤ k ∧ rs.length = nw ∧ nw ≤ 60) := by show _ ∧ _ ∧ _; omega
          clear hm hl
          go_wp2_with fail
          refine (ms_wait (i := 0) (s' := ⟨1, false, 1, hvl false v, [], rs ++ [⟨k, 0, 0⟩]⟩) ⟨k, 0, 0⟩ false (wf_of (by simp only; omega) (by simp only; omega)) S5.out rfl (by intro b; have := HM.out; cases b <;> simp [CS.q] <;> omega) rfl).mono ?_
          rintro e w6 ⟨rfl, s6, _⟩
          have T : Hid (TM W c (k + 1) false v (nw + 1) w6) := ⟨rs ++ [(⟨(k : Int), 0, 0⟩ : Wt)], by have := HM.out; simp; omega, by have := HM.out; omega, s6⟩
          clear s6 S5
          go_wp2_with fail
          obtain ⟨rs7, hl7, hm7, s7⟩ := T.out
          have hlen := ms_len (i := 0) s7 rfl
          rw [if_pos rfl] at hlen
          refine hlen.mono ?_
          rintro e w' ⟨rfl, rfl⟩
          clear hlen
          go_wp2_with fail
          have hcap := ms_cap (i := 0) s7 rfl
          rw [if_pos rfl] at hcap
          refine hcap.mono ?_
          rintro e w' ⟨rfl, rfl⟩
          clear hcap
          go_wp2_with fail
          refine (ms_canB (i := 0) false s7 rfl).mono ?_
          rintro e w8 ⟨rfl, s8⟩
          rw [can_has]
          have HL7 := Lib.hid hl7
          have HM7 : Hid (nw + 1 ≤ k + 1) := hm7
          clear hl7 hm7 s7 T
          go_wp2_with fail
          refine (ms_canB (i := 0) true s8 rfl).mono ?_
          rintro e w9 ⟨rfl, s9⟩
          rw [can_not]
          clear s8
          go_wp2_with fail
          have hwt := ms_waiting (i := 0) false s9 rfl (by have := HL7.out; have := HM7.out; simp only [CS.q]; omega)
          simp only [CS.q] at hwt
          refine hwt.mono ?_
          rintro e w10 ⟨A10, n10, rfl, _, hb10⟩
          rw [HL7.out]
          have T10 : Hid (TM W c (k + 1) false v (nw + 1) w10) := ⟨rs7, HL7.out, HM7.out, s9.later hb10⟩
          clear hb10 s9 hwt HL7
          go_wp2_with fail
          go_roundw
          case rel => exact ⟨k + 1, nw + 1, false, v, by omega, HM7.out, rfl, rfl, by go_num, by go_num, T10⟩
          case measure => simp [intOf]; omega
      by_cases d2 : r = 2
      · subst d2
        clear r0 r1 d0 d1
        go_wp2_with fail
        obtain ⟨rs, hl, hm, s⟩ := hS.out
        refine (ms_drop (i := 0) s rfl rfl).mono ?_
        rintro e w6 ⟨rfl, s6, _⟩
        have T : Hid (TM W c (k + 1) false v nw w6) := ⟨rs, hl, by omega, s6⟩
        simp only [drop_has]
        clear s6 s hS hm hl
        go_wp2_with fail
        obtain ⟨rs7, hl7, hm7, s7⟩ := T.out
        have hlen := ms_len (i := 0) s7 rfl
        rw [if_pos rfl] at hlen
        refine hlen.mono ?_
        rintro e w' ⟨rfl, rfl⟩
        clear hlen
        go_wp2_with fail
        have hcap := ms_cap (i := 0) s7 rfl
        rw [if_pos rfl] at hcap
        refine hcap.mono ?_
        rintro e w' ⟨rfl, rfl⟩
        clear hcap
        go_wp2_with fail
        refine (ms_canB (i := 0) false s7 rfl).mono ?_
        rintro e w8 ⟨rfl, s8⟩
        rw [can_has]
        have HL7 := Lib.hid hl7
        have HM7 : Hid (nw ≤ k + 1) := hm7
        clear hl7 hm7 s7 T
        go_wp2_with fail
        refine (ms_canB (i := 0) true s8 rfl).mono ?_
        rintro e w9 ⟨rfl, s9⟩
        rw [can_not]
        clear s8
        go_wp2_with fail
        have hwt := ms_waiting (i := 0) false s9 rfl (by have := HL7.out; have := HM7.out; simp only [CS.q]; omega)
        simp only [CS.q] at hwt
        refine hwt.mono ?_
        rintro e w10 ⟨A10, n10, rfl, _, hb10⟩
        rw [HL7.out]
        have T10 : Hid (TM W c (k + 1) false v (nw) w10) := ⟨rs7, HL7.out, HM7.out, s9.later hb10⟩
        clear hb10 s9 hwt HL7
        go_wp2_with fail
        go_roundw
        case rel => exact ⟨k + 1, nw, false, v, by omega, HM7.out, rfl, rfl, by go_num, by go_num, T10⟩
        case measure => simp [intOf]; omega
      · have d3 : r = 3 := by omega
        subst d3
        clear r0 r1 d0 d1 d2
        go_wp2_with fail
        obtain ⟨rs, hl, hm, s⟩ := hS.out
        refine (ms_send_kind (i := 0) 5 s rfl (by simp)).mono ?_
        rintro e w' ⟨rfl, rfl⟩
        go_wp2_with fail
        refine (ms_close_kind (i := 0) s rfl (by simp)).mono ?_
        rintro e w' ⟨rfl, rfl⟩
        have T : Hid (TM W c (k + 1) has v nw wr) := ⟨rs, hl, by omega, s⟩
        clear s hS hm hl
        go_wp2_with fail
        obtain ⟨rs7, hl7, hm7, s7⟩ := T.out
        have hlen := ms_len (i := 0) s7 rfl
        rw [if_pos rfl] at hlen
        refine hlen.mono ?_
        rintro e w' ⟨rfl, rfl⟩
        clear hlen
        go_wp2_with fail
        have hcap := ms_cap (i := 0) s7 rfl
        rw [if_pos rfl] at hcap
        refine hcap.mono ?_
        rintro e w' ⟨rfl, rfl⟩
        clear hcap
        go_wp2_with fail
        refine (ms_canB (i := 0) false s7 rfl).mono ?_
        rintro e w8 ⟨rfl, s8⟩
        rw [can_has]
        have HL7 := Lib.hid hl7
        have HM7 : Hid (nw ≤ k + 1) := hm7
        clear hl7 hm7 s7 T
        go_wp2_with fail
        refine (ms_canB (i := 0) true s8 rfl).mono ?_
        rintro e w9 ⟨rfl, s9⟩
        rw [can_not]
        clear s8
        go_wp2_with fail
        have hwt := ms_waiting (i := 0) false s9 rfl (by have := HL7.out; have := HM7.out; simp only [CS.q]; omega)
        simp only [CS.q] at hwt
        refine hwt.mono ?_
        rintro e w10 ⟨A10, n10, rfl, _, hb10⟩
        rw [HL7.out]
        have T10 : Hid (TM W c (k + 1) has v (nw) w10) := ⟨rs7, HL7.out, HM7.out, s9.later hb10⟩
        clear hb10 s9 hwt HL7
        go_wp2_with fail
        go_roundw
        case rel => exact ⟨k + 1, nw, has, v, by omega, HM7.out, rfl, rfl, by go_num, by go_num, T10⟩
        case measure => simp [intOf]; omega
    · obtain rfl : k = n := by omega
      have HB0 : Hid (Below W.heap.size W wr) := by obtain ⟨rs, _, _, s⟩ := hS.out; exact s.bel
      clear hS
      go_wp2_with fail
      refine (awake_any _).mono ?_
      rintro e w' ⟨rfl, hb⟩
      have HB := Lib.hid (HB0.out.trans (hb.mono HB0.out.size))
      clear hb HB0
      go_wp2_with fail
      go_ret
      exact ⟨rfl, HB.out⟩
set_option maxRecDepth 100000 in
theorem timed_walk (A : Option Addr) (n cap : Nat) (l : List Int) (W : World) (hA : IsN W A n cap l) : Calls Try.prog 6 #[.slice A n cap] W (BoolR true W) := by
  by_cases hn : n ≤ 60
  · exact timed_in A n cap l W hA hn
  · have b1 : 60 < (n : Int) := by omega
    go_enter Try.func6, Try.ntmps6
    go_wp2_with fail
    refine (awake_any W).mono ?_
    rintro e w' ⟨rfl, hb⟩
    have HB := Lib.hid hb
    clear hb
    go_wp2_with fail
    go_ret
    exact ⟨rfl, HB.out⟩
end Go.Proofs.Ytnldodpmfkekbaa
