/- WhyIs returns true, whatever the cause. No condition. -/
import Derived.Test.YtbefcakakoaieaaAwk
namespace Go.Proofs.Ytbefcakakoaieaa
open Go.RowKit Go.Extern.Stop Go.Stop Go.Extern
set_option linter.unusedVariables false

theorem hasF_code (x c : Int) (hc : 0 < c) : hasF x (codeE c).fo = (c == x) := by simp [hasF, codeE, Er.fo, hc]
theorem hasF_dead (x : Int) : hasF x deadE.fo = (2 == x) := by
  simp only [deadE, Er.fo, hasF]
  simp [codeE, hasF]
theorem hasF_both {b : Bool} (x c : Int) (hc : 0 < c) (y : Er) (h : hasF x y.fo = b) : hasF x (bothE c y).fo = ((c == x) || b) := by
  have h1 := hasF_code x c hc
  show hasF x (.cons 0 allB (.cons 0 causeB (codeE c).fo y.fo) .nil) = _
  simp only [hasF, h1, h]
  simp
theorem has_cause1 (x c : Int) : hasO x (causeE 1 c) = ((x == 1) || (decide (1 ≤ c) && (x == c))) := by
  have hm : errE 1 = some (codeE 1) := rfl
  have h1 := hasF_code x 1 (by omega)
  simp only [causeE, hm]
  by_cases h : c < 1 ∨ c = 1
  · rw [if_pos h]
    simp only [hasO, h1]
    rw [Bool.eq_iff_iff]; simp; omega
  · rw [if_neg h]
    simp only [hasO, hasF_both x c (by omega) (codeE 1) h1]
    rw [Bool.eq_iff_iff]; simp; omega
theorem has_cause2 (x c : Int) : hasO x (causeE 2 c) = ((x == 2) || (decide (1 ≤ c) && (x == c))) := by
  have hm : errE 2 = some deadE := rfl
  have h1 := hasF_dead x
  simp only [causeE, hm]
  by_cases h : c < 1 ∨ c = 2
  · rw [if_pos h]
    simp only [hasO, h1]
    rw [Bool.eq_iff_iff]; simp; omega
  · rw [if_neg h]
    simp only [hasO, hasF_both x c (by omega) deadE h1]
    rw [Bool.eq_iff_iff]; simp; omega

set_option maxRecDepth 100000 in
theorem is_f_lt (c : Int) (hc : c < 1) (W : World) : Calls Try.prog 4 #[.bool false, .int .i64 c] W (BoolPost true W) := by
  have H := Lib.hid (cause_any 1 c W)
  have g2 : (c == 2) = false := by rw [beq_eq_false_iff_ne]; omega
  have g1 : (c == 1) = false := by rw [beq_eq_false_iff_ne]; omega
  have f1 : Hid (hasO 1 (causeE 1 c) = true) := by
    show _ = _
    rw [has_cause1, Bool.eq_iff_iff]; simp; try omega
  have f3 : Hid (hasO 2 (causeE 1 c) = false) := by
    show _ = _
    rw [has_cause1, Bool.eq_iff_iff]; simp; try omega
  have f4 : Hid (hasO 2 (causeE 1 c) = false) := by
    show _ = _
    rw [has_cause1, Bool.eq_iff_iff]; simp; try omega
  go_enter Try.func4, Try.ntmps4
  go_wp2_with fail
  refine H.out.mono ?_
  rintro e w1 ⟨hb, v, rfl, hv⟩
  have HB := Lib.hid hb
  have HV := Lib.hid hv
  clear hb hv H
  go_wp2_with fail
  have H := is_o 1 _ v w1 HV.out
  rw [f1.out] at H
  refine H.mono ?_
  rintro e w2 ⟨rfl, hb⟩
  have HC := Lib.hid (HB.out.trans (hb.mono HB.out.size))
  have HW := Lib.hid (HV.out.later hb)
  clear hb H HB HV
  have HB := HC
  have HV := HW
  clear HC HW
  go_wp2_with fail
  have H := is_o 2 _ v w2 HV.out
  rw [f3.out] at H
  refine H.mono ?_
  rintro e w3 ⟨rfl, hb⟩
  have HC := Lib.hid (HB.out.trans (hb.mono HB.out.size))
  have HW := Lib.hid (HV.out.later hb)
  clear hb H HB HV
  have HB := HC
  have HV := HW
  clear HC HW
  go_wp2_with fail
  have H := timeout_o _ v w3 HV.out
  rw [f4.out] at H
  refine H.mono ?_
  rintro e w4 ⟨rfl, hb⟩
  have HC := Lib.hid (HB.out.trans (hb.mono HB.out.size))
  have HW := Lib.hid (HV.out.later hb)
  clear hb H HB HV
  have HB := HC
  have HV := HW
  clear HC HW
  go_wp2_with fail
  refine (awake_any w4).mono ?_
  rintro e w5 ⟨rfl, hb⟩
  have HC := Lib.hid (HB.out.trans (hb.mono HB.out.size))
  clear hb
  go_wp2_with fail
  go_ret
  exact ⟨rfl, HC.out⟩

set_option maxRecDepth 100000 in
theorem is_f_err  (W : World) : Calls Try.prog 4 #[.bool false, .int .i64 1] W (BoolPost true W) := by
  have H := Lib.hid (cause_any 1 1 W)
  have f1 : Hid (hasO 1 (causeE 1 1) = true) := by
    show _ = _
    rw [has_cause1, Bool.eq_iff_iff]; simp; try omega
  have f2 : Hid (hasO 1 (causeE 1 1) = true) := by
    show _ = _
    rw [has_cause1, Bool.eq_iff_iff]; simp; try omega
  have f3 : Hid (hasO 2 (causeE 1 1) = false) := by
    show _ = _
    rw [has_cause1, Bool.eq_iff_iff]; simp; try omega
  have f4 : Hid (hasO 2 (causeE 1 1) = false) := by
    show _ = _
    rw [has_cause1, Bool.eq_iff_iff]; simp; try omega
  go_enter Try.func4, Try.ntmps4
  go_wp2_with fail
  refine H.out.mono ?_
  rintro e w1 ⟨hb, v, rfl, hv⟩
  have HB := Lib.hid hb
  have HV := Lib.hid hv
  clear hb hv H
  go_wp2_with fail
  have H := is_o 1 _ v w1 HV.out
  rw [f1.out] at H
  refine H.mono ?_
  rintro e w2 ⟨rfl, hb⟩
  have HC := Lib.hid (HB.out.trans (hb.mono HB.out.size))
  have HW := Lib.hid (HV.out.later hb)
  clear hb H HB HV
  have HB := HC
  have HV := HW
  clear HC HW
  go_wp2_with fail
  have H := is_o 1 _ v w2 HV.out
  rw [f2.out] at H
  refine H.mono ?_
  rintro e w3 ⟨rfl, hb⟩
  have HC := Lib.hid (HB.out.trans (hb.mono HB.out.size))
  have HW := Lib.hid (HV.out.later hb)
  clear hb H HB HV
  have HB := HC
  have HV := HW
  clear HC HW
  go_wp2_with fail
  have H := is_o 2 _ v w3 HV.out
  rw [f3.out] at H
  refine H.mono ?_
  rintro e w4 ⟨rfl, hb⟩
  have HC := Lib.hid (HB.out.trans (hb.mono HB.out.size))
  have HW := Lib.hid (HV.out.later hb)
  clear hb H HB HV
  have HB := HC
  have HV := HW
  clear HC HW
  go_wp2_with fail
  have H := timeout_o _ v w4 HV.out
  rw [f4.out] at H
  refine H.mono ?_
  rintro e w5 ⟨rfl, hb⟩
  have HC := Lib.hid (HB.out.trans (hb.mono HB.out.size))
  have HW := Lib.hid (HV.out.later hb)
  clear hb H HB HV
  have HB := HC
  have HV := HW
  clear HC HW
  go_wp2_with fail
  refine (awake_any w5).mono ?_
  rintro e w6 ⟨rfl, hb⟩
  have HC := Lib.hid (HB.out.trans (hb.mono HB.out.size))
  clear hb
  go_wp2_with fail
  go_ret
  exact ⟨rfl, HC.out⟩

set_option maxRecDepth 100000 in
theorem is_f_other  (W : World) : Calls Try.prog 4 #[.bool false, .int .i64 2] W (BoolPost true W) := by
  have H := Lib.hid (cause_any 1 2 W)
  have f1 : Hid (hasO 1 (causeE 1 2) = true) := by
    show _ = _
    rw [has_cause1, Bool.eq_iff_iff]; simp; try omega
  have f2 : Hid (hasO 2 (causeE 1 2) = true) := by
    show _ = _
    rw [has_cause1, Bool.eq_iff_iff]; simp; try omega
  have f3 : Hid (hasO 2 (causeE 1 2) = true) := by
    show _ = _
    rw [has_cause1, Bool.eq_iff_iff]; simp; try omega
  have f4 : Hid (hasO 2 (causeE 1 2) = true) := by
    show _ = _
    rw [has_cause1, Bool.eq_iff_iff]; simp; try omega
  go_enter Try.func4, Try.ntmps4
  go_wp2_with fail
  refine H.out.mono ?_
  rintro e w1 ⟨hb, v, rfl, hv⟩
  have HB := Lib.hid hb
  have HV := Lib.hid hv
  clear hb hv H
  go_wp2_with fail
  have H := is_o 1 _ v w1 HV.out
  rw [f1.out] at H
  refine H.mono ?_
  rintro e w2 ⟨rfl, hb⟩
  have HC := Lib.hid (HB.out.trans (hb.mono HB.out.size))
  have HW := Lib.hid (HV.out.later hb)
  clear hb H HB HV
  have HB := HC
  have HV := HW
  clear HC HW
  go_wp2_with fail
  have H := is_o 2 _ v w2 HV.out
  rw [f2.out] at H
  refine H.mono ?_
  rintro e w3 ⟨rfl, hb⟩
  have HC := Lib.hid (HB.out.trans (hb.mono HB.out.size))
  have HW := Lib.hid (HV.out.later hb)
  clear hb H HB HV
  have HB := HC
  have HV := HW
  clear HC HW
  go_wp2_with fail
  have H := is_o 2 _ v w3 HV.out
  rw [f3.out] at H
  refine H.mono ?_
  rintro e w4 ⟨rfl, hb⟩
  have HC := Lib.hid (HB.out.trans (hb.mono HB.out.size))
  have HW := Lib.hid (HV.out.later hb)
  clear hb H HB HV
  have HB := HC
  have HV := HW
  clear HC HW
  go_wp2_with fail
  have H := timeout_o _ v w4 HV.out
  rw [f4.out] at H
  refine H.mono ?_
  rintro e w5 ⟨rfl, hb⟩
  have HC := Lib.hid (HB.out.trans (hb.mono HB.out.size))
  have HW := Lib.hid (HV.out.later hb)
  clear hb H HB HV
  have HB := HC
  have HV := HW
  clear HC HW
  go_wp2_with fail
  refine (awake_any w5).mono ?_
  rintro e w6 ⟨rfl, hb⟩
  have HC := Lib.hid (HB.out.trans (hb.mono HB.out.size))
  clear hb
  go_wp2_with fail
  go_ret
  exact ⟨rfl, HC.out⟩

set_option maxRecDepth 100000 in
theorem is_f_else (c : Int) (hc : 1 < c) (hn : ¬ c = 2) (W : World) : Calls Try.prog 4 #[.bool false, .int .i64 c] W (BoolPost true W) := by
  have H := Lib.hid (cause_any 1 c W)
  have g2 : (c == 2) = false := by rw [beq_eq_false_iff_ne]; omega
  have g1 : (c == 1) = false := by rw [beq_eq_false_iff_ne]; omega
  have hc1 : ¬ c < 1 := by omega
  have f1 : Hid (hasO 1 (causeE 1 c) = true) := by
    show _ = _
    rw [has_cause1, Bool.eq_iff_iff]; simp; try omega
  have f2 : Hid (hasO c (causeE 1 c) = true) := by
    show _ = _
    rw [has_cause1, Bool.eq_iff_iff]; simp; try omega
  have f3 : Hid (hasO 2 (causeE 1 c) = false) := by
    show _ = _
    rw [has_cause1, Bool.eq_iff_iff]; simp; try omega
  have f4 : Hid (hasO 2 (causeE 1 c) = false) := by
    show _ = _
    rw [has_cause1, Bool.eq_iff_iff]; simp; try omega
  go_enter Try.func4, Try.ntmps4
  go_wp2_with fail
  refine H.out.mono ?_
  rintro e w1 ⟨hb, v, rfl, hv⟩
  have HB := Lib.hid hb
  have HV := Lib.hid hv
  clear hb hv H
  go_wp2_with fail
  have H := is_o 1 _ v w1 HV.out
  rw [f1.out] at H
  refine H.mono ?_
  rintro e w2 ⟨rfl, hb⟩
  have HC := Lib.hid (HB.out.trans (hb.mono HB.out.size))
  have HW := Lib.hid (HV.out.later hb)
  clear hb H HB HV
  have HB := HC
  have HV := HW
  clear HC HW
  go_wp2_with fail
  have H := is_o c _ v w2 HV.out
  rw [f2.out] at H
  refine H.mono ?_
  rintro e w3 ⟨rfl, hb⟩
  have HC := Lib.hid (HB.out.trans (hb.mono HB.out.size))
  have HW := Lib.hid (HV.out.later hb)
  clear hb H HB HV
  have HB := HC
  have HV := HW
  clear HC HW
  go_wp2_with fail
  have H := is_o 2 _ v w3 HV.out
  rw [f3.out] at H
  refine H.mono ?_
  rintro e w4 ⟨rfl, hb⟩
  have HC := Lib.hid (HB.out.trans (hb.mono HB.out.size))
  have HW := Lib.hid (HV.out.later hb)
  clear hb H HB HV
  have HB := HC
  have HV := HW
  clear HC HW
  go_wp2_with fail
  have H := timeout_o _ v w4 HV.out
  rw [f4.out] at H
  refine H.mono ?_
  rintro e w5 ⟨rfl, hb⟩
  have HC := Lib.hid (HB.out.trans (hb.mono HB.out.size))
  have HW := Lib.hid (HV.out.later hb)
  clear hb H HB HV
  have HB := HC
  have HV := HW
  clear HC HW
  go_wp2_with fail
  refine (awake_any w5).mono ?_
  rintro e w6 ⟨rfl, hb⟩
  have HC := Lib.hid (HB.out.trans (hb.mono HB.out.size))
  clear hb
  go_wp2_with fail
  go_ret
  exact ⟨rfl, HC.out⟩

set_option maxRecDepth 100000 in
theorem is_t_lt (c : Int) (hc : c < 1) (W : World) : Calls Try.prog 4 #[.bool true, .int .i64 c] W (BoolPost true W) := by
  have H := Lib.hid (cause_any 2 c W)
  have g2 : (c == 2) = false := by rw [beq_eq_false_iff_ne]; omega
  have g1 : (c == 1) = false := by rw [beq_eq_false_iff_ne]; omega
  have f1 : Hid (hasO 2 (causeE 2 c) = true) := by
    show _ = _
    rw [has_cause2, Bool.eq_iff_iff]; simp; try omega
  have f3 : Hid (hasO 1 (causeE 2 c) = false) := by
    show _ = _
    rw [has_cause2, Bool.eq_iff_iff]; simp; try omega
  have f4 : Hid (hasO 2 (causeE 2 c) = true) := by
    show _ = _
    rw [has_cause2, Bool.eq_iff_iff]; simp; try omega
  go_enter Try.func4, Try.ntmps4
  go_wp2_with fail
  refine H.out.mono ?_
  rintro e w1 ⟨hb, v, rfl, hv⟩
  have HB := Lib.hid hb
  have HV := Lib.hid hv
  clear hb hv H
  go_wp2_with fail
  have H := is_o 2 _ v w1 HV.out
  rw [f1.out] at H
  refine H.mono ?_
  rintro e w2 ⟨rfl, hb⟩
  have HC := Lib.hid (HB.out.trans (hb.mono HB.out.size))
  have HW := Lib.hid (HV.out.later hb)
  clear hb H HB HV
  have HB := HC
  have HV := HW
  clear HC HW
  go_wp2_with fail
  have H := is_o 1 _ v w2 HV.out
  rw [f3.out] at H
  refine H.mono ?_
  rintro e w3 ⟨rfl, hb⟩
  have HC := Lib.hid (HB.out.trans (hb.mono HB.out.size))
  have HW := Lib.hid (HV.out.later hb)
  clear hb H HB HV
  have HB := HC
  have HV := HW
  clear HC HW
  go_wp2_with fail
  have H := timeout_o _ v w3 HV.out
  rw [f4.out] at H
  refine H.mono ?_
  rintro e w4 ⟨rfl, hb⟩
  have HC := Lib.hid (HB.out.trans (hb.mono HB.out.size))
  have HW := Lib.hid (HV.out.later hb)
  clear hb H HB HV
  have HB := HC
  have HV := HW
  clear HC HW
  go_wp2_with fail
  refine (awake_any w4).mono ?_
  rintro e w5 ⟨rfl, hb⟩
  have HC := Lib.hid (HB.out.trans (hb.mono HB.out.size))
  clear hb
  go_wp2_with fail
  go_ret
  exact ⟨rfl, HC.out⟩

set_option maxRecDepth 100000 in
theorem is_t_err  (W : World) : Calls Try.prog 4 #[.bool true, .int .i64 2] W (BoolPost true W) := by
  have H := Lib.hid (cause_any 2 2 W)
  have f1 : Hid (hasO 2 (causeE 2 2) = true) := by
    show _ = _
    rw [has_cause2, Bool.eq_iff_iff]; simp; try omega
  have f2 : Hid (hasO 2 (causeE 2 2) = true) := by
    show _ = _
    rw [has_cause2, Bool.eq_iff_iff]; simp; try omega
  have f3 : Hid (hasO 1 (causeE 2 2) = false) := by
    show _ = _
    rw [has_cause2, Bool.eq_iff_iff]; simp; try omega
  have f4 : Hid (hasO 2 (causeE 2 2) = true) := by
    show _ = _
    rw [has_cause2, Bool.eq_iff_iff]; simp; try omega
  go_enter Try.func4, Try.ntmps4
  go_wp2_with fail
  refine H.out.mono ?_
  rintro e w1 ⟨hb, v, rfl, hv⟩
  have HB := Lib.hid hb
  have HV := Lib.hid hv
  clear hb hv H
  go_wp2_with fail
  have H := is_o 2 _ v w1 HV.out
  rw [f1.out] at H
  refine H.mono ?_
  rintro e w2 ⟨rfl, hb⟩
  have HC := Lib.hid (HB.out.trans (hb.mono HB.out.size))
  have HW := Lib.hid (HV.out.later hb)
  clear hb H HB HV
  have HB := HC
  have HV := HW
  clear HC HW
  go_wp2_with fail
  have H := is_o 2 _ v w2 HV.out
  rw [f2.out] at H
  refine H.mono ?_
  rintro e w3 ⟨rfl, hb⟩
  have HC := Lib.hid (HB.out.trans (hb.mono HB.out.size))
  have HW := Lib.hid (HV.out.later hb)
  clear hb H HB HV
  have HB := HC
  have HV := HW
  clear HC HW
  go_wp2_with fail
  have H := is_o 1 _ v w3 HV.out
  rw [f3.out] at H
  refine H.mono ?_
  rintro e w4 ⟨rfl, hb⟩
  have HC := Lib.hid (HB.out.trans (hb.mono HB.out.size))
  have HW := Lib.hid (HV.out.later hb)
  clear hb H HB HV
  have HB := HC
  have HV := HW
  clear HC HW
  go_wp2_with fail
  have H := timeout_o _ v w4 HV.out
  rw [f4.out] at H
  refine H.mono ?_
  rintro e w5 ⟨rfl, hb⟩
  have HC := Lib.hid (HB.out.trans (hb.mono HB.out.size))
  have HW := Lib.hid (HV.out.later hb)
  clear hb H HB HV
  have HB := HC
  have HV := HW
  clear HC HW
  go_wp2_with fail
  refine (awake_any w5).mono ?_
  rintro e w6 ⟨rfl, hb⟩
  have HC := Lib.hid (HB.out.trans (hb.mono HB.out.size))
  clear hb
  go_wp2_with fail
  go_ret
  exact ⟨rfl, HC.out⟩

set_option maxRecDepth 100000 in
theorem is_t_other  (W : World) : Calls Try.prog 4 #[.bool true, .int .i64 1] W (BoolPost true W) := by
  have H := Lib.hid (cause_any 2 1 W)
  have f1 : Hid (hasO 2 (causeE 2 1) = true) := by
    show _ = _
    rw [has_cause2, Bool.eq_iff_iff]; simp; try omega
  have f2 : Hid (hasO 1 (causeE 2 1) = true) := by
    show _ = _
    rw [has_cause2, Bool.eq_iff_iff]; simp; try omega
  have f3 : Hid (hasO 1 (causeE 2 1) = true) := by
    show _ = _
    rw [has_cause2, Bool.eq_iff_iff]; simp; try omega
  have f4 : Hid (hasO 2 (causeE 2 1) = true) := by
    show _ = _
    rw [has_cause2, Bool.eq_iff_iff]; simp; try omega
  go_enter Try.func4, Try.ntmps4
  go_wp2_with fail
  refine H.out.mono ?_
  rintro e w1 ⟨hb, v, rfl, hv⟩
  have HB := Lib.hid hb
  have HV := Lib.hid hv
  clear hb hv H
  go_wp2_with fail
  have H := is_o 2 _ v w1 HV.out
  rw [f1.out] at H
  refine H.mono ?_
  rintro e w2 ⟨rfl, hb⟩
  have HC := Lib.hid (HB.out.trans (hb.mono HB.out.size))
  have HW := Lib.hid (HV.out.later hb)
  clear hb H HB HV
  have HB := HC
  have HV := HW
  clear HC HW
  go_wp2_with fail
  have H := is_o 1 _ v w2 HV.out
  rw [f2.out] at H
  refine H.mono ?_
  rintro e w3 ⟨rfl, hb⟩
  have HC := Lib.hid (HB.out.trans (hb.mono HB.out.size))
  have HW := Lib.hid (HV.out.later hb)
  clear hb H HB HV
  have HB := HC
  have HV := HW
  clear HC HW
  go_wp2_with fail
  have H := is_o 1 _ v w3 HV.out
  rw [f3.out] at H
  refine H.mono ?_
  rintro e w4 ⟨rfl, hb⟩
  have HC := Lib.hid (HB.out.trans (hb.mono HB.out.size))
  have HW := Lib.hid (HV.out.later hb)
  clear hb H HB HV
  have HB := HC
  have HV := HW
  clear HC HW
  go_wp2_with fail
  have H := timeout_o _ v w4 HV.out
  rw [f4.out] at H
  refine H.mono ?_
  rintro e w5 ⟨rfl, hb⟩
  have HC := Lib.hid (HB.out.trans (hb.mono HB.out.size))
  have HW := Lib.hid (HV.out.later hb)
  clear hb H HB HV
  have HB := HC
  have HV := HW
  clear HC HW
  go_wp2_with fail
  refine (awake_any w5).mono ?_
  rintro e w6 ⟨rfl, hb⟩
  have HC := Lib.hid (HB.out.trans (hb.mono HB.out.size))
  clear hb
  go_wp2_with fail
  go_ret
  exact ⟨rfl, HC.out⟩

set_option maxRecDepth 100000 in
theorem is_t_else (c : Int) (hc : 1 < c) (hn : ¬ c = 2) (W : World) : Calls Try.prog 4 #[.bool true, .int .i64 c] W (BoolPost true W) := by
  have H := Lib.hid (cause_any 2 c W)
  have g2 : (c == 2) = false := by rw [beq_eq_false_iff_ne]; omega
  have g1 : (c == 1) = false := by rw [beq_eq_false_iff_ne]; omega
  have hc1 : ¬ c < 1 := by omega
  have f1 : Hid (hasO 2 (causeE 2 c) = true) := by
    show _ = _
    rw [has_cause2, Bool.eq_iff_iff]; simp; try omega
  have f2 : Hid (hasO c (causeE 2 c) = true) := by
    show _ = _
    rw [has_cause2, Bool.eq_iff_iff]; simp; try omega
  have f3 : Hid (hasO 1 (causeE 2 c) = false) := by
    show _ = _
    rw [has_cause2, Bool.eq_iff_iff]; simp; try omega
  have f4 : Hid (hasO 2 (causeE 2 c) = true) := by
    show _ = _
    rw [has_cause2, Bool.eq_iff_iff]; simp; try omega
  go_enter Try.func4, Try.ntmps4
  go_wp2_with fail
  refine H.out.mono ?_
  rintro e w1 ⟨hb, v, rfl, hv⟩
  have HB := Lib.hid hb
  have HV := Lib.hid hv
  clear hb hv H
  go_wp2_with fail
  have H := is_o 2 _ v w1 HV.out
  rw [f1.out] at H
  refine H.mono ?_
  rintro e w2 ⟨rfl, hb⟩
  have HC := Lib.hid (HB.out.trans (hb.mono HB.out.size))
  have HW := Lib.hid (HV.out.later hb)
  clear hb H HB HV
  have HB := HC
  have HV := HW
  clear HC HW
  go_wp2_with fail
  have H := is_o c _ v w2 HV.out
  rw [f2.out] at H
  refine H.mono ?_
  rintro e w3 ⟨rfl, hb⟩
  have HC := Lib.hid (HB.out.trans (hb.mono HB.out.size))
  have HW := Lib.hid (HV.out.later hb)
  clear hb H HB HV
  have HB := HC
  have HV := HW
  clear HC HW
  go_wp2_with fail
  have H := is_o 1 _ v w3 HV.out
  rw [f3.out] at H
  refine H.mono ?_
  rintro e w4 ⟨rfl, hb⟩
  have HC := Lib.hid (HB.out.trans (hb.mono HB.out.size))
  have HW := Lib.hid (HV.out.later hb)
  clear hb H HB HV
  have HB := HC
  have HV := HW
  clear HC HW
  go_wp2_with fail
  have H := timeout_o _ v w4 HV.out
  rw [f4.out] at H
  refine H.mono ?_
  rintro e w5 ⟨rfl, hb⟩
  have HC := Lib.hid (HB.out.trans (hb.mono HB.out.size))
  have HW := Lib.hid (HV.out.later hb)
  clear hb H HB HV
  have HB := HC
  have HV := HW
  clear HC HW
  go_wp2_with fail
  refine (awake_any w5).mono ?_
  rintro e w6 ⟨rfl, hb⟩
  have HC := Lib.hid (HB.out.trans (hb.mono HB.out.size))
  clear hb
  go_wp2_with fail
  go_ret
  exact ⟨rfl, HC.out⟩

theorem is_walk (ex : Bool) (c : Int) (W : World) : Calls Try.prog 4 #[.bool ex, .int .i64 c] W (BoolPost true W) := by
  by_cases h : c < 1
  · cases ex
    · exact is_f_lt c h W
    · exact is_t_lt c h W
  · by_cases h1 : c = 1
    · subst h1
      cases ex
      · exact is_f_err W
      · exact is_t_other W
    · by_cases h2 : c = 2
      · subst h2
        cases ex
        · exact is_f_other W
        · exact is_t_err W
      · cases ex
        · exact is_f_else c (by omega) h2 W
        · exact is_t_else c (by omega) h2 W
#print axioms is_walk
end Go.Proofs.Ytbefcakakoaieaa

