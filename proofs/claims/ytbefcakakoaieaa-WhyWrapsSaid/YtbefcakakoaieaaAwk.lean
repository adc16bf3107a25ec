/- What the document's own example says holds: the law's wakeful part answers true. No condition. -/
import Derived.Test.YtbefcakakoaieaaAsk
namespace Go.Proofs.Ytbefcakakoaieaa
open Go.RowKit Go.Extern.Stop Go.Stop Go.Extern
set_option linter.unusedVariables false

abbrev e19 : Er := bothE 9 (codeE 1)
theorem c19 : causeE 1 9 = some e19 := by simp [causeE, errE]
theorem e0 : errE 0 = none := by decide
theorem e2 : errE 2 = some deadE := by simp [errE]
theorem h9 : hasO 9 (some e19) = true := by decide +kernel
theorem h1 : hasO 1 (some e19) = true := by decide +kernel
theorem h2 : hasO 2 (some e19) = false := by decide +kernel
theorem hd2 : hasO 2 (some deadE) = true := by decide +kernel
theorem d19 : deepO (some e19) = 9 := by decide +kernel
theorem dn : deepO none = 0 := by decide +kernel
theorem t19 : textO Lib.itoa (some e19) = [97, 108, 108, 58, 32, 99, 97, 117, 115, 101, 58, 32, 99, 111, 100, 101, 32, 57, 59, 32, 99, 111, 100, 101, 32, 49] := by decide +kernel
theorem td : textO Lib.itoa (some deadE) = [100, 101, 97, 100, 108, 105, 110, 101, 58, 32, 99, 111, 100, 101, 32, 50] := by decide +kernel
theorem ok19 (W : World) : TO Lib.itoa W (some e19) :=
  ⟨⟨by decide, by decide +kernel, ⟨by decide, by decide +kernel, ⟨by decide, by decide +kernel, trivial, trivial⟩, ⟨by decide, by decide +kernel, trivial, trivial⟩⟩, trivial⟩,
   ⟨fun h => absurd h (by decide), ⟨fun h => absurd h (by decide), ⟨fun _ => ItOk.small _ _ (by decide) (by decide), trivial, trivial⟩, ⟨fun _ => ItOk.small _ _ (by decide) (by decide), trivial, trivial⟩⟩, trivial⟩⟩
theorem okd (W : World) : TO Lib.itoa W (some deadE) :=
  ⟨⟨by decide, by decide +kernel, ⟨by decide, by decide +kernel, trivial, trivial⟩, trivial⟩,
   ⟨fun h => absurd h (by decide), ⟨fun _ => ItOk.small _ _ (by decide) (by decide), trivial, trivial⟩, trivial⟩⟩

set_option maxRecDepth 100000 in
set_option maxHeartbeats 1000000 in
theorem awake_any (W : World) : Calls Try.prog 15 #[] W (BoolPost true W) := by
  go_enter Try.func15, Try.ntmps15
  go_wp2_with fail
  have H := cause_any 1 9 W
  rw [c19] at H
  refine H.mono ?_
  rintro e w1 ⟨hb, v, rfl, hv⟩
  have HB := Lib.hid hb
  have HV := Lib.hid hv
  clear hb hv H
  go_wp2_with fail
  have H := is_o 9 (some e19) v w1 HV.out
  rw [h9] at H
  refine H.mono ?_
  rintro e w2 ⟨rfl, hb⟩
  have HC := Lib.hid (HB.out.trans (hb.mono HB.out.size))
  have HW := Lib.hid (HV.out.later hb)
  clear hb H HB HV
  have HB := HC
  have HV := HW
  clear HC HW
  go_wp2_with fail
  have H := is_o 1 (some e19) v w2 HV.out
  rw [h1] at H
  refine H.mono ?_
  rintro e w3 ⟨rfl, hb⟩
  have HC := Lib.hid (HB.out.trans (hb.mono HB.out.size))
  have HW := Lib.hid (HV.out.later hb)
  clear hb H HB HV
  have HB := HC
  have HV := HW
  clear HC HW
  go_wp2_with fail
  have H := is_o 2 (some e19) v w3 HV.out
  rw [h2] at H
  refine H.mono ?_
  rintro e w4 ⟨rfl, hb⟩
  have HC := Lib.hid (HB.out.trans (hb.mono HB.out.size))
  have HW := Lib.hid (HV.out.later hb)
  clear hb H HB HV
  have HB := HC
  have HV := HW
  clear HC HW
  go_wp2_with fail
  have H := deepest_o (some e19) v w4 HV.out
  rw [d19] at H
  refine H.mono ?_
  rintro e w5 ⟨rfl, hb⟩
  have HC := Lib.hid (HB.out.trans (hb.mono HB.out.size))
  have HW := Lib.hid (HV.out.later hb)
  clear hb H HB HV
  have HB := HC
  have HV := HW
  clear HC HW
  go_wp2_with fail
  have H := err_any 0 w5
  rw [e0] at H
  refine H.mono ?_
  rintro e w6 ⟨hb, v5, rfl, rfl⟩
  have HC := Lib.hid (HB.out.trans (hb.mono HB.out.size))
  have HW := Lib.hid (HV.out.later hb)
  clear hb H HB HV
  have HB := HC
  have HV := HW
  clear HC HW
  go_wp2_with fail
  have H := err_any 2 w6
  rw [e2] at H
  refine H.mono ?_
  rintro e w7 ⟨hb, v6, rfl, hv⟩
  have HX := Lib.hid hv
  clear hv
  have HC := Lib.hid (HB.out.trans (hb.mono HB.out.size))
  have HW := Lib.hid (HV.out.later hb)
  clear hb H HB HV
  have HB := HC
  have HV := HW
  clear HC HW
  go_wp2_with fail
  have H := timeout_o (some deadE) v6 w7 HX.out
  rw [hd2] at H
  refine H.mono ?_
  rintro e w8 ⟨rfl, hb⟩
  have HC := Lib.hid (HB.out.trans (hb.mono HB.out.size))
  have HW := Lib.hid (HV.out.later hb)
  clear hb H HB HV
  have HB := HC
  have HV := HW
  clear HC HW
  go_wp2_with fail
  have H := timeout_o (some e19) v w8 HV.out
  rw [h2] at H
  refine H.mono ?_
  rintro e w9 ⟨rfl, hb⟩
  have HC := Lib.hid (HB.out.trans (hb.mono HB.out.size))
  have HW := Lib.hid (HV.out.later hb)
  clear hb H HB HV
  have HB := HC
  have HV := HW
  clear HC HW
  go_wp2_with fail
  have H := err_any 2 w9
  rw [e2] at H
  refine H.mono ?_
  rintro e w10 ⟨hb, v9, rfl, hv⟩
  have HX := Lib.hid hv
  clear hv
  have HC := Lib.hid (HB.out.trans (hb.mono HB.out.size))
  have HW := Lib.hid (HV.out.later hb)
  clear hb H HB HV
  have HB := HC
  have HV := HW
  clear HC HW
  go_wp2_with fail
  have H := text_o (s := Lib.itoa) (some deadE) v9 w10 HX.out (okd w10)
  rw [td] at H
  refine H.mono ?_
  rintro e w11 ⟨rfl, hb⟩
  have HC := Lib.hid (HB.out.trans (hb.mono HB.out.size))
  have HW := Lib.hid (HV.out.later hb)
  clear hb H HB HV
  have HB := HC
  have HV := HW
  clear HC HW
  go_wp2_with fail
  have H := text_o (s := Lib.itoa) (some e19) v w11 HV.out (ok19 w11)
  rw [t19] at H
  refine H.mono ?_
  rintro e w12 ⟨rfl, hb⟩
  have HC := Lib.hid (HB.out.trans (hb.mono HB.out.size))
  have HW := Lib.hid (HV.out.later hb)
  clear hb H HB HV
  have HB := HC
  have HV := HW
  clear HC HW
  go_wp2_with fail
  have H := text_nil w12
  refine H.mono ?_
  rintro e w13 ⟨rfl, hb⟩
  have HC := Lib.hid (HB.out.trans (hb.mono HB.out.size))
  have HW := Lib.hid (HV.out.later hb)
  clear hb H HB HV
  have HB := HC
  have HV := HW
  clear HC HW
  go_wp2_with fail
  have H := deepest_o none .nilIface w13 rfl
  rw [dn] at H
  refine H.mono ?_
  rintro e w14 ⟨rfl, hb⟩
  have HC := Lib.hid (HB.out.trans (hb.mono HB.out.size))
  have HW := Lib.hid (HV.out.later hb)
  clear hb H HB HV
  have HB := HC
  have HV := HW
  clear HC HW
  go_wp2_with fail
  go_ret
  exact ⟨rfl, HB.out⟩
#print axioms awake_any
end Go.Proofs.Ytbefcakakoaieaa
