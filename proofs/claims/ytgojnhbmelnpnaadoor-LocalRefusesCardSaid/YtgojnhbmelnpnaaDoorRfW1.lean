/- What concerns others is not done, and what may not be neither. Condition: the table of operations lies in its variable. -/
import Derived.Test.YtgojnhbmelnpnaaDoorRfA
namespace Go.Proofs.YtgojnhbmelnpnaaDoor.Pg
open Go.RowKit
set_option linter.unusedVariables false
set_option maxRecDepth 100000

set_option maxHeartbeats 4000000 in
theorem rf_mine_low (op : Int) (k : Nat) (hk : Hid (pk op 32 = k)) (g : Nat → Int) (hm : Hid (mineB ((k + 1 : Nat) : Int) = true)) (pc : Int) (hp : Hid (pc < 0 ∨ 1 < pc)) (h1 : pc < 0) (W : World) (hF : Hid (FT W)) : Calls Tryd.prog 6 #[.int .i64 op, .int .i64 pc, .agg (gR g)] W (BoolR true W) := by
  have hk' : k < 32 := by have := pk_lt op (m := 32) (by omega); rw [hk.out] at this; exact this
  have HS0 := Lib.hid (RfS.new hF.out g (pI ((k + 1 : Nat) : Int) 0 0 0))
  obtain ⟨u, hu⟩ : ∃ u, doO (pI ((k + 1 : Nat) : Int) 0 0 0) 0 g 1 = u := ⟨_, rfl⟩
  have hda : doX [pI ((k + 1 : Nat) : Int) 0 0 0] 0 g 1 = (u, 0) := by rw [rf_a hk' g hm.out, hu]
  clear hu
  have hdb := rf_b hk' g
  have hdc : doX [pI ((k + 1 : Nat) : Int) 0 0 0] (pc) g 1 = (zO, 1) := rf_o hk' g hp.out
  replace hda := Lib.hid hda
  replace hdb := Lib.hid hdb
  replace hdc := Lib.hid hdc
  have z1 : (1 : Int) + (k : Int) = ((k + 1 : Nat) : Int) := by omega
  have z2 : IntKind.i64.wrap (1 + (k : Int)) = ((k + 1 : Nat) : Int) := by rw [IntKind.wrap_i64]; omega
  go_enter Tryd.func6, Tryd.ntmps6
  go_wp2_with fail
  refine (show Calls Tryd.prog 13 #[.int .i64 op, .int .i64 ((32 : Nat) : Int)] _ _ from round_pk op 32 _ (by omega) (by omega)).mono ?_
  rintro e0 w0 ⟨rfl, rfl⟩
  rw [hk.out]
  generalize ((k + 1 : Nat) : Int) = z at *
  clear z1
  go_upto_region 3 with fail
  change Code.wp _ _ _ _ ((W.alloc (.cells (gR g) 23)).alloc (.cells (iW (pI z 0 0 0)) 39))
  generalize (W.alloc (.cells (gR g) 23)).alloc (.cells (iW (pI z 0 0 0)) 39) = W1 at *
  go_wp2_with (first
    | (refine wp_ldB rfl (.tmp 8) rfl rfl HS0.out.i Tryd.underlying39 rfl i39 ?_)
    | (refine wpl_run rfl (ex_bs (v := .agg (iW (pI z 0 0 0))) rfl rfl (bs1 (pI z 0 0 0) W1)) ?_)
    | (refine wp_ldB (w := W1.alloc (.cells (iW (pI z 0 0 0)) 39)) rfl (.tmp 5) rfl rfl (HS0.out.later (below_al _ _)).g Tryd.underlying23 rfl i23 ?_))
  refine (do_is hda.out (HS0.out.ft.later (below_al _ _)) (rd1 z)).mono ?_
  rintro e1 w1 ⟨rfl, hb1⟩
  have HS1 := Lib.hid ((HS0.out.later (below_al _ _)).later hb1)
  clear hb1 HS0
  go_upto_region 4 with (refine wp_stNG (v := oR u) (R := OuR w1 28 u) rfl (.tmp 9) (.tmp 25) rfl rfl rfl rfl rfl i28 (oR_one _) (OuR.new ..) ?_; intro W2 h2; have HS2 := Lib.hid (HS1.out.later h2.2); have A2 := Lib.hid h2.1; clear h2 HS1)
  go_wp2_with (first
    | (refine wp_ldB rfl (.tmp 8) rfl rfl HS2.out.i Tryd.underlying39 rfl i39 ?_)
    | (refine wpl_run rfl (ex_b (vs := #[(0, .int .i64 33)]) rfl rfl (b39 33 W2)) ?_)
    | (refine wpl_run rfl (ex_bs2 (u := .agg (iW (pI z 0 0 0))) (v := .agg (iW (pI 33 0 0 0))) rfl rfl rfl (bs2 (pI z 0 0 0) (pI 33 0 0 0) W2)) ?_)
    | (refine wp_ldB (w := W2.alloc (.cells (iW (pI z 0 0 0) ++ iW (pI 33 0 0 0)) 39)) rfl (.tmp 5) rfl rfl (HS2.out.later (below_al _ _)).g Tryd.underlying23 rfl i23 ?_))
  refine (do_is hdb.out (HS2.out.ft.later (below_al _ _)) (rd2 z 33)).mono ?_
  rintro e2 w2 ⟨rfl, hb2⟩
  have HS3 := Lib.hid ((HS2.out.later (below_al _ _)).later hb2)
  have A3 := Lib.hid ((A2.out.later (below_al _ _)).later hb2)
  clear hb2 HS2 A2
  go_upto_region 5 with (refine wp_stNG (v := oR zO) (R := OuR w2 28 zO) rfl (.tmp 11) (.tmp 33) rfl rfl rfl rfl rfl i28 (oR_one _) (OuR.new ..) ?_; intro W3 h3; have HS4 := Lib.hid (HS3.out.later h3.2); have A4 := Lib.hid (A3.out.later h3.2); have B4 := Lib.hid h3.1; clear h3 HS3 A3)
  go_wp2_with (first
    | (refine wp_ldB rfl (.tmp 8) rfl rfl HS4.out.i Tryd.underlying39 rfl i39 ?_)
    | (refine wpl_run rfl (ex_bs (v := .agg (iW (pI z 0 0 0))) rfl rfl (bs1 (pI z 0 0 0) W3)) ?_)
    | (refine wp_ldB (w := W3.alloc (.cells (iW (pI z 0 0 0)) 39)) rfl (.tmp 5) rfl rfl (HS4.out.later (below_al _ _)).g Tryd.underlying23 rfl i23 ?_))
  refine (do_is hdc.out (HS4.out.ft.later (below_al _ _)) (rd1 z)).mono ?_
  rintro e3 w3 ⟨rfl, hb3⟩
  have HS5 := Lib.hid ((HS4.out.later (below_al _ _)).later hb3)
  have A5 := Lib.hid ((A4.out.later (below_al _ _)).later hb3)
  have B5 := Lib.hid ((B4.out.later (below_al _ _)).later hb3)
  clear hb3 HS4 A4 B4
  go_upto_region 6 with (refine wp_stNG (v := oR zO) (R := OuR w3 28 zO) rfl (.tmp 13) (.tmp 41) rfl rfl rfl rfl rfl i28 (oR_one _) (OuR.new ..) ?_; intro W4 h4; have HS6 := Lib.hid (HS5.out.later h4.2); have A6 := Lib.hid (A5.out.later h4.2); have B6 := Lib.hid (B5.out.later h4.2); have C6 := Lib.hid h4.1; clear h4 HS5 A5 B5)
  have q0 := eq_out zO W4
  have q1 := eq_out ⟨1, g, false, 0, true⟩ W4
  clear q0 q1
  go_wp2_with (first
    | (refine wpl_wrun (run_ldB (.tmp 11) rfl rfl B6.out Tryd.underlying28 rfl i28) ?_ (by kernel_rfl))
    | (refine wpl_wrun (ex_b (vs := #[]) rfl rfl (b28z W4)) ?_ (by kernel_rfl))
    | (refine wpl_wrun (run_ne28 (u := zO) (.tmp 46) (.tmp 47) rfl rfl rfl) ?_ (by kernel_rfl)))
  refine (mine_yes hm.out _).mono ?_
  rintro e4 w4 ⟨rfl, rfl⟩
  go_upto_region 9 with fail
  go_wp2_with (first
    | (refine wpl_wrun (run_ldB (.tmp 13) rfl rfl C6.out Tryd.underlying28 rfl i28) ?_ (by kernel_rfl))
    | (refine wpl_wrun (ex_b (vs := #[]) rfl rfl (b28z W4)) ?_ (by kernel_rfl))
    | (refine wpl_wrun (run_eq28 (u := zO) (.tmp 79) (.tmp 80) rfl rfl rfl) ?_ (by kernel_rfl)))
  refine (awake_any _ HS6.out.ft).mono ?_
  rintro e5 w5 ⟨rfl, hb5⟩
  have HB := Lib.hid (HS6.out.later hb5).bel
  clear hb5
  go_wp2_with fail
  go_ret
  exact ⟨rfl, HB.out⟩
set_option maxHeartbeats 4000000 in
theorem rf_mine_high (op : Int) (k : Nat) (hk : Hid (pk op 32 = k)) (g : Nat → Int) (hm : Hid (mineB ((k + 1 : Nat) : Int) = true)) (pc : Int) (hp : Hid (pc < 0 ∨ 1 < pc)) (h1 : 1 < pc) (W : World) (hF : Hid (FT W)) : Calls Tryd.prog 6 #[.int .i64 op, .int .i64 pc, .agg (gR g)] W (BoolR true W) := by
  have hk' : k < 32 := by have := pk_lt op (m := 32) (by omega); rw [hk.out] at this; exact this
  have HS0 := Lib.hid (RfS.new hF.out g (pI ((k + 1 : Nat) : Int) 0 0 0))
  obtain ⟨u, hu⟩ : ∃ u, doO (pI ((k + 1 : Nat) : Int) 0 0 0) 0 g 1 = u := ⟨_, rfl⟩
  have hda : doX [pI ((k + 1 : Nat) : Int) 0 0 0] 0 g 1 = (u, 0) := by rw [rf_a hk' g hm.out, hu]
  clear hu
  have hdb := rf_b hk' g
  have hdc : doX [pI ((k + 1 : Nat) : Int) 0 0 0] (pc) g 1 = (zO, 1) := rf_o hk' g hp.out
  replace hda := Lib.hid hda
  replace hdb := Lib.hid hdb
  replace hdc := Lib.hid hdc
  have z1 : (1 : Int) + (k : Int) = ((k + 1 : Nat) : Int) := by omega
  have z2 : IntKind.i64.wrap (1 + (k : Int)) = ((k + 1 : Nat) : Int) := by rw [IntKind.wrap_i64]; omega
  have h2 : ¬ pc < 0 := by omega
  go_enter Tryd.func6, Tryd.ntmps6
  go_wp2_with fail
  refine (show Calls Tryd.prog 13 #[.int .i64 op, .int .i64 ((32 : Nat) : Int)] _ _ from round_pk op 32 _ (by omega) (by omega)).mono ?_
  rintro e0 w0 ⟨rfl, rfl⟩
  rw [hk.out]
  generalize ((k + 1 : Nat) : Int) = z at *
  clear z1
  go_upto_region 3 with fail
  change Code.wp _ _ _ _ ((W.alloc (.cells (gR g) 23)).alloc (.cells (iW (pI z 0 0 0)) 39))
  generalize (W.alloc (.cells (gR g) 23)).alloc (.cells (iW (pI z 0 0 0)) 39) = W1 at *
  go_wp2_with (first
    | (refine wp_ldB rfl (.tmp 8) rfl rfl HS0.out.i Tryd.underlying39 rfl i39 ?_)
    | (refine wpl_run rfl (ex_bs (v := .agg (iW (pI z 0 0 0))) rfl rfl (bs1 (pI z 0 0 0) W1)) ?_)
    | (refine wp_ldB (w := W1.alloc (.cells (iW (pI z 0 0 0)) 39)) rfl (.tmp 5) rfl rfl (HS0.out.later (below_al _ _)).g Tryd.underlying23 rfl i23 ?_))
  refine (do_is hda.out (HS0.out.ft.later (below_al _ _)) (rd1 z)).mono ?_
  rintro e1 w1 ⟨rfl, hb1⟩
  have HS1 := Lib.hid ((HS0.out.later (below_al _ _)).later hb1)
  clear hb1 HS0
  go_upto_region 4 with (refine wp_stNG (v := oR u) (R := OuR w1 28 u) rfl (.tmp 9) (.tmp 25) rfl rfl rfl rfl rfl i28 (oR_one _) (OuR.new ..) ?_; intro W2 h2; have HS2 := Lib.hid (HS1.out.later h2.2); have A2 := Lib.hid h2.1; clear h2 HS1)
  go_wp2_with (first
    | (refine wp_ldB rfl (.tmp 8) rfl rfl HS2.out.i Tryd.underlying39 rfl i39 ?_)
    | (refine wpl_run rfl (ex_b (vs := #[(0, .int .i64 33)]) rfl rfl (b39 33 W2)) ?_)
    | (refine wpl_run rfl (ex_bs2 (u := .agg (iW (pI z 0 0 0))) (v := .agg (iW (pI 33 0 0 0))) rfl rfl rfl (bs2 (pI z 0 0 0) (pI 33 0 0 0) W2)) ?_)
    | (refine wp_ldB (w := W2.alloc (.cells (iW (pI z 0 0 0) ++ iW (pI 33 0 0 0)) 39)) rfl (.tmp 5) rfl rfl (HS2.out.later (below_al _ _)).g Tryd.underlying23 rfl i23 ?_))
  refine (do_is hdb.out (HS2.out.ft.later (below_al _ _)) (rd2 z 33)).mono ?_
  rintro e2 w2 ⟨rfl, hb2⟩
  have HS3 := Lib.hid ((HS2.out.later (below_al _ _)).later hb2)
  have A3 := Lib.hid ((A2.out.later (below_al _ _)).later hb2)
  clear hb2 HS2 A2
  go_upto_region 5 with (refine wp_stNG (v := oR zO) (R := OuR w2 28 zO) rfl (.tmp 11) (.tmp 33) rfl rfl rfl rfl rfl i28 (oR_one _) (OuR.new ..) ?_; intro W3 h3; have HS4 := Lib.hid (HS3.out.later h3.2); have A4 := Lib.hid (A3.out.later h3.2); have B4 := Lib.hid h3.1; clear h3 HS3 A3)
  go_wp2_with (first
    | (refine wp_ldB rfl (.tmp 8) rfl rfl HS4.out.i Tryd.underlying39 rfl i39 ?_)
    | (refine wpl_run rfl (ex_bs (v := .agg (iW (pI z 0 0 0))) rfl rfl (bs1 (pI z 0 0 0) W3)) ?_)
    | (refine wp_ldB (w := W3.alloc (.cells (iW (pI z 0 0 0)) 39)) rfl (.tmp 5) rfl rfl (HS4.out.later (below_al _ _)).g Tryd.underlying23 rfl i23 ?_))
  refine (do_is hdc.out (HS4.out.ft.later (below_al _ _)) (rd1 z)).mono ?_
  rintro e3 w3 ⟨rfl, hb3⟩
  have HS5 := Lib.hid ((HS4.out.later (below_al _ _)).later hb3)
  have A5 := Lib.hid ((A4.out.later (below_al _ _)).later hb3)
  have B5 := Lib.hid ((B4.out.later (below_al _ _)).later hb3)
  clear hb3 HS4 A4 B4
  go_upto_region 6 with (refine wp_stNG (v := oR zO) (R := OuR w3 28 zO) rfl (.tmp 13) (.tmp 41) rfl rfl rfl rfl rfl i28 (oR_one _) (OuR.new ..) ?_; intro W4 h4; have HS6 := Lib.hid (HS5.out.later h4.2); have A6 := Lib.hid (A5.out.later h4.2); have B6 := Lib.hid (B5.out.later h4.2); have C6 := Lib.hid h4.1; clear h4 HS5 A5 B5)
  have q0 := eq_out zO W4
  have q1 := eq_out ⟨1, g, false, 0, true⟩ W4
  clear q0 q1
  go_wp2_with (first
    | (refine wpl_wrun (run_ldB (.tmp 11) rfl rfl B6.out Tryd.underlying28 rfl i28) ?_ (by kernel_rfl))
    | (refine wpl_wrun (ex_b (vs := #[]) rfl rfl (b28z W4)) ?_ (by kernel_rfl))
    | (refine wpl_wrun (run_ne28 (u := zO) (.tmp 46) (.tmp 47) rfl rfl rfl) ?_ (by kernel_rfl)))
  refine (mine_yes hm.out _).mono ?_
  rintro e4 w4 ⟨rfl, rfl⟩
  go_upto_region 9 with fail
  go_wp2_with (first
    | (refine wpl_wrun (run_ldB (.tmp 13) rfl rfl C6.out Tryd.underlying28 rfl i28) ?_ (by kernel_rfl))
    | (refine wpl_wrun (ex_b (vs := #[]) rfl rfl (b28z W4)) ?_ (by kernel_rfl))
    | (refine wpl_wrun (run_eq28 (u := zO) (.tmp 79) (.tmp 80) rfl rfl rfl) ?_ (by kernel_rfl)))
  refine (awake_any _ HS6.out.ft).mono ?_
  rintro e5 w5 ⟨rfl, hb5⟩
  have HB := Lib.hid (HS6.out.later hb5).bel
  clear hb5
  go_wp2_with fail
  go_ret
  exact ⟨rfl, HB.out⟩
end Go.Proofs.YtgojnhbmelnpnaaDoor.Pg
