/- The document's reckoning of a jump that asks, and of an end. Conditions: the program lies where its slice says, with few cases each. -/
import Derived.Test.YtgojnhbmelnpnaaDoorRe0
namespace Go.Proofs.YtgojnhbmelnpnaaDoor.Pg
open Go.RowKit
set_option linter.unusedVariables false
set_option maxRecDepth 100000

section
variable {A : Option Addr} {n cap : Nat} {l : List In} {w : World} {g : Nat → Int} {pc now : Int}
set_option maxHeartbeats 2000000 in
theorem ref_5z (hR : Hid (RdI w A n l)) (hsm : Hid (∀ e ∈ l, e.n ≤ 20)) (hC : Hid (checkB l 16 = true)) (k : Nat) {x : In} (hx : l[k]? = some x) (ho : x.op = 5) {na : Nat} (hna : na < 8) (ha : x.a = (na : Int)) (h0 : g na = 0) : Calls Tryd.prog 10 #[.slice A n cap, .int .i64 (k : Int), .agg (gR g), .int .i64 now] w (DoR (⟨x.b, g, false, 0, false⟩) 0 w) := by
  have HS : Hid (DoS w 32 g ((w.alloc (.cells (gR g) 23)).alloc (.cells (oR zO) 32))) := DoS.new w 32 g
  have HR0 := Lib.hid (hR.out.later HS.out.bel)
  have hkn : k < n := by have := (List.getElem?_eq_some_iff.1 hx).1; rw [hR.out.1] at this; exact this
  obtain ⟨op, a, b, c, iA, m, cp, d, cs⟩ := x
  have q1 : ¬ (k : Int) < 0 := by omega
  have q2 : ¬ (n : Int) < (k : Int) := by omega
  have q3 : ((k : Int) == (n : Int)) = false := by simp; omega
  have q4 : (k : Int) < (n : Int) := by omega
  have q5 : (0 : Int) ≤ (k : Int) := by omega
  simp only at ho ha
  subst ho
  subst ha
  have b1 : (na : Int) < 8 := by omega
  have b3 : (0 : Int) ≤ (na : Int) := by omega
  have HX := Lib.hid hx
  have HK : Hid ((k : Int) ≤ 100) := by have := chk_len hC.out; have h2 := (List.getElem?_eq_some_iff.1 hx).1; show _ ≤ _; omega
  have q6 := HK.out
  clear hx hkn HK
  go_enter Tryd.func10, Tryd.ntmps10
  go_wp2_with fail
  refine (prog_yes HR0.out hsm.out hC.out).mono ?_
  rintro e1 w1 ⟨rfl, hb1⟩
  have HS1 := Lib.hid (HS.out.later hb1)
  have HR1 := Lib.hid (HR0.out.later hb1)
  clear hb1 HS HR0
  obtain ⟨bb, off, rfl, hbb, hcc⟩ := HR1.out.cells (show 0 < n by omega)
  obtain ⟨c0, c1, c2, c3, c4, c5⟩ := hcc k _ HX.out
  simp only at c0 c1 c2 c3 c4 c5
  clear hcc HR1
  go_upto_region 3 with fail
  go_wp2_with (first
    | (refine wp_ldB rfl (.tmp 6) rfl rfl HS1.out.g Tryd.underlying23 rfl i23 ?_)
    | (refine wpl_run rfl (ex_b (vs := #[(0, .int .i64 (k : Int)), (1, .agg (gR g))]) rfl (by simp [Act.eval]; exact ⟨rfl, rfl⟩) (b32t _ _ _)) ?_)
    | (refine wp_stNG (v := oR ⟨(k : Int), g, false, 0, false⟩) (R := DqR w w1 g w1.heap.size ⟨(k : Int), g, false, 0, false⟩) rfl (.tmp 10) (.tmp 28) rfl rfl rfl rfl rfl i32 (oR_one _) (DqR.new HS1.out _) ?_; intro W2 h2; have HQ := Lib.hid h2.1; have d0 := (cell_blk (h2.2.block bb hbb) _).trans c0; have d1 := (cell_blk (h2.2.block bb hbb) _).trans c1; have d2 := (cell_blk (h2.2.block bb hbb) _).trans c2; have d3 := (cell_blk (h2.2.block bb hbb) _).trans c3; have d4 := (cell_blk (h2.2.block bb hbb) _).trans c4; have d5 := (cell_blk (h2.2.block bb hbb) _).trans c5; have hb2 : bb < W2.heap.size := Nat.lt_of_lt_of_le hbb h2.2.size; clear h2 c0 c1 c2 c3 c4 c5)
    | (refine wp_stNG (v := iW ⟨5, (na : Int), b, c, iA, m, cp, d, cs⟩) (R := DrS w g w1.heap.size ⟨(k : Int), g, false, 0, false⟩ W2.heap.size ⟨5, (na : Int), b, c, iA, m, cp, d, cs⟩) rfl (.tmp 11) (.tmp 38) rfl rfl rfl rfl rfl i39 (iW_one _) (DrS.new HQ.out _) ?_; intro W3 h3; have HP := Lib.hid h3; have k0 := h3.i.cell 0; have k1 := h3.i.cell 1; have k2 := h3.i.cell 2; clear h3 d0 d1 d2 d3 d4 d5; rw [show (iW ⟨5, (na : Int), b, c, iA, m, cp, d, cs⟩)[0]? = some (.int .i64 (5)) from rfl] at k0; rw [show (iW ⟨5, (na : Int), b, c, iA, m, cp, d, cs⟩)[1]? = some (.int .i64 ((na : Int))) from rfl] at k1; rw [show (iW ⟨5, (na : Int), b, c, iA, m, cp, d, cs⟩)[2]? = some (.int .i64 (b)) from rfl] at k2)
    | (go_at_call 12; refine (rmine_yes (show mineB 5 = true from rfl) _).mono ?_; rintro e2 w2 ⟨rfl, rfl⟩)
    | (refine wp_stG (R := DrS w g w1.heap.size ⟨(k : Int) + 1, g, false, 0, false⟩ W2.heap.size ⟨5, (na : Int), b, c, iA, m, cp, d, cs⟩) rfl (.tmp 46) (.tmp 45) rfl rfl rfl HP.out.s.q (by rw [oR_size]; omega) (HP.out.set rfl) ?_; intro W4 h4; have HU := Lib.hid h4; clear HP k0 k1 k2; have k0 := h4.i.cell 0; have k1 := h4.i.cell 1; have k2 := h4.i.cell 2; clear h4; rw [show (iW ⟨5, (na : Int), b, c, iA, m, cp, d, cs⟩)[0]? = some (.int .i64 (5)) from rfl] at k0; rw [show (iW ⟨5, (na : Int), b, c, iA, m, cp, d, cs⟩)[1]? = some (.int .i64 ((na : Int))) from rfl] at k1; rw [show (iW ⟨5, (na : Int), b, c, iA, m, cp, d, cs⟩)[2]? = some (.int .i64 (b)) from rfl] at k2; have kg := HU.out.s.s.reg hna; rw [h0] at kg)
    | (refine wp_stG (R := DrS w g w1.heap.size ⟨b, g, false, 0, false⟩ W2.heap.size ⟨5, (na : Int), b, c, iA, m, cp, d, cs⟩) rfl (.tmp 94) (.tmp 93) rfl rfl rfl HU.out.s.q (by rw [oR_size]; omega) (HU.out.set rfl) ?_; intro W5 h5; have HV := Lib.hid h5; clear h5 HU)
    | (refine wp_ldB rfl (.tmp 10) rfl rfl HV.out.s.q Tryd.underlying32 rfl i32 ?_)
    | (refine wp_stB (v := oR ⟨b, g, false, 0, false⟩) rfl (.tmp 8) (.tmp 115) rfl rfl rfl HV.out.s.s.r rfl i32 (oR_one _) ?_))
  refine bodyPost_ret (v := .tuple #[.agg (oR ⟨b, g, false, 0, false⟩), .int .i64 0]) ?_ rfl (HV.out.s.s.ret ⟨b, g, false, 0, false⟩ 0)
  exact (res_cell (p := 8) (q := 9) (ty := 32) (b := w.heap.size + 1) (u := oR ⟨b, g, false, 0, false⟩) rfl _ rfl (HV.out.s.s.r.row _) Tryd.underlying32 rfl i32).trans rfl
set_option maxHeartbeats 2000000 in
theorem ref_5n (hR : Hid (RdI w A n l)) (hsm : Hid (∀ e ∈ l, e.n ≤ 20)) (hC : Hid (checkB l 16 = true)) (k : Nat) {x : In} (hx : l[k]? = some x) (ho : x.op = 5) {na : Nat} (hna : na < 8) (ha : x.a = (na : Int)) (h0 : g na ≠ 0) : Calls Tryd.prog 10 #[.slice A n cap, .int .i64 (k : Int), .agg (gR g), .int .i64 now] w (DoR (⟨(k : Int) + 1, g, false, 0, false⟩) 0 w) := by
  have HS : Hid (DoS w 32 g ((w.alloc (.cells (gR g) 23)).alloc (.cells (oR zO) 32))) := DoS.new w 32 g
  have HR0 := Lib.hid (hR.out.later HS.out.bel)
  have hkn : k < n := by have := (List.getElem?_eq_some_iff.1 hx).1; rw [hR.out.1] at this; exact this
  obtain ⟨op, a, b, c, iA, m, cp, d, cs⟩ := x
  have q1 : ¬ (k : Int) < 0 := by omega
  have q2 : ¬ (n : Int) < (k : Int) := by omega
  have q3 : ((k : Int) == (n : Int)) = false := by simp; omega
  have q4 : (k : Int) < (n : Int) := by omega
  have q5 : (0 : Int) ≤ (k : Int) := by omega
  simp only at ho ha
  subst ho
  subst ha
  have b1 : (na : Int) < 8 := by omega
  have b3 : (0 : Int) ≤ (na : Int) := by omega
  have g0 : (g na == 0) = false := by simpa using h0
  clear h0
  have HX := Lib.hid hx
  have HK : Hid ((k : Int) ≤ 100) := by have := chk_len hC.out; have h2 := (List.getElem?_eq_some_iff.1 hx).1; show _ ≤ _; omega
  have q6 := HK.out
  clear hx hkn HK
  go_enter Tryd.func10, Tryd.ntmps10
  go_wp2_with fail
  refine (prog_yes HR0.out hsm.out hC.out).mono ?_
  rintro e1 w1 ⟨rfl, hb1⟩
  have HS1 := Lib.hid (HS.out.later hb1)
  have HR1 := Lib.hid (HR0.out.later hb1)
  clear hb1 HS HR0
  obtain ⟨bb, off, rfl, hbb, hcc⟩ := HR1.out.cells (show 0 < n by omega)
  obtain ⟨c0, c1, c2, c3, c4, c5⟩ := hcc k _ HX.out
  simp only at c0 c1 c2 c3 c4 c5
  clear hcc HR1
  go_upto_region 3 with fail
  go_wp2_with (first
    | (refine wp_ldB rfl (.tmp 6) rfl rfl HS1.out.g Tryd.underlying23 rfl i23 ?_)
    | (refine wpl_run rfl (ex_b (vs := #[(0, .int .i64 (k : Int)), (1, .agg (gR g))]) rfl (by simp [Act.eval]; exact ⟨rfl, rfl⟩) (b32t _ _ _)) ?_)
    | (refine wp_stNG (v := oR ⟨(k : Int), g, false, 0, false⟩) (R := DqR w w1 g w1.heap.size ⟨(k : Int), g, false, 0, false⟩) rfl (.tmp 10) (.tmp 28) rfl rfl rfl rfl rfl i32 (oR_one _) (DqR.new HS1.out _) ?_; intro W2 h2; have HQ := Lib.hid h2.1; have d0 := (cell_blk (h2.2.block bb hbb) _).trans c0; have d1 := (cell_blk (h2.2.block bb hbb) _).trans c1; have d2 := (cell_blk (h2.2.block bb hbb) _).trans c2; have d3 := (cell_blk (h2.2.block bb hbb) _).trans c3; have d4 := (cell_blk (h2.2.block bb hbb) _).trans c4; have d5 := (cell_blk (h2.2.block bb hbb) _).trans c5; have hb2 : bb < W2.heap.size := Nat.lt_of_lt_of_le hbb h2.2.size; clear h2 c0 c1 c2 c3 c4 c5)
    | (refine wp_stNG (v := iW ⟨5, (na : Int), b, c, iA, m, cp, d, cs⟩) (R := DrS w g w1.heap.size ⟨(k : Int), g, false, 0, false⟩ W2.heap.size ⟨5, (na : Int), b, c, iA, m, cp, d, cs⟩) rfl (.tmp 11) (.tmp 38) rfl rfl rfl rfl rfl i39 (iW_one _) (DrS.new HQ.out _) ?_; intro W3 h3; have HP := Lib.hid h3; have k0 := h3.i.cell 0; have k1 := h3.i.cell 1; have k2 := h3.i.cell 2; clear h3 d0 d1 d2 d3 d4 d5; rw [show (iW ⟨5, (na : Int), b, c, iA, m, cp, d, cs⟩)[0]? = some (.int .i64 (5)) from rfl] at k0; rw [show (iW ⟨5, (na : Int), b, c, iA, m, cp, d, cs⟩)[1]? = some (.int .i64 ((na : Int))) from rfl] at k1; rw [show (iW ⟨5, (na : Int), b, c, iA, m, cp, d, cs⟩)[2]? = some (.int .i64 (b)) from rfl] at k2)
    | (go_at_call 12; refine (rmine_yes (show mineB 5 = true from rfl) _).mono ?_; rintro e2 w2 ⟨rfl, rfl⟩)
    | (refine wp_stG (R := DrS w g w1.heap.size ⟨(k : Int) + 1, g, false, 0, false⟩ W2.heap.size ⟨5, (na : Int), b, c, iA, m, cp, d, cs⟩) rfl (.tmp 46) (.tmp 45) rfl rfl rfl HP.out.s.q (by rw [oR_size]; omega) (HP.out.set rfl) ?_; intro W4 h4; have HU := Lib.hid h4; clear HP k0 k1 k2; have k0 := h4.i.cell 0; have k1 := h4.i.cell 1; have k2 := h4.i.cell 2; clear h4; rw [show (iW ⟨5, (na : Int), b, c, iA, m, cp, d, cs⟩)[0]? = some (.int .i64 (5)) from rfl] at k0; rw [show (iW ⟨5, (na : Int), b, c, iA, m, cp, d, cs⟩)[1]? = some (.int .i64 ((na : Int))) from rfl] at k1; rw [show (iW ⟨5, (na : Int), b, c, iA, m, cp, d, cs⟩)[2]? = some (.int .i64 (b)) from rfl] at k2; have kg := HU.out.s.s.reg hna)
    | (refine wp_ldB rfl (.tmp 10) rfl rfl HU.out.s.q Tryd.underlying32 rfl i32 ?_)
    | (refine wp_stB (v := oR ⟨(k : Int) + 1, g, false, 0, false⟩) rfl (.tmp 8) (.tmp 115) rfl rfl rfl HU.out.s.s.r rfl i32 (oR_one _) ?_))
  refine bodyPost_ret (v := .tuple #[.agg (oR ⟨(k : Int) + 1, g, false, 0, false⟩), .int .i64 0]) ?_ rfl (HU.out.s.s.ret ⟨(k : Int) + 1, g, false, 0, false⟩ 0)
  exact (res_cell (p := 8) (q := 9) (ty := 32) (b := w.heap.size + 1) (u := oR ⟨(k : Int) + 1, g, false, 0, false⟩) rfl _ rfl (HU.out.s.s.r.row _) Tryd.underlying32 rfl i32).trans rfl
set_option maxHeartbeats 2000000 in
theorem ref_7 (hR : Hid (RdI w A n l)) (hsm : Hid (∀ e ∈ l, e.n ≤ 20)) (hC : Hid (checkB l 16 = true)) (k : Nat) {x : In} (hx : l[k]? = some x) (ho : x.op = 7) : Calls Tryd.prog 10 #[.slice A n cap, .int .i64 (k : Int), .agg (gR g), .int .i64 now] w (DoR (⟨(k : Int), g, false, 0, true⟩) 0 w) := by
  have HS : Hid (DoS w 32 g ((w.alloc (.cells (gR g) 23)).alloc (.cells (oR zO) 32))) := DoS.new w 32 g
  have HR0 := Lib.hid (hR.out.later HS.out.bel)
  have hkn : k < n := by have := (List.getElem?_eq_some_iff.1 hx).1; rw [hR.out.1] at this; exact this
  obtain ⟨op, a, b, c, iA, m, cp, d, cs⟩ := x
  have q1 : ¬ (k : Int) < 0 := by omega
  have q2 : ¬ (n : Int) < (k : Int) := by omega
  have q3 : ((k : Int) == (n : Int)) = false := by simp; omega
  have q4 : (k : Int) < (n : Int) := by omega
  have q5 : (0 : Int) ≤ (k : Int) := by omega
  simp only at ho
  subst ho
  have HX := Lib.hid hx
  have HK : Hid ((k : Int) ≤ 100) := by have := chk_len hC.out; have h2 := (List.getElem?_eq_some_iff.1 hx).1; show _ ≤ _; omega
  have q6 := HK.out
  clear hx hkn HK
  go_enter Tryd.func10, Tryd.ntmps10
  go_wp2_with fail
  refine (prog_yes HR0.out hsm.out hC.out).mono ?_
  rintro e1 w1 ⟨rfl, hb1⟩
  have HS1 := Lib.hid (HS.out.later hb1)
  have HR1 := Lib.hid (HR0.out.later hb1)
  clear hb1 HS HR0
  obtain ⟨bb, off, rfl, hbb, hcc⟩ := HR1.out.cells (show 0 < n by omega)
  obtain ⟨c0, c1, c2, c3, c4, c5⟩ := hcc k _ HX.out
  simp only at c0 c1 c2 c3 c4 c5
  clear hcc HR1
  go_upto_region 3 with fail
  go_wp2_with (first
    | (refine wp_ldB rfl (.tmp 6) rfl rfl HS1.out.g Tryd.underlying23 rfl i23 ?_)
    | (refine wpl_run rfl (ex_b (vs := #[(0, .int .i64 (k : Int)), (1, .agg (gR g))]) rfl (by simp [Act.eval]; exact ⟨rfl, rfl⟩) (b32t _ _ _)) ?_)
    | (refine wp_stNG (v := oR ⟨(k : Int), g, false, 0, false⟩) (R := DqR w w1 g w1.heap.size ⟨(k : Int), g, false, 0, false⟩) rfl (.tmp 10) (.tmp 28) rfl rfl rfl rfl rfl i32 (oR_one _) (DqR.new HS1.out _) ?_; intro W2 h2; have HQ := Lib.hid h2.1; have d0 := (cell_blk (h2.2.block bb hbb) _).trans c0; have d1 := (cell_blk (h2.2.block bb hbb) _).trans c1; have d2 := (cell_blk (h2.2.block bb hbb) _).trans c2; have d3 := (cell_blk (h2.2.block bb hbb) _).trans c3; have d4 := (cell_blk (h2.2.block bb hbb) _).trans c4; have d5 := (cell_blk (h2.2.block bb hbb) _).trans c5; have hb2 : bb < W2.heap.size := Nat.lt_of_lt_of_le hbb h2.2.size; clear h2 c0 c1 c2 c3 c4 c5)
    | (refine wp_stNG (v := iW ⟨7, a, b, c, iA, m, cp, d, cs⟩) (R := DrS w g w1.heap.size ⟨(k : Int), g, false, 0, false⟩ W2.heap.size ⟨7, a, b, c, iA, m, cp, d, cs⟩) rfl (.tmp 11) (.tmp 38) rfl rfl rfl rfl rfl i39 (iW_one _) (DrS.new HQ.out _) ?_; intro W3 h3; have HP := Lib.hid h3; have k0 := h3.i.cell 0; have k1 := h3.i.cell 1; have k2 := h3.i.cell 2; clear h3 d0 d1 d2 d3 d4 d5; rw [show (iW ⟨7, a, b, c, iA, m, cp, d, cs⟩)[0]? = some (.int .i64 (7)) from rfl] at k0; rw [show (iW ⟨7, a, b, c, iA, m, cp, d, cs⟩)[1]? = some (.int .i64 (a)) from rfl] at k1; rw [show (iW ⟨7, a, b, c, iA, m, cp, d, cs⟩)[2]? = some (.int .i64 (b)) from rfl] at k2)
    | (go_at_call 12; refine (rmine_yes (show mineB 7 = true from rfl) _).mono ?_; rintro e2 w2 ⟨rfl, rfl⟩)
    | (refine wp_stG (R := DrS w g w1.heap.size ⟨(k : Int) + 1, g, false, 0, false⟩ W2.heap.size ⟨7, a, b, c, iA, m, cp, d, cs⟩) rfl (.tmp 46) (.tmp 45) rfl rfl rfl HP.out.s.q (by rw [oR_size]; omega) (HP.out.set rfl) ?_; intro W4 h4; have HU := Lib.hid h4; clear HP k0 k1 k2; have k0 := h4.i.cell 0; have k1 := h4.i.cell 1; have k2 := h4.i.cell 2; clear h4; rw [show (iW ⟨7, a, b, c, iA, m, cp, d, cs⟩)[0]? = some (.int .i64 (7)) from rfl] at k0; rw [show (iW ⟨7, a, b, c, iA, m, cp, d, cs⟩)[1]? = some (.int .i64 (a)) from rfl] at k1; rw [show (iW ⟨7, a, b, c, iA, m, cp, d, cs⟩)[2]? = some (.int .i64 (b)) from rfl] at k2)
    | (refine wp_stG (R := DrS w g w1.heap.size ⟨(k : Int), g, false, 0, false⟩ W2.heap.size ⟨7, a, b, c, iA, m, cp, d, cs⟩) rfl (.tmp 106) (.tmp 105) rfl rfl rfl HU.out.s.q (by rw [oR_size]; omega) (HU.out.set rfl) ?_; intro W5 h5; have HV := Lib.hid h5; clear h5 HU)
    | (refine wp_stTG (R := DrS w g w1.heap.size ⟨(k : Int), g, false, 0, true⟩ W2.heap.size ⟨7, a, b, c, iA, m, cp, d, cs⟩) rfl (.tmp 107) (.const (.bool true)) rfl rfl rfl HV.out.s.q (by rw [oR_size]; omega) (HV.out.set rfl) ?_; intro W6 h6; have HT := Lib.hid h6; clear h6 HV)
    | (refine wp_ldB rfl (.tmp 10) rfl rfl HT.out.s.q Tryd.underlying32 rfl i32 ?_)
    | (refine wp_stB (v := oR ⟨(k : Int), g, false, 0, true⟩) rfl (.tmp 8) (.tmp 115) rfl rfl rfl HT.out.s.s.r rfl i32 (oR_one _) ?_))
  refine bodyPost_ret (v := .tuple #[.agg (oR ⟨(k : Int), g, false, 0, true⟩), .int .i64 0]) ?_ rfl (HT.out.s.s.ret ⟨(k : Int), g, false, 0, true⟩ 0)
  exact (res_cell (p := 8) (q := 9) (ty := 32) (b := w.heap.size + 1) (u := oR ⟨(k : Int), g, false, 0, true⟩) rfl _ rfl (HT.out.s.s.r.row _) Tryd.underlying32 rfl i32).trans rfl
end
end Go.Proofs.YtgojnhbmelnpnaaDoor.Pg
