/- What comes of an instruction by the document's own reckoning: what is refused, and the end. Conditions: the program lies where its slice says, with few cases each. -/
import Derived.Test.YtgojnhbmelnpnaaDoorDo
import Derived.Test.YtgojnhbmelnpnaaDoorPgr
namespace Go.Proofs.YtgojnhbmelnpnaaDoor.Pg
open Go.RowKit
set_option linter.unusedVariables false
set_option maxRecDepth 100000

theorem b32z (w : World) : (Instr.build 32 #[]).run Tryd.prog w = .ok (.agg (oR zO)) w := by kernel_rfl
theorem b32t (pc : Int) (g : Nat → Int) (w : World) : (Instr.build 32 #[(0, .int .i64 pc), (1, .agg (gR g))]).run Tryd.prog w = .ok (.agg (oR ⟨pc, g, false, 0, false⟩)) w := by kernel_rfl
section
variable {P : Program} {ops : Array Oper} {rest : List Oper} {op : Oper} {a : Act} {w : World} {Q : Exit → Act → World → Prop} {b o T ty : Nat} {u : Array Value} {d : TypeDesc}
theorem wp_stNG {v : Array Value} {R : World → Prop} {w0 : World} (hgd : op.guard = none) (x y : Operand) (ho : op.op = .store ty x y) (hw : w0 = w.alloc (.cells u T)) (hx : a.eval x = .pointer (some ⟨w.heap.size, 0, none⟩)) (hy : a.eval y = .agg v)
    (hs : u.size = v.size) (hi : (P.info? ty).map (·.size) = some v.size) (h1 : v.all (·.oneCell') = true) (hR : R (w.alloc (.cells v T))) (h : ∀ W, R W → wpList P ops Q rest (a.put op.dst undef) W) : wpList P ops Q (op :: rest) a w0 := by
  subst hw
  exact wp_stN hgd x y ho hx hy hs hi h1 (h _ hR)
end
/-- The registers, what will be answered, and what came of it so far. -/
structure DqS (w : World) (g : Nat → Int) (p : Nat) (u : Ot) (W : World) : Prop where
  s : DoS w 32 g W
  q : Bk W p 32 (oR u)
  lt : w.heap.size + 1 < p
/-- .. and the instruction. -/
structure DrS (w : World) (g : Nat → Int) (p : Nat) (u : Ot) (M : Nat) (e : In) (W : World) : Prop where
  s : DqS w g p u W
  i : Bk W M 39 (iW e)
  lt : p < M
section
variable {w W W' : World} {g : Nat → Int} {p M k : Nat} {u u' : Ot} {e : In} {v : Value}
theorem DqS.later (h : DqS w g p u W) (hb : Below W.heap.size W W') : DqS w g p u W' := ⟨h.s.later hb, h.q.later hb, h.lt⟩
theorem DqS.new (h : DoS w 32 g W) (u : Ot) : DqS w g W.heap.size u (W.alloc (.cells (oR u) 32)) := ⟨h.later (below_al _ _), Bk.new W _ 32, h.r.lt⟩
theorem DqS.set (h : DqS w g p u W) (hu : (oR u).setIfInBounds k v = oR u') : DqS w g p u' (W.setCell ⟨p, k, none⟩ v) := by
  have h1 := h.lt
  refine ⟨⟨h.s.g.set_other (by omega) _, h.s.r.set_other (by omega) _, below_set h.s.bel (by omega) _⟩, ?_, h1⟩
  have h3 := h.q.set k v
  rwa [hu] at h3
theorem DrS.later (h : DrS w g p u M e W) (hb : Below W.heap.size W W') : DrS w g p u M e W' := ⟨h.s.later hb, h.i.later hb, h.lt⟩
theorem DrS.new (h : DqS w g p u W) (e : In) : DrS w g p u W.heap.size e (W.alloc (.cells (iW e) 39)) := ⟨h.later (below_al _ _), Bk.new W _ 39, h.q.lt⟩
theorem DrS.set (h : DrS w g p u M e W) (hu : (oR u).setIfInBounds k v = oR u') : DrS w g p u' M e (W.setCell ⟨p, k, none⟩ v) := by
  have h1 := h.lt
  exact ⟨h.s.set hu, h.i.set_other (by omega) _, h1⟩
/-- .. with the program still there. -/
def DqR (w w1 : World) (g : Nat → Int) (p : Nat) (u : Ot) (W : World) : Prop := DqS w g p u W ∧ Below w1.heap.size w1 W
theorem DqR.new {w1 : World} (h : DoS w 32 g w1) (u : Ot) : DqR w w1 g w1.heap.size u (w1.alloc (.cells (oR u) 32)) := ⟨DqS.new h u, below_al _ _⟩
end
section
variable {A : Option Addr} {n cap : Nat} {l : List In} {w : World} {g : Nat → Int} {pc now : Int}
set_option maxHeartbeats 2000000 in
theorem ref_bad (hR : Hid (RdI w A n l)) (hsm : Hid (∀ e ∈ l, e.n ≤ 20)) (hC : Hid (checkB l 16 = false)) : Calls Tryd.prog 10 #[.slice A n cap, .int .i64 pc, .agg (gR g), .int .i64 now] w (DoR (zO) 1 w) := by
  have HS : Hid (DoS w 32 g ((w.alloc (.cells (gR g) 23)).alloc (.cells (oR zO) 32))) := DoS.new w 32 g
  have HR0 := Lib.hid (hR.out.later HS.out.bel)
  go_enter Tryd.func10, Tryd.ntmps10
  go_wp2_with fail
  refine (prog_no HR0.out hsm.out hC.out).mono ?_
  rintro e1 w1 ⟨rfl, hb1⟩
  have HS1 := Lib.hid (HS.out.later hb1)
  have HR1 := Lib.hid (HR0.out.later hb1)
  clear hb1 HS HR0
  go_upto_region 2 with fail
  go_wp2_with (first
    | (refine wpl_run rfl (ex_b rfl rfl (b32z _)) ?_)
    | (refine wp_stB (v := oR zO) rfl (.tmp 8) (.tmp 25) rfl rfl rfl HS1.out.r rfl i32 (oR_one _) ?_))
  refine bodyPost_ret (v := .tuple #[.agg (oR zO), .int .i64 1]) ?_ rfl (HS1.out.ret zO 1)
  exact (res_cell (p := 8) (q := 9) (ty := 32) (b := w.heap.size + 1) (u := oR zO) rfl _ rfl (HS1.out.r.row _) Tryd.underlying32 rfl i32).trans rfl
set_option maxHeartbeats 2000000 in
theorem ref_low (hR : Hid (RdI w A n l)) (hsm : Hid (∀ e ∈ l, e.n ≤ 20)) (hC : Hid (checkB l 16 = true)) (hp : pc < 0) : Calls Tryd.prog 10 #[.slice A n cap, .int .i64 pc, .agg (gR g), .int .i64 now] w (DoR (zO) 1 w) := by
  have HS : Hid (DoS w 32 g ((w.alloc (.cells (gR g) 23)).alloc (.cells (oR zO) 32))) := DoS.new w 32 g
  have HR0 := Lib.hid (hR.out.later HS.out.bel)
  go_enter Tryd.func10, Tryd.ntmps10
  go_wp2_with fail
  refine (prog_yes HR0.out hsm.out hC.out).mono ?_
  rintro e1 w1 ⟨rfl, hb1⟩
  have HS1 := Lib.hid (HS.out.later hb1)
  have HR1 := Lib.hid (HR0.out.later hb1)
  clear hb1 HS HR0
  go_upto_region 2 with fail
  go_wp2_with (first
    | (refine wpl_run rfl (ex_b rfl rfl (b32z _)) ?_)
    | (refine wp_stB (v := oR zO) rfl (.tmp 8) (.tmp 25) rfl rfl rfl HS1.out.r rfl i32 (oR_one _) ?_))
  refine bodyPost_ret (v := .tuple #[.agg (oR zO), .int .i64 1]) ?_ rfl (HS1.out.ret zO 1)
  exact (res_cell (p := 8) (q := 9) (ty := 32) (b := w.heap.size + 1) (u := oR zO) rfl _ rfl (HS1.out.r.row _) Tryd.underlying32 rfl i32).trans rfl
set_option maxHeartbeats 2000000 in
theorem ref_high (hR : Hid (RdI w A n l)) (hsm : Hid (∀ e ∈ l, e.n ≤ 20)) (hC : Hid (checkB l 16 = true)) (hp : (n : Int) < pc) : Calls Tryd.prog 10 #[.slice A n cap, .int .i64 pc, .agg (gR g), .int .i64 now] w (DoR (zO) 1 w) := by
  have HS : Hid (DoS w 32 g ((w.alloc (.cells (gR g) 23)).alloc (.cells (oR zO) 32))) := DoS.new w 32 g
  have HR0 := Lib.hid (hR.out.later HS.out.bel)
  have q1 : ¬ pc < 0 := by omega
  go_enter Tryd.func10, Tryd.ntmps10
  go_wp2_with fail
  refine (prog_yes HR0.out hsm.out hC.out).mono ?_
  rintro e1 w1 ⟨rfl, hb1⟩
  have HS1 := Lib.hid (HS.out.later hb1)
  have HR1 := Lib.hid (HR0.out.later hb1)
  clear hb1 HS HR0
  go_upto_region 2 with fail
  go_wp2_with (first
    | (refine wpl_run rfl (ex_b rfl rfl (b32z _)) ?_)
    | (refine wp_stB (v := oR zO) rfl (.tmp 8) (.tmp 25) rfl rfl rfl HS1.out.r rfl i32 (oR_one _) ?_))
  refine bodyPost_ret (v := .tuple #[.agg (oR zO), .int .i64 1]) ?_ rfl (HS1.out.ret zO 1)
  exact (res_cell (p := 8) (q := 9) (ty := 32) (b := w.heap.size + 1) (u := oR zO) rfl _ rfl (HS1.out.r.row _) Tryd.underlying32 rfl i32).trans rfl
set_option maxHeartbeats 2000000 in
theorem ref_end (hR : Hid (RdI w A n l)) (hsm : Hid (∀ e ∈ l, e.n ≤ 20)) (hC : Hid (checkB l 16 = true)) : Calls Tryd.prog 10 #[.slice A n cap, .int .i64 (n : Int), .agg (gR g), .int .i64 now] w (DoR (⟨(n : Int), g, false, 0, true⟩) 0 w) := by
  have HS : Hid (DoS w 32 g ((w.alloc (.cells (gR g) 23)).alloc (.cells (oR zO) 32))) := DoS.new w 32 g
  have HR0 := Lib.hid (hR.out.later HS.out.bel)
  have q1 : ¬ (n : Int) < 0 := by omega
  have q2 : ¬ (n : Int) < (n : Int) := by omega
  go_enter Tryd.func10, Tryd.ntmps10
  go_wp2_with fail
  refine (prog_yes HR0.out hsm.out hC.out).mono ?_
  rintro e1 w1 ⟨rfl, hb1⟩
  have HS1 := Lib.hid (HS.out.later hb1)
  have HR1 := Lib.hid (HR0.out.later hb1)
  clear hb1 HS HR0
  go_upto_region 3 with fail
  go_wp2_with (first
    | (refine wp_ldB rfl (.tmp 6) rfl rfl HS1.out.g Tryd.underlying23 rfl i23 ?_)
    | (refine wpl_run rfl (ex_b (vs := #[(0, .int .i64 (n : Int)), (1, .agg (gR g))]) rfl (by simp [Act.eval]; exact ⟨rfl, rfl⟩) (b32t _ _ _)) ?_)
    | (refine wp_stNG (v := oR ⟨(n : Int), g, false, 0, false⟩) (R := DqR w w1 g w1.heap.size ⟨(n : Int), g, false, 0, false⟩) rfl (.tmp 10) (.tmp 28) rfl rfl rfl rfl rfl i32 (oR_one _) (DqR.new HS1.out _) ?_; intro W2 h2; have HQ := Lib.hid h2.1; clear h2 HS1)
    | (refine wp_stTG (R := DqS w g w1.heap.size ⟨(n : Int), g, false, 0, true⟩) rfl (.tmp 33) (.const (.bool true)) rfl rfl rfl HQ.out.q (by rw [oR_size]; omega) (HQ.out.set rfl) ?_; intro W3 h3; have HQ3 := Lib.hid h3; clear h3 HQ)
    | (refine wp_ldB rfl (.tmp 10) rfl rfl HQ3.out.q Tryd.underlying32 rfl i32 ?_)
    | (refine wp_stB (v := oR ⟨(n : Int), g, false, 0, true⟩) rfl (.tmp 8) (.tmp 34) rfl rfl rfl HQ3.out.s.r rfl i32 (oR_one _) ?_))
  refine bodyPost_ret (v := .tuple #[.agg (oR ⟨(n : Int), g, false, 0, true⟩), .int .i64 0]) ?_ rfl (HQ3.out.s.ret ⟨(n : Int), g, false, 0, true⟩ 0)
  exact (res_cell (p := 8) (q := 9) (ty := 32) (b := w.heap.size + 1) (u := oR ⟨(n : Int), g, false, 0, true⟩) rfl _ rfl (HQ3.out.s.r.row _) Tryd.underlying32 rfl i32).trans rfl
set_option maxHeartbeats 2000000 in
theorem ref_kind (hR : Hid (RdI w A n l)) (hsm : Hid (∀ e ∈ l, e.n ≤ 20)) (hC : Hid (checkB l 16 = true)) (k : Nat) {x : In} (hx : l[k]? = some x) (ho : mineB x.op = false) : Calls Tryd.prog 10 #[.slice A n cap, .int .i64 (k : Int), .agg (gR g), .int .i64 now] w (DoR (zO) 7 w) := by
  have HS : Hid (DoS w 32 g ((w.alloc (.cells (gR g) 23)).alloc (.cells (oR zO) 32))) := DoS.new w 32 g
  have HR0 := Lib.hid (hR.out.later HS.out.bel)
  have hkn : k < n := by have := (List.getElem?_eq_some_iff.1 hx).1; rw [hR.out.1] at this; exact this
  obtain ⟨op, a, b, c, iA, m, cp, d, cs⟩ := x
  have q1 : ¬ (k : Int) < 0 := by omega
  have q2 : ¬ (n : Int) < (k : Int) := by omega
  have q3 : ((k : Int) == (n : Int)) = false := by simp; omega
  have q4 : (k : Int) < (n : Int) := by omega
  have q5 : (0 : Int) ≤ (k : Int) := by omega
  simp only at ho
  have HO := Lib.hid ho
  clear ho
  have HX := Lib.hid hx
  have HK : Hid ((k : Int) ≤ 100) := by have := chk_len hC.out; have h2 := (List.getElem?_eq_some_iff.1 hx).1; show _ ≤ _; omega
  have q6 := HK.out
  clear hx hkn HK
  go_enter Tryd.func10, Tryd.ntmps10
  go_wp2_with fail
  refine (prog_yes HR0.out hsm.out hC.out).mono ?_
  rintro e1 w1 ⟨rfl, hb1⟩
  have HS1 := Lib.hid (HS.out.later hb1)
  have HR1 := Lib.hid (HR0.out.later hb1)
  clear hb1 HS HR0
  obtain ⟨bb, off, rfl, hbb, hcc⟩ := HR1.out.cells (show 0 < n by omega)
  obtain ⟨c0, c1, c2, c3, c4, c5⟩ := hcc k _ HX.out
  simp only at c0 c1 c2 c3 c4 c5
  clear hcc HR1
  go_upto_region 3 with fail
  go_wp2_with (first
    | (refine wp_ldB rfl (.tmp 6) rfl rfl HS1.out.g Tryd.underlying23 rfl i23 ?_)
    | (refine wpl_run rfl (ex_b (vs := #[(0, .int .i64 (k : Int)), (1, .agg (gR g))]) rfl (by simp [Act.eval]; exact ⟨rfl, rfl⟩) (b32t _ _ _)) ?_)
    | (refine wp_stNG (v := oR ⟨(k : Int), g, false, 0, false⟩) (R := DqR w w1 g w1.heap.size ⟨(k : Int), g, false, 0, false⟩) rfl (.tmp 10) (.tmp 28) rfl rfl rfl rfl rfl i32 (oR_one _) (DqR.new HS1.out _) ?_; intro W2 h2; have HQ := Lib.hid h2.1; have d0 := (cell_blk (h2.2.block bb hbb) _).trans c0; have d1 := (cell_blk (h2.2.block bb hbb) _).trans c1; have d2 := (cell_blk (h2.2.block bb hbb) _).trans c2; have d3 := (cell_blk (h2.2.block bb hbb) _).trans c3; have d4 := (cell_blk (h2.2.block bb hbb) _).trans c4; have d5 := (cell_blk (h2.2.block bb hbb) _).trans c5; have hb2 : bb < W2.heap.size := Nat.lt_of_lt_of_le hbb h2.2.size; clear h2 c0 c1 c2 c3 c4 c5)
    | (refine wp_stNG (v := iW ⟨op, a, b, c, iA, m, cp, d, cs⟩) (R := DrS w g w1.heap.size ⟨(k : Int), g, false, 0, false⟩ W2.heap.size ⟨op, a, b, c, iA, m, cp, d, cs⟩) rfl (.tmp 11) (.tmp 38) rfl rfl rfl rfl rfl i39 (iW_one _) (DrS.new HQ.out _) ?_; intro W3 h3; have HP := Lib.hid h3; have k0 := h3.i.cell 0; have k1 := h3.i.cell 1; have k2 := h3.i.cell 2; clear h3 d0 d1 d2 d3 d4 d5; rw [show (iW ⟨op, a, b, c, iA, m, cp, d, cs⟩)[0]? = some (.int .i64 (op)) from rfl] at k0; rw [show (iW ⟨op, a, b, c, iA, m, cp, d, cs⟩)[1]? = some (.int .i64 (a)) from rfl] at k1; rw [show (iW ⟨op, a, b, c, iA, m, cp, d, cs⟩)[2]? = some (.int .i64 (b)) from rfl] at k2)
    | (go_at_call 12; refine (rmine_no HO.out _).mono ?_; rintro e2 w2 ⟨rfl, rfl⟩)
    | (refine wpl_run rfl (ex_b rfl rfl (b32z _)) ?_)
    | (refine wp_stB (v := oR zO) rfl (.tmp 8) (.tmp 43) rfl rfl rfl HP.out.s.s.r rfl i32 (oR_one _) ?_))
  refine bodyPost_ret (v := .tuple #[.agg (oR zO), .int .i64 7]) ?_ rfl (HP.out.s.s.ret zO 7)
  exact (res_cell (p := 8) (q := 9) (ty := 32) (b := w.heap.size + 1) (u := oR zO) rfl _ rfl (HP.out.s.s.r.row _) Tryd.underlying32 rfl i32).trans rfl
end
end Go.Proofs.YtgojnhbmelnpnaaDoor.Pg
