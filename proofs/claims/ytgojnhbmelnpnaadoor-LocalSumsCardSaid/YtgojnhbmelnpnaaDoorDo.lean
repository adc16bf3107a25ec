/- What comes of an instruction: package local's Do. Conditions: the table of operations lies in its variable; the program lies where its slice says. -/
import Derived.Test.YtgojnhbmelnpnaaDoorWri
import Derived.Deep.CutRange
import Derived.Deep.DeepCutAuto
namespace Go.Proofs.YtgojnhbmelnpnaaDoor.Pg
open Go.RowKit
set_option linter.unusedVariables false
set_option maxRecDepth 100000

theorem b28z (w : World) : (Instr.build 28 #[]).run Tryd.prog w = .ok (.agg (oR zO)) w := by kernel_rfl
theorem b28e (pc : Int) (g : Nat → Int) (w : World) : (Instr.build 28 #[(0, .int .i64 pc), (1, .agg (gR g)), (4, .bool true)]).run Tryd.prog w = .ok (.agg (oR ⟨pc, g, false, 0, true⟩)) w := by kernel_rfl
theorem b28t (pc : Int) (g : Nat → Int) (w : World) : (Instr.build 28 #[(0, .int .i64 pc), (1, .agg (gR g))]).run Tryd.prog w = .ok (.agg (oR ⟨pc, g, false, 0, false⟩)) w := by kernel_rfl
/-- The registers, and what will be answered. -/
structure DoS (w : World) (T : Nat) (g : Nat → Int) (W : World) : Prop where
  g : Bk W w.heap.size 23 (gR g)
  r : Bk W (w.heap.size + 1) T (oR zO)
  bel : Below w.heap.size w W
theorem DoS.new (w : World) (T : Nat) (g : Nat → Int) : DoS w T g ((w.alloc (.cells (gR g) 23)).alloc (.cells (oR zO) T)) := by
  refine ⟨(Bk.new w _ 23).later (below_al _ _), ?_, two_new w _ _⟩
  have h := Bk.new (w.alloc (.cells (gR g) 23)) (oR zO) T
  rw [World.size_alloc] at h; exact h
section
variable {w W W' : World} {T : Nat} {g : Nat → Int} {M p : Nat} {e : In} {u : Ot}
theorem DoS.later (h : DoS w T g W) (hb : Below W.heap.size W W') : DoS w T g W' := ⟨h.g.later hb, h.r.later hb, h.bel.trans (hb.mono h.bel.size)⟩
theorem DoS.reg (h : DoS w T g W) {k : Nat} (hk : k < 8) : W.cell? ⟨w.heap.size, k, none⟩ = some (.int .i64 (g k)) := by rw [h.g.cell, gR_at g hk]
/-- .. and the instruction. -/
structure DiS (w : World) (T : Nat) (g : Nat → Int) (M : Nat) (e : In) (W : World) : Prop where
  s : DoS w T g W
  i : Bk W M 39 (iW e)
  lt : w.heap.size + 1 < M
theorem DiS.later (h : DiS w T g M e W) (hb : Below W.heap.size W W') : DiS w T g M e W' := ⟨h.s.later hb, h.i.later hb, h.lt⟩
theorem DoS.instr (h : DoS w T g W) (e : In) : DiS w T g W.heap.size e (W.alloc (.cells (iW e) 39)) := ⟨h.later (below_al _ _), Bk.new W _ 39, h.r.lt⟩
/-- .. and what came of it so far. -/
structure DpS (w : World) (T : Nat) (g : Nat → Int) (M : Nat) (e : In) (p : Nat) (u : Ot) (W : World) : Prop where
  s : DiS w T g M e W
  q : Bk W p T (oR u)
  lt : M < p
theorem DpS.later (h : DpS w T g M e p u W) (hb : Below W.heap.size W W') : DpS w T g M e p u W' := ⟨h.s.later hb, h.q.later hb, h.lt⟩
theorem DpS.set {u' : Ot} {k : Nat} {v : Value} (h : DpS w T g M e p u W) (hu : (oR u).setIfInBounds k v = oR u') : DpS w T g M e p u' (W.setCell ⟨p, k, none⟩ v) := by
  have h1 := h.lt; have h2 := h.s.lt
  refine ⟨⟨⟨h.s.s.g.set_other (by omega) _, h.s.s.r.set_other (by omega) _, below_set h.s.s.bel (by omega) _⟩, h.s.i.set_other (by omega) _, h2⟩, ?_, h1⟩
  have h3 := h.q.set k v
  rwa [hu] at h3
theorem DiS.out (h : DiS w T g M e W) (hb : Below W.heap.size W W') (u : Ot) (hp : Bk W' p T (oR u)) (hl : W.heap.size ≤ p) : DpS w T g M e p u W' := ⟨h.later hb, hp, Nat.lt_of_lt_of_le h.i.lt hl⟩
theorem DoS.ret (h : DoS w T g W) (u : Ot) (n : Int) : DoR u n w (.returned (.tuple #[.agg (oR u), .int .i64 n])) (W.setRow (w.heap.size + 1) (oR u)) := ⟨rfl, below_row h.bel (by omega) _⟩
end
section
variable {P : Program} {op : Oper} {a : Act} {w w' : World} {K : Act → World → Prop} {Q : Exit → Act → World → Prop} {b T ty : Nat} {u v : Array Value}
theorem wp_stTG {ops : Array Oper} {rest : List Oper} {j : Nat} {z : Bool} {R : World → Prop} (hgd : op.guard = none) (x y : Operand) (ho : op.op = .store 4 x y) (hx : a.eval x = .pointer (some ⟨b, j, none⟩)) (hy : a.eval y = .bool z) (hb : Bk w b T u) (hj : j < u.size)
    (hR : R (w.setCell ⟨b, j, none⟩ (.bool z))) (h : ∀ W, R W → wpList Tryd.prog ops Q rest (a.put op.dst undef) W) : wpList Tryd.prog ops Q (op :: rest) a w := wp_stT hgd x y ho hx hy hb hj (h _ hR)
end
theorem DpS.row {w W : World} {T M p : Nat} {g : Nat → Int} {e : In} {u : Ot} (h : DpS w T g M e p u W) (u' : Ot) : DpS w T g M e p u' (W.setRow p (oR u')) := by
  have h1 := h.lt; have h2 := h.s.lt
  exact ⟨⟨⟨h.s.s.g.row_other (by omega) _, h.s.s.r.row_other (by omega) _, below_row h.s.s.bel (by omega) _⟩, h.s.i.row_other (by omega) _, h2⟩, h.q.row _, h1⟩
theorem al28 (w : World) : (Instr.alloc 28 true (.tuple #[])).run Tryd.prog w = .ok (.pointer (some ⟨w.heap.size, 0, none⟩)) (w.alloc (.cells (oR zO) 28)) := by kernel_rfl
theorem ex_al {P : Program} {op : Oper} {a : Act} {w : World} {ty N : Nat} {r : World} (hop : op.op = .alloc ty) (hN : w.heap.size = N) (h : (Instr.alloc ty true (.tuple #[])).run P w = .ok (.pointer (some ⟨w.heap.size, 0, none⟩)) r) : (execOp a.eval op).run P w = .ok (.value (.pointer (some ⟨N, 0, none⟩))) r := by
  subst hN
  unfold execOp; simp [hop, h, Result.andThen]
section
variable {A : Option Addr} {n cap : Nat} {l : List In} {w : World} {g : Nat → Int} {pc now : Int}
set_option maxHeartbeats 1000000 in
theorem do_bad (hF : Hid (FT w)) (hR : Hid (RdI w A n l)) (hC : Hid (checkB l 16 = false)) : Calls Tryd.prog 9 #[.slice A n cap, .int .i64 (pc), .agg (gR g), .int .i64 now] w (DoR (zO) 1 w) := by
  have HS : Hid (DoS w 28 g ((w.alloc (.cells (gR g) 23)).alloc (.cells (oR zO) 28))) := DoS.new w 28 g
  have HF0 := Lib.hid (hF.out.later HS.out.bel)
  have HR0 := Lib.hid (hR.out.later HS.out.bel)
  go_enter Tryd.func9, Tryd.ntmps9
  go_wp2_with fail
  refine (Check_no HF0.out HR0.out hC.out).mono ?_
  rintro e1 w1 ⟨rfl, hb1⟩
  have HS1 := Lib.hid (HS.out.later hb1)
  have HR1 := Lib.hid (HR0.out.later hb1)
  clear hb1 HS HF0 HR0
  go_wp2_with (first
    | (refine wpl_run rfl (ex_b rfl rfl (b28z _)) ?_)
    | (refine wp_stB (v := oR zO) rfl (.tmp 8) (.tmp 26) rfl rfl rfl HS1.out.r rfl i28 (oR_one _) ?_))
  refine bodyPost_ret (v := .tuple #[.agg (oR zO), .int .i64 1]) ?_ rfl (HS1.out.ret zO 1)
  exact (res_cell (p := 8) (q := 9) (ty := 28) (b := w.heap.size + 1) (u := oR zO) rfl _ rfl (HS1.out.r.row _) Tryd.underlying28 rfl i28).trans rfl
set_option maxHeartbeats 1000000 in
theorem do_low (hF : Hid (FT w)) (hR : Hid (RdI w A n l)) (hC : Hid (checkB l 16 = true)) (hp : pc < 0) : Calls Tryd.prog 9 #[.slice A n cap, .int .i64 (pc), .agg (gR g), .int .i64 now] w (DoR (zO) 1 w) := by
  have HS : Hid (DoS w 28 g ((w.alloc (.cells (gR g) 23)).alloc (.cells (oR zO) 28))) := DoS.new w 28 g
  have HF0 := Lib.hid (hF.out.later HS.out.bel)
  have HR0 := Lib.hid (hR.out.later HS.out.bel)
  go_enter Tryd.func9, Tryd.ntmps9
  go_wp2_with fail
  refine (Check_yes HF0.out HR0.out hC.out).mono ?_
  rintro e1 w1 ⟨rfl, hb1⟩
  have HS1 := Lib.hid (HS.out.later hb1)
  have HR1 := Lib.hid (HR0.out.later hb1)
  clear hb1 HS HF0 HR0
  go_wp2_with (first
    | (refine wpl_run rfl (ex_b rfl rfl (b28z _)) ?_)
    | (refine wp_stB (v := oR zO) rfl (.tmp 8) (.tmp 26) rfl rfl rfl HS1.out.r rfl i28 (oR_one _) ?_))
  refine bodyPost_ret (v := .tuple #[.agg (oR zO), .int .i64 1]) ?_ rfl (HS1.out.ret zO 1)
  exact (res_cell (p := 8) (q := 9) (ty := 28) (b := w.heap.size + 1) (u := oR zO) rfl _ rfl (HS1.out.r.row _) Tryd.underlying28 rfl i28).trans rfl
set_option maxHeartbeats 1000000 in
theorem do_high (hF : Hid (FT w)) (hR : Hid (RdI w A n l)) (hC : Hid (checkB l 16 = true)) (hp : (n : Int) < pc) : Calls Tryd.prog 9 #[.slice A n cap, .int .i64 (pc), .agg (gR g), .int .i64 now] w (DoR (zO) 1 w) := by
  have HS : Hid (DoS w 28 g ((w.alloc (.cells (gR g) 23)).alloc (.cells (oR zO) 28))) := DoS.new w 28 g
  have HF0 := Lib.hid (hF.out.later HS.out.bel)
  have HR0 := Lib.hid (hR.out.later HS.out.bel)
  have q1 : ¬ pc < 0 := by omega
  go_enter Tryd.func9, Tryd.ntmps9
  go_wp2_with fail
  refine (Check_yes HF0.out HR0.out hC.out).mono ?_
  rintro e1 w1 ⟨rfl, hb1⟩
  have HS1 := Lib.hid (HS.out.later hb1)
  have HR1 := Lib.hid (HR0.out.later hb1)
  clear hb1 HS HF0 HR0
  go_wp2_with (first
    | (refine wpl_run rfl (ex_b rfl rfl (b28z _)) ?_)
    | (refine wp_stB (v := oR zO) rfl (.tmp 8) (.tmp 26) rfl rfl rfl HS1.out.r rfl i28 (oR_one _) ?_))
  refine bodyPost_ret (v := .tuple #[.agg (oR zO), .int .i64 1]) ?_ rfl (HS1.out.ret zO 1)
  exact (res_cell (p := 8) (q := 9) (ty := 28) (b := w.heap.size + 1) (u := oR zO) rfl _ rfl (HS1.out.r.row _) Tryd.underlying28 rfl i28).trans rfl
set_option maxHeartbeats 1000000 in
theorem do_end (hF : Hid (FT w)) (hR : Hid (RdI w A n l)) (hC : Hid (checkB l 16 = true)) : Calls Tryd.prog 9 #[.slice A n cap, .int .i64 (n : Int), .agg (gR g), .int .i64 now] w (DoR (⟨(n : Int), g, false, 0, true⟩) 0 w) := by
  have HS : Hid (DoS w 28 g ((w.alloc (.cells (gR g) 23)).alloc (.cells (oR zO) 28))) := DoS.new w 28 g
  have HF0 := Lib.hid (hF.out.later HS.out.bel)
  have HR0 := Lib.hid (hR.out.later HS.out.bel)
  have q1 : ¬ (n : Int) < 0 := by omega
  have q2 : ¬ (n : Int) < (n : Int) := by omega
  go_enter Tryd.func9, Tryd.ntmps9
  go_wp2_with fail
  refine (Check_yes HF0.out HR0.out hC.out).mono ?_
  rintro e1 w1 ⟨rfl, hb1⟩
  have HS1 := Lib.hid (HS.out.later hb1)
  have HR1 := Lib.hid (HR0.out.later hb1)
  clear hb1 HS HF0 HR0
  go_wp2_with (first
    | (refine wp_ldB rfl (.tmp 6) rfl rfl HS1.out.g Tryd.underlying23 rfl i23 ?_)
    | (refine wpl_run rfl (ex_b (vs := #[(0, .int .i64 (n : Int)), (1, .agg (gR g)), (4, .bool true)]) rfl (by simp [Act.eval]; exact ⟨rfl, rfl⟩) (b28e _ _ _)) ?_)
    | (refine wp_stB (v := oR ⟨(n : Int), g, false, 0, true⟩) rfl (.tmp 8) (.tmp 34) rfl rfl rfl HS1.out.r rfl i28 (oR_one _) ?_))
  refine bodyPost_ret (v := .tuple #[.agg (oR ⟨(n : Int), g, false, 0, true⟩), .int .i64 0]) ?_ rfl (HS1.out.ret ⟨(n : Int), g, false, 0, true⟩ 0)
  exact (res_cell (p := 8) (q := 9) (ty := 28) (b := w.heap.size + 1) (u := oR ⟨(n : Int), g, false, 0, true⟩) rfl _ rfl (HS1.out.r.row _) Tryd.underlying28 rfl i28).trans rfl
set_option maxHeartbeats 1000000 in
theorem do_kind (hF : Hid (FT w)) (hR : Hid (RdI w A n l)) (hC : Hid (checkB l 16 = true)) (k : Nat) {x : In} (hx : l[k]? = some x) (ho : mineB x.op = false) : Calls Tryd.prog 9 #[.slice A n cap, .int .i64 ((k : Int)), .agg (gR g), .int .i64 now] w (DoR (zO) 7 w) := by
  have HS : Hid (DoS w 28 g ((w.alloc (.cells (gR g) 23)).alloc (.cells (oR zO) 28))) := DoS.new w 28 g
  have HF0 := Lib.hid (hF.out.later HS.out.bel)
  have HR0 := Lib.hid (hR.out.later HS.out.bel)
  have hkn : k < n := by have := (List.getElem?_eq_some_iff.1 hx).1; rw [hR.out.1] at this; exact this
  obtain ⟨op, a, b, c, iA, m, cp, d, cs⟩ := x
  have q1 : ¬ (k : Int) < 0 := by omega
  have q2 : ¬ (n : Int) < (k : Int) := by omega
  have q3 : ((k : Int) == (n : Int)) = false := by simp; omega
  have q4 : (k : Int) < (n : Int) := by omega
  have q5 : (0 : Int) ≤ (k : Int) := by omega
  simp only at ho
  have HX := Lib.hid hx
  have HO := Lib.hid ho
  clear hx ho hkn
  go_enter Tryd.func9, Tryd.ntmps9
  go_wp2_with fail
  refine (Check_yes HF0.out HR0.out hC.out).mono ?_
  rintro e1 w1 ⟨rfl, hb1⟩
  have HS1 := Lib.hid (HS.out.later hb1)
  have HR1 := Lib.hid (HR0.out.later hb1)
  clear hb1 HS HF0 HR0
  obtain ⟨bb, off, rfl, hbb, hcc⟩ := HR1.out.cells (show 0 < n by omega)
  obtain ⟨c0, c1, c2, c3, c4, c5⟩ := hcc k _ HX.out
  simp only at c0 c1 c2 c3 c4 c5
  clear hcc HR1
  go_wp2_with fail
  refine (mine_no HO.out _).mono ?_
  rintro e2 w2 ⟨rfl, rfl⟩
  go_wp2_with (first
    | (refine wpl_run rfl (ex_b rfl rfl (b28z _)) ?_)
    | (refine wp_stB (v := oR zO) rfl (.tmp 8) (.tmp 43) rfl rfl rfl HS1.out.r rfl i28 (oR_one _) ?_))
  refine bodyPost_ret (v := .tuple #[.agg (oR zO), .int .i64 7]) ?_ rfl (HS1.out.ret zO 7)
  exact (res_cell (p := 8) (q := 9) (ty := 28) (b := w.heap.size + 1) (u := oR zO) rfl _ rfl (HS1.out.r.row _) Tryd.underlying28 rfl i28).trans rfl
end
end Go.Proofs.YtgojnhbmelnpnaaDoor.Pg
