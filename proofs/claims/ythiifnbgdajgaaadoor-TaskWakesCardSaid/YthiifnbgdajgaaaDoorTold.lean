/- What a parked task's registers are when it is woken. Conditions: each theorem's own premises. -/
import Derived.Test.YthiifnbgdajgaaaDoorReg
namespace Go.Proofs.YthiifnbgdajgaaaDoor
open Go.RowKit
set_option linter.unusedVariables false
set_option maxRecDepth 100000

section
variable {P : Program} {op : Oper} {a : Act} {w w' : World} {K : Act → World → Prop} {Q : Exit → Act → World → Prop} {b T ty : Nat} {u v : Array Value}
theorem wp_st1 (x y : Operand) (ho : op.op = .store ty x y) (hx : a.eval x = .pointer (some ⟨b, 0, none⟩)) (hy : a.eval y = .agg v) (hb : Bk w b T u)
    (hs : u.size = v.size) (hi : (P.info? ty).map (·.size) = some v.size) (h1 : v.all (·.oneCell') = true) (h : K (a.put op.dst undef) (w.setRow b v)) : op.wp P a w K Q := by
  unfold Oper.wp execOp
  simp only [ho, hx, hy, Instr.storeAt, Instr.sureAddr, Sem.run_bind, Sem.run_pure, Result.andThen_ok, run_storeVar_row (P := P) w b T ty u v hb hi hs h1]
  exact h
theorem wp_stI {ops : Array Oper} {rest : List Oper} {j : Nat} {z : Int} (hgd : op.guard = none) (x y : Operand) (ho : op.op = .store 3 x y) (hx : a.eval x = .pointer (some ⟨b, j, none⟩)) (hy : a.eval y = .int .i64 z) (hb : Bk w b T u) (hj : j < u.size)
    (h : wpList Tryd.prog ops Q rest (a.put op.dst undef) (w.setCell ⟨b, j, none⟩ (.int .i64 z))) : wpList Tryd.prog ops Q (op :: rest) a w := by
  have hc : w.cell? ⟨b, j, none⟩ = some (u[j]'hj) := by rw [hb.cell, Array.getElem?_eq_getElem hj]
  have hf := hb.fz j
  refine wpList_plain hgd fun K hK => ?_
  have hst := run_store Tryd.prog w ⟨b, j, none⟩ (.int .i64 z) .plain rfl
  rw [hc] at hst
  simp only [hf] at hst
  unfold Oper.wp execOp
  simp only [ho, hx, hy, Instr.storeAt, Instr.sureAddr, Sem.run_bind, Sem.run_pure, Result.andThen_ok, storeVar, Tryd.sizeOf3, Value.cells]
  simp [storeCells, hst, Addr.add]
  exact hK _ _ h
theorem al34 (w : World) : (Instr.alloc 34 true (.tuple #[])).run Tryd.prog w = .ok (.pointer (some ⟨w.heap.size, 0, none⟩)) (w.alloc (.cells (iR ⟨0, 0, 0, 0, fun _ => 0, 0, 0, 0, 0, false, []⟩ none 0) 34)) := by kernel_rfl
theorem al30 (w : World) : (Instr.alloc 30 true (.tuple #[])).run Tryd.prog w = .ok (.pointer (some ⟨w.heap.size, 0, none⟩)) (w.alloc (.cells (gR fun _ => 0) 30)) := by kernel_rfl
theorem ex_al {N : Nat} {r : World} (hop : op.op = .alloc ty) (hN : w.heap.size = N) (h : (Instr.alloc ty true (.tuple #[])).run P w = .ok (.pointer (some ⟨w.heap.size, 0, none⟩)) r) : (execOp a.eval op).run P w = .ok (.value (.pointer (some ⟨N, 0, none⟩))) r := by
  subst hN
  unfold execOp; simp [hop, h, Result.andThen]
end
abbrev zI' : T0 := ⟨0, 0, 0, 0, fun _ => 0, 0, 0, 0, 0, false, []⟩
abbrev mA (w : World) (I G : Array Value) : World := ((((w.drew.alloc (.cells (iR zI' none 0) 34)).alloc (.cells (gR fun _ => 0) 30)).setRow w.heap.size I).setRow (w.heap.size + 1) G)
abbrev mB (w : World) (I G : Array Value) : World := ((((w.drew.alloc (.cells (gR fun _ => 0) 30)).alloc (.cells (iR zI' none 0) 34)).setRow (w.heap.size + 1) I).setRow w.heap.size G)
theorem mA_a (w : World) : Bk ((w.drew.alloc (.cells (iR zI' none 0) 34)).alloc (.cells (gR fun _ => 0) 30)) w.heap.size 34 (iR zI' none 0) ∧ Bk ((w.drew.alloc (.cells (iR zI' none 0) 34)).alloc (.cells (gR fun _ => 0) 30)) (w.heap.size + 1) 30 (gR fun _ => 0) ∧ Below w.heap.size w ((w.drew.alloc (.cells (iR zI' none 0) 34)).alloc (.cells (gR fun _ => 0) 30)) := by
  refine ⟨(Bk.new w.drew _ 34).later (below_al _ _), ?_, (((Below.refl w.heap.size w).drew).alloc (Nat.le_refl _) _).alloc (by simp) _⟩
  have := Bk.new (w.drew.alloc (.cells (iR zI' none 0) 34)) (gR fun _ => 0) 30
  rw [World.size_alloc] at this; exact this
theorem mB_a (w : World) : Bk ((w.drew.alloc (.cells (gR fun _ => 0) 30)).alloc (.cells (iR zI' none 0) 34)) (w.heap.size + 1) 34 (iR zI' none 0) ∧ Bk ((w.drew.alloc (.cells (gR fun _ => 0) 30)).alloc (.cells (iR zI' none 0) 34)) w.heap.size 30 (gR fun _ => 0) ∧ Below w.heap.size w ((w.drew.alloc (.cells (gR fun _ => 0) 30)).alloc (.cells (iR zI' none 0) 34)) := by
  refine ⟨?_, (Bk.new w.drew _ 30).later (below_al _ _), (((Below.refl w.heap.size w).drew).alloc (Nat.le_refl _) _).alloc (by simp) _⟩
  have := Bk.new (w.drew.alloc (.cells (gR fun _ => 0) 30)) (iR zI' none 0) 34
  rw [World.size_alloc] at this; exact this
theorem recv_out {A : Option Addr} {n cap : Nat} (w : World) (k : Nat) (h : n ≤ k) : Calls Tryd.prog 42 #[.slice A n cap, .int .i64 (k : Int)] w fun e w' => e = .returned (.bool false) ∧ w = w' := by
  have b1 : ¬ (k : Int) < (n : Int) := by omega
  have b2 : (0 : Int) ≤ (k : Int) := by omega
  go_enter Tryd.func42, Tryd.ntmps42
  go_wp2
  go_ret
  exact ⟨rfl, rfl⟩
theorem recv_at {A : Option Addr} {n cap : Nat} {cs : List Pg.Ca} {c : Pg.Ca} (w : World) (k : Nat) (hR : Pg.RdC w A n cs) (hc : cs[k]? = some c) : Calls Tryd.prog 42 #[.slice A n cap, .int .i64 (k : Int)] w fun e w' => e = .returned (.bool (!c.s)) ∧ w = w' := by
  have hk : k < n := by have := (List.getElem?_eq_some_iff.1 hc).1; rw [hR.1] at this; exact this
  obtain ⟨b, off, rfl, _, hcs⟩ := hR.cells (by omega)
  obtain ⟨d0, _, _⟩ := hcs k c hc
  have b1 : (k : Int) < (n : Int) := by omega
  have b2 : (0 : Int) ≤ (k : Int) := by omega
  clear hR hcs hc
  go_enter Tryd.func42, Tryd.ntmps42
  go_wp2
  go_ret
  exact ⟨rfl, rfl⟩
abbrev wR (j kase value : Int) (ok pn : Bool) : Array Value := #[.int .i64 j, .int .i64 kase, .int .i64 value, .bool ok, .bool pn]
def ToldR (g : Nat → Int) (w : World) (e : Ending) (w' : World) : Prop := e = .returned (.agg (gR g)) ∧ Below w.heap.size w w'
set_option maxHeartbeats 2000000 in
theorem told_recv1 (x : T0) (A : Option Addr) (cap : Nat) (j value : Int) ( pn : Bool) (kase : Nat) (w : World) {nb nc : Nat} (hop : x.op = 11) (eb : x.b = (nb : Int)) (ec : x.c = (nc : Int)) (hb : nb < 8) (hc : nc < 8) : Calls Tryd.prog 32 #[.agg (tW x A cap), .agg (wR j (kase : Int) value true pn)] w (ToldR (upd (upd (upd x.rg nb value) nc 0) nc 1) w) := by
  have q1 : (nb : Int) < 8 := by omega
  have q2 : (nc : Int) < 8 := by omega
  have q3 : (0 : Int) ≤ (nb : Int) := by omega
  have q4 : (0 : Int) ≤ (nc : Int) := by omega
  go_enter Tryd.func32, Tryd.ntmps32
  go_wp2_with fail
  have HB3 : Hid (Below w.heap.size w (((w.alloc (.cells (tW x A cap) 47)).alloc (.cells (wR j (kase : Int) value true pn) 38)).alloc (.cells (gR fun _ => 0) 30))) := (((Below.refl w.heap.size w).alloc (Nat.le_refl _) _).alloc (by simp) _).alloc (by simp; omega) _
  have HU3 : Hid (Bk (((w.alloc (.cells (tW x A cap) 47)).alloc (.cells (wR j (kase : Int) value true pn) 38)).alloc (.cells (gR fun _ => 0) 30)) w.heap.size 47 (tW x A cap)) := ((Bk.new w _ 47).later (below_al _ _)).later (below_al _ _)
  have HV3 : Hid (Bk (((w.alloc (.cells (tW x A cap) 47)).alloc (.cells (wR j (kase : Int) value true pn) 38)).alloc (.cells (gR fun _ => 0) 30)) (w.heap.size + 1) 38 (wR j (kase : Int) value true pn)) := by
    have h9 := (Bk.new (w.alloc (.cells (tW x A cap) 47)) (wR j (kase : Int) value true pn) 38).later (below_al _ (.cells (gR fun _ => 0) 30))
    rw [World.size_alloc] at h9; exact h9
  have HR3 : Hid (Bk (((w.alloc (.cells (tW x A cap) 47)).alloc (.cells (wR j (kase : Int) value true pn) 38)).alloc (.cells (gR fun _ => 0) 30)) (w.heap.size + 2) 30 (gR fun _ => 0)) := by
    have h9 := Bk.new ((w.alloc (.cells (tW x A cap) 47)).alloc (.cells (wR j (kase : Int) value true pn) 38)) (gR fun _ => 0) 30
    rw [World.size_alloc, World.size_alloc] at h9; exact h9
  have HN3 : Hid ((((w.alloc (.cells (tW x A cap) 47)).alloc (.cells (wR j (kase : Int) value true pn) 38)).alloc (.cells (gR fun _ => 0) 30)).heap.size = w.heap.size + 3) := by show _ = _; simp
  change Code.wp _ _ _ _ (((w.alloc (.cells (tW x A cap) 47)).alloc (.cells (wR j (kase : Int) value true pn) 38)).alloc (.cells (gR fun _ => 0) 30))
  generalize ((w.alloc (.cells (tW x A cap) 47)).alloc (.cells (wR j (kase : Int) value true pn) 38)).alloc (.cells (gR fun _ => 0) 30) = w3 at *
  have KP : Hid (∀ w', Below w3.heap.size w3 w' → w'.rangeAt w.heap.size 12 (iR x A cap).toList ∧ w'.rangeAt w.heap.size 4 (gR x.rg).toList) := fun w' hb => ⟨instr_part (HU3.out.later hb), regs_part (HU3.out.later hb)⟩
  have MA := Lib.hid (mA_a w3)
  have MB := Lib.hid (mB_a w3)
  refine but_startQ 7 (fun w' => w'.rangeAt w.heap.size 12 (iR x A cap).toList ∧ w'.rangeAt w.heap.size 4 (gR x.rg).toList) (by kernel_rfl) (by as_aux_lemma => kernel_rfl) ?_
  intro hTidy
  have hHeld := KP.out _ ((Below.refl _ _).drew)
  change AnyBut _ _ _ _ _ _ 8 _ _ _
  refine tkQ 0 rfl hTidy hHeld ?_
  refine tkL 1 (ty := 34) (.tmp 7) (iR x A cap) rfl hTidy hHeld rfl rfl (fun w h => h.1) Tryd.underlying34 rfl i34 ?_
  refine tkQ 2 rfl hTidy hHeld ?_
  refine tkL 3 (ty := 30) (.tmp 9) (gR x.rg) rfl hTidy hHeld rfl rfl (fun w h => h.2) Tryd.underlying30 rfl i30 ?_
  try simp only [List.getElem_toArray, List.getElem_cons_succ, List.getElem_cons_zero, Act.put, List.setIfInBounds_toArray, List.set_cons_zero, List.set_cons_succ]
  refine but_two (i := 4) (j := 5) (by kernel_rfl) rfl rfl ?_ ?_
  · intro K hK
    rw [if_pos (by first | kernel_rfl | rfl)]
    refine wp_run (ex_al (N := w3.heap.size) rfl rfl (al34 _)) ?_
    have hHeld2 := KP.out (w3.drew.alloc (.cells (iR zI' none 0) 34)) (((Below.refl w3.heap.size w3).drew).alloc (Nat.le_refl _) _)
    refine hK _ _ (fun _ => hHeld2) ?_
    clear hK K hHeld
    have hHeld := hHeld2
    clear hHeld2
    try simp only [List.getElem_toArray, List.getElem_cons_succ, List.getElem_cons_zero, Act.put, List.setIfInBounds_toArray, List.set_cons_zero, List.set_cons_succ]
    try simp only [List.getElem_toArray, List.getElem_cons_succ, List.getElem_cons_zero, Act.put, List.setIfInBounds_toArray, List.set_cons_zero, List.set_cons_succ]
    refine but_one (i := 5) (by kernel_rfl) rfl ?_
    intro K hK
    rw [if_pos (by first | kernel_rfl | rfl)]
    refine wp_run (ex_al (N := w3.heap.size + 1) rfl (World.size_alloc ..) (al30 _)) ?_
    have hHeld2 := KP.out _ MA.out.2.2
    refine hK _ _ (fun _ => hHeld2) ?_
    clear hK K hHeld
    have hHeld := hHeld2
    clear hHeld2
    try simp only [List.getElem_toArray, List.getElem_cons_succ, List.getElem_cons_zero, Act.put, List.setIfInBounds_toArray, List.set_cons_zero, List.set_cons_succ]
    try simp only [List.getElem_toArray, List.getElem_cons_succ, List.getElem_cons_zero, Act.put, List.setIfInBounds_toArray, List.set_cons_zero, List.set_cons_succ]
    refine but_one (i := 6) (by kernel_rfl) rfl ?_
    intro K hK
    rw [if_pos (by first | kernel_rfl | rfl)]
    refine wp_st1 (.tmp 5) (.tmp 8) rfl rfl rfl MA.out.1 rfl i34 (iR_one ..) ?_
    have hHeld2 := KP.out _ (below_row MA.out.2.2 (Nat.le_refl _) (iR x A cap))
    refine hK _ _ (fun _ => hHeld2) ?_
    clear hK K hHeld
    have hHeld := hHeld2
    clear hHeld2
    try simp only [List.getElem_toArray, List.getElem_cons_succ, List.getElem_cons_zero, Act.put]
    try simp only [List.getElem_toArray, List.getElem_cons_succ, List.getElem_cons_zero, Act.put, List.setIfInBounds_toArray, List.set_cons_zero, List.set_cons_succ]
    refine but_one (i := 7) (by kernel_rfl) rfl ?_
    intro K hK
    rw [if_pos (by first | kernel_rfl | rfl)]
    refine wp_st1 (.tmp 6) (.tmp 10) rfl rfl rfl (MA.out.2.1.row_other (Nat.succ_ne_self _) _) rfl i30 (gR_one _) ?_
    refine hK _ _ (fun h => absurd rfl h) ?_
    clear hK K hHeld
    try simp only [List.getElem_toArray, List.getElem_cons_succ, List.getElem_cons_zero, Act.put]
    refine but_done (by kernel_rfl) ?_
    try clear hHeld
    clear hTidy
    have HI : Hid (Bk (mA w3 (iR x A cap) (gR x.rg)) w3.heap.size 34 (iR x A cap)) := (MA.out.1.row _).row_other (Nat.ne_of_lt (Nat.lt_succ_self _)) _
    have HG : Hid (Bk (mA w3 (iR x A cap) (gR x.rg)) (w3.heap.size + 1) 30 (gR x.rg)) := (MA.out.2.1.row_other (Nat.succ_ne_self _) _).row _
    have HB : Hid (Below w3.heap.size w3 (mA w3 (iR x A cap) (gR x.rg))) := below_row (below_row MA.out.2.2 (Nat.le_refl _) _) (Nat.le_succ _) _
    have HW := Lib.hid (HV3.out.later HB.out)
    have HR := Lib.hid (HR3.out.later HB.out)
    have HBW := Lib.hid (HB3.out.trans (HB.out.mono HB3.out.size))
    change Exit.then _ _ _ _ (mA w3 (iR x A cap) (gR x.rg))
    generalize mA w3 (iR x A cap) (gR x.rg) = W at *
    clear HB MA MB KP HU3 HV3 HR3 HB3
    have hN : w.heap.size + 3 = w3.heap.size := HN3.out.symm
    clear HN3
    generalize w3.heap.size = N at *
    have k0 : W.cell? ⟨N, 0, none⟩ = some (.int .i64 x.op) := HI.out.cell 0
    have k1 : W.cell? ⟨N, 1, none⟩ = some (.int .i64 x.a) := HI.out.cell 1
    have k2 : W.cell? ⟨N, 2, none⟩ = some (.int .i64 x.b) := HI.out.cell 2
    have k3 : W.cell? ⟨N, 3, none⟩ = some (.int .i64 x.c) := HI.out.cell 3
    have k4 : W.cell? ⟨N, 4, none⟩ = some (.slice A x.cs.length cap) := HI.out.cell 4
    have v1 : W.cell? ⟨w.heap.size + 1, 1, none⟩ = some (.int .i64 (kase : Int)) := HW.out.cell 1
    have v2 : W.cell? ⟨w.heap.size + 1, 2, none⟩ = some (.int .i64 value) := HW.out.cell 2
    have v3 : W.cell? ⟨w.heap.size + 1, 3, none⟩ = some (.bool true) := HW.out.cell 3
    rw [hop] at k0
    rw [eb] at k2
    rw [ec] at k3
    go_wp2_with (first
      | (refine wp_stI rfl (.tmp 32) (.tmp 31) rfl rfl rfl HG.out (by rw [gR_size]; omega) ?_; have HI2 := Lib.hid (HI.out.set_other (i := nb) (a := (N + 1)) (by omega) (.int .i64 value)); have HW2 := Lib.hid (HW.out.set_other (i := nb) (a := (N + 1)) (by omega) (.int .i64 value)); have HR2 := Lib.hid (HR.out.set_other (i := nb) (a := (N + 1)) (by omega) (.int .i64 value)); have HBW2 := Lib.hid (below_set (i := nb) (a := (N + 1)) HBW.out (by omega) (.int .i64 value)); have HG2 := HG.out.set nb (.int .i64 value); rw [gR_set _ (by omega)] at HG2; replace HG2 := Lib.hid HG2; clear HI HW HR HBW HG; have HI := HI2; have HW := HW2; have HR := HR2; have HBW := HBW2; have HG := HG2; clear HI2 HW2 HR2 HBW2 HG2; clear k0 k1 k2 k3 k4 v1 v2 v3; generalize W.setCell ⟨(N + 1), nb, none⟩ (.int .i64 value) = W1 at *; have k0 : W1.cell? ⟨N, 0, none⟩ = some (.int .i64 x.op) := HI.out.cell 0; have k1 : W1.cell? ⟨N, 1, none⟩ = some (.int .i64 x.a) := HI.out.cell 1; have k2 : W1.cell? ⟨N, 2, none⟩ = some (.int .i64 x.b) := HI.out.cell 2; have k3 : W1.cell? ⟨N, 3, none⟩ = some (.int .i64 x.c) := HI.out.cell 3; have k4 : W1.cell? ⟨N, 4, none⟩ = some (.slice A x.cs.length cap) := HI.out.cell 4; have v1 : W1.cell? ⟨w.heap.size + 1, 1, none⟩ = some (.int .i64 (kase : Int)) := HW.out.cell 1; have v2 : W1.cell? ⟨w.heap.size + 1, 2, none⟩ = some (.int .i64 value) := HW.out.cell 2; have v3 : W1.cell? ⟨w.heap.size + 1, 3, none⟩ = some (.bool true) := HW.out.cell 3; rw [hop] at k0; rw [eb] at k2; rw [ec] at k3)
      | (refine wp_stI rfl (.tmp 35) (.const (.int .i64 0)) rfl rfl rfl HG.out (by rw [gR_size]; omega) ?_; have HI2 := Lib.hid (HI.out.set_other (i := nc) (a := (N + 1)) (by omega) (.int .i64 0)); have HW2 := Lib.hid (HW.out.set_other (i := nc) (a := (N + 1)) (by omega) (.int .i64 0)); have HR2 := Lib.hid (HR.out.set_other (i := nc) (a := (N + 1)) (by omega) (.int .i64 0)); have HBW2 := Lib.hid (below_set (i := nc) (a := (N + 1)) HBW.out (by omega) (.int .i64 0)); have HG2 := HG.out.set nc (.int .i64 0); rw [gR_set _ (by omega)] at HG2; replace HG2 := Lib.hid HG2; clear HI HW HR HBW HG; have HI := HI2; have HW := HW2; have HR := HR2; have HBW := HBW2; have HG := HG2; clear HI2 HW2 HR2 HBW2 HG2; clear k0 k1 k2 k3 k4 v1 v2 v3; generalize W1.setCell ⟨(N + 1), nc, none⟩ (.int .i64 0) = W2 at *; have k0 : W2.cell? ⟨N, 0, none⟩ = some (.int .i64 x.op) := HI.out.cell 0; have k1 : W2.cell? ⟨N, 1, none⟩ = some (.int .i64 x.a) := HI.out.cell 1; have k2 : W2.cell? ⟨N, 2, none⟩ = some (.int .i64 x.b) := HI.out.cell 2; have k3 : W2.cell? ⟨N, 3, none⟩ = some (.int .i64 x.c) := HI.out.cell 3; have k4 : W2.cell? ⟨N, 4, none⟩ = some (.slice A x.cs.length cap) := HI.out.cell 4; have v1 : W2.cell? ⟨w.heap.size + 1, 1, none⟩ = some (.int .i64 (kase : Int)) := HW.out.cell 1; have v2 : W2.cell? ⟨w.heap.size + 1, 2, none⟩ = some (.int .i64 value) := HW.out.cell 2; have v3 : W2.cell? ⟨w.heap.size + 1, 3, none⟩ = some (.bool true) := HW.out.cell 3; rw [hop] at k0; rw [eb] at k2; rw [ec] at k3)
      | (refine wp_stI rfl (.tmp 40) (.const (.int .i64 1)) rfl rfl rfl HG.out (by rw [gR_size]; omega) ?_; have HI2 := Lib.hid (HI.out.set_other (i := nc) (a := (N + 1)) (by omega) (.int .i64 1)); have HW2 := Lib.hid (HW.out.set_other (i := nc) (a := (N + 1)) (by omega) (.int .i64 1)); have HR2 := Lib.hid (HR.out.set_other (i := nc) (a := (N + 1)) (by omega) (.int .i64 1)); have HBW2 := Lib.hid (below_set (i := nc) (a := (N + 1)) HBW.out (by omega) (.int .i64 1)); have HG2 := HG.out.set nc (.int .i64 1); rw [gR_set _ (by omega)] at HG2; replace HG2 := Lib.hid HG2; clear HI HW HR HBW HG; have HI := HI2; have HW := HW2; have HR := HR2; have HBW := HBW2; have HG := HG2; clear HI2 HW2 HR2 HBW2 HG2; clear k0 k1 k2 k3 k4 v1 v2 v3; generalize W2.setCell ⟨(N + 1), nc, none⟩ (.int .i64 1) = W3 at *; have k0 : W3.cell? ⟨N, 0, none⟩ = some (.int .i64 x.op) := HI.out.cell 0; have k1 : W3.cell? ⟨N, 1, none⟩ = some (.int .i64 x.a) := HI.out.cell 1; have k2 : W3.cell? ⟨N, 2, none⟩ = some (.int .i64 x.b) := HI.out.cell 2; have k3 : W3.cell? ⟨N, 3, none⟩ = some (.int .i64 x.c) := HI.out.cell 3; have k4 : W3.cell? ⟨N, 4, none⟩ = some (.slice A x.cs.length cap) := HI.out.cell 4; have v1 : W3.cell? ⟨w.heap.size + 1, 1, none⟩ = some (.int .i64 (kase : Int)) := HW.out.cell 1; have v2 : W3.cell? ⟨w.heap.size + 1, 2, none⟩ = some (.int .i64 value) := HW.out.cell 2; have v3 : W3.cell? ⟨w.heap.size + 1, 3, none⟩ = some (.bool true) := HW.out.cell 3; rw [hop] at k0; rw [eb] at k2; rw [ec] at k3)
      | (refine wp_ldB rfl (.tmp 6) rfl rfl HG.out Tryd.underlying30 rfl i30 ?_)
      | (refine wp_stB rfl (.tmp 4) (.tmp 41) rfl rfl rfl HR.out rfl i30 (gR_one _) ?_))
    refine bodyPost_ret (v := .agg (gR (upd (upd (upd x.rg nb value) nc 0) nc 1))) ?_ rfl ⟨rfl, below_row HBW.out (by omega) _⟩
    exact results_cell_row (p := 4) (ty := 30) rfl _ _ (w.heap.size + 2) 30 (gR (upd (upd (upd x.rg nb value) nc 0) nc 1)) (0, 0) _ rfl (HR.out.row _) Tryd.underlying30 rfl i30
  · intro K hK
    rw [if_pos (by first | kernel_rfl | rfl)]
    refine wp_run (ex_al (N := w3.heap.size) rfl rfl (al30 _)) ?_
    have hHeld2 := KP.out (w3.drew.alloc (.cells (gR fun _ => 0) 30)) (((Below.refl w3.heap.size w3).drew).alloc (Nat.le_refl _) _)
    refine hK _ _ (fun _ => hHeld2) ?_
    clear hK K hHeld
    have hHeld := hHeld2
    clear hHeld2
    try simp only [List.getElem_toArray, List.getElem_cons_succ, List.getElem_cons_zero, Act.put, List.setIfInBounds_toArray, List.set_cons_zero, List.set_cons_succ]
    try simp only [List.getElem_toArray, List.getElem_cons_succ, List.getElem_cons_zero, Act.put, List.setIfInBounds_toArray, List.set_cons_zero, List.set_cons_succ]
    refine but_one (i := 4) (by kernel_rfl) rfl ?_
    intro K hK
    rw [if_pos (by first | kernel_rfl | rfl)]
    refine wp_run (ex_al (N := w3.heap.size + 1) rfl (World.size_alloc ..) (al34 _)) ?_
    have hHeld2 := KP.out _ MB.out.2.2
    refine hK _ _ (fun _ => hHeld2) ?_
    clear hK K hHeld
    have hHeld := hHeld2
    clear hHeld2
    try simp only [List.getElem_toArray, List.getElem_cons_succ, List.getElem_cons_zero, Act.put, List.setIfInBounds_toArray, List.set_cons_zero, List.set_cons_succ]
    try simp only [List.getElem_toArray, List.getElem_cons_succ, List.getElem_cons_zero, Act.put, List.setIfInBounds_toArray, List.set_cons_zero, List.set_cons_succ]
    refine but_one (i := 6) (by kernel_rfl) rfl ?_
    intro K hK
    rw [if_pos (by first | kernel_rfl | rfl)]
    refine wp_st1 (.tmp 5) (.tmp 8) rfl rfl rfl MB.out.1 rfl i34 (iR_one ..) ?_
    have hHeld2 := KP.out _ (below_row MB.out.2.2 (Nat.le_succ _) (iR x A cap))
    refine hK _ _ (fun _ => hHeld2) ?_
    clear hK K hHeld
    have hHeld := hHeld2
    clear hHeld2
    try simp only [List.getElem_toArray, List.getElem_cons_succ, List.getElem_cons_zero, Act.put]
    try simp only [List.getElem_toArray, List.getElem_cons_succ, List.getElem_cons_zero, Act.put, List.setIfInBounds_toArray, List.set_cons_zero, List.set_cons_succ]
    refine but_one (i := 7) (by kernel_rfl) rfl ?_
    intro K hK
    rw [if_pos (by first | kernel_rfl | rfl)]
    refine wp_st1 (.tmp 6) (.tmp 10) rfl rfl rfl (MB.out.2.1.row_other (Nat.ne_of_lt (Nat.lt_succ_self _)) _) rfl i30 (gR_one _) ?_
    refine hK _ _ (fun h => absurd rfl h) ?_
    clear hK K hHeld
    try simp only [List.getElem_toArray, List.getElem_cons_succ, List.getElem_cons_zero, Act.put]
    refine but_done (by kernel_rfl) ?_
    try clear hHeld
    clear hTidy
    have HI : Hid (Bk (mB w3 (iR x A cap) (gR x.rg)) (w3.heap.size + 1) 34 (iR x A cap)) := (MB.out.1.row _).row_other (Nat.succ_ne_self _) _
    have HG : Hid (Bk (mB w3 (iR x A cap) (gR x.rg)) w3.heap.size 30 (gR x.rg)) := (MB.out.2.1.row_other (Nat.ne_of_lt (Nat.lt_succ_self _)) _).row _
    have HB : Hid (Below w3.heap.size w3 (mB w3 (iR x A cap) (gR x.rg))) := below_row (below_row MB.out.2.2 (Nat.le_succ _) _) (Nat.le_refl _) _
    have HW := Lib.hid (HV3.out.later HB.out)
    have HR := Lib.hid (HR3.out.later HB.out)
    have HBW := Lib.hid (HB3.out.trans (HB.out.mono HB3.out.size))
    change Exit.then _ _ _ _ (mB w3 (iR x A cap) (gR x.rg))
    generalize mB w3 (iR x A cap) (gR x.rg) = W at *
    clear HB MA MB KP HU3 HV3 HR3 HB3
    have hN : w.heap.size + 3 = w3.heap.size := HN3.out.symm
    clear HN3
    generalize w3.heap.size = N at *
    have k0 : W.cell? ⟨(N + 1), 0, none⟩ = some (.int .i64 x.op) := HI.out.cell 0
    have k1 : W.cell? ⟨(N + 1), 1, none⟩ = some (.int .i64 x.a) := HI.out.cell 1
    have k2 : W.cell? ⟨(N + 1), 2, none⟩ = some (.int .i64 x.b) := HI.out.cell 2
    have k3 : W.cell? ⟨(N + 1), 3, none⟩ = some (.int .i64 x.c) := HI.out.cell 3
    have k4 : W.cell? ⟨(N + 1), 4, none⟩ = some (.slice A x.cs.length cap) := HI.out.cell 4
    have v1 : W.cell? ⟨w.heap.size + 1, 1, none⟩ = some (.int .i64 (kase : Int)) := HW.out.cell 1
    have v2 : W.cell? ⟨w.heap.size + 1, 2, none⟩ = some (.int .i64 value) := HW.out.cell 2
    have v3 : W.cell? ⟨w.heap.size + 1, 3, none⟩ = some (.bool true) := HW.out.cell 3
    rw [hop] at k0
    rw [eb] at k2
    rw [ec] at k3
    go_wp2_with (first
      | (refine wp_stI rfl (.tmp 32) (.tmp 31) rfl rfl rfl HG.out (by rw [gR_size]; omega) ?_; have HI2 := Lib.hid (HI.out.set_other (i := nb) (a := N) (by omega) (.int .i64 value)); have HW2 := Lib.hid (HW.out.set_other (i := nb) (a := N) (by omega) (.int .i64 value)); have HR2 := Lib.hid (HR.out.set_other (i := nb) (a := N) (by omega) (.int .i64 value)); have HBW2 := Lib.hid (below_set (i := nb) (a := N) HBW.out (by omega) (.int .i64 value)); have HG2 := HG.out.set nb (.int .i64 value); rw [gR_set _ (by omega)] at HG2; replace HG2 := Lib.hid HG2; clear HI HW HR HBW HG; have HI := HI2; have HW := HW2; have HR := HR2; have HBW := HBW2; have HG := HG2; clear HI2 HW2 HR2 HBW2 HG2; clear k0 k1 k2 k3 k4 v1 v2 v3; generalize W.setCell ⟨N, nb, none⟩ (.int .i64 value) = W1 at *; have k0 : W1.cell? ⟨(N + 1), 0, none⟩ = some (.int .i64 x.op) := HI.out.cell 0; have k1 : W1.cell? ⟨(N + 1), 1, none⟩ = some (.int .i64 x.a) := HI.out.cell 1; have k2 : W1.cell? ⟨(N + 1), 2, none⟩ = some (.int .i64 x.b) := HI.out.cell 2; have k3 : W1.cell? ⟨(N + 1), 3, none⟩ = some (.int .i64 x.c) := HI.out.cell 3; have k4 : W1.cell? ⟨(N + 1), 4, none⟩ = some (.slice A x.cs.length cap) := HI.out.cell 4; have v1 : W1.cell? ⟨w.heap.size + 1, 1, none⟩ = some (.int .i64 (kase : Int)) := HW.out.cell 1; have v2 : W1.cell? ⟨w.heap.size + 1, 2, none⟩ = some (.int .i64 value) := HW.out.cell 2; have v3 : W1.cell? ⟨w.heap.size + 1, 3, none⟩ = some (.bool true) := HW.out.cell 3; rw [hop] at k0; rw [eb] at k2; rw [ec] at k3)
      | (refine wp_stI rfl (.tmp 35) (.const (.int .i64 0)) rfl rfl rfl HG.out (by rw [gR_size]; omega) ?_; have HI2 := Lib.hid (HI.out.set_other (i := nc) (a := N) (by omega) (.int .i64 0)); have HW2 := Lib.hid (HW.out.set_other (i := nc) (a := N) (by omega) (.int .i64 0)); have HR2 := Lib.hid (HR.out.set_other (i := nc) (a := N) (by omega) (.int .i64 0)); have HBW2 := Lib.hid (below_set (i := nc) (a := N) HBW.out (by omega) (.int .i64 0)); have HG2 := HG.out.set nc (.int .i64 0); rw [gR_set _ (by omega)] at HG2; replace HG2 := Lib.hid HG2; clear HI HW HR HBW HG; have HI := HI2; have HW := HW2; have HR := HR2; have HBW := HBW2; have HG := HG2; clear HI2 HW2 HR2 HBW2 HG2; clear k0 k1 k2 k3 k4 v1 v2 v3; generalize W1.setCell ⟨N, nc, none⟩ (.int .i64 0) = W2 at *; have k0 : W2.cell? ⟨(N + 1), 0, none⟩ = some (.int .i64 x.op) := HI.out.cell 0; have k1 : W2.cell? ⟨(N + 1), 1, none⟩ = some (.int .i64 x.a) := HI.out.cell 1; have k2 : W2.cell? ⟨(N + 1), 2, none⟩ = some (.int .i64 x.b) := HI.out.cell 2; have k3 : W2.cell? ⟨(N + 1), 3, none⟩ = some (.int .i64 x.c) := HI.out.cell 3; have k4 : W2.cell? ⟨(N + 1), 4, none⟩ = some (.slice A x.cs.length cap) := HI.out.cell 4; have v1 : W2.cell? ⟨w.heap.size + 1, 1, none⟩ = some (.int .i64 (kase : Int)) := HW.out.cell 1; have v2 : W2.cell? ⟨w.heap.size + 1, 2, none⟩ = some (.int .i64 value) := HW.out.cell 2; have v3 : W2.cell? ⟨w.heap.size + 1, 3, none⟩ = some (.bool true) := HW.out.cell 3; rw [hop] at k0; rw [eb] at k2; rw [ec] at k3)
      | (refine wp_stI rfl (.tmp 40) (.const (.int .i64 1)) rfl rfl rfl HG.out (by rw [gR_size]; omega) ?_; have HI2 := Lib.hid (HI.out.set_other (i := nc) (a := N) (by omega) (.int .i64 1)); have HW2 := Lib.hid (HW.out.set_other (i := nc) (a := N) (by omega) (.int .i64 1)); have HR2 := Lib.hid (HR.out.set_other (i := nc) (a := N) (by omega) (.int .i64 1)); have HBW2 := Lib.hid (below_set (i := nc) (a := N) HBW.out (by omega) (.int .i64 1)); have HG2 := HG.out.set nc (.int .i64 1); rw [gR_set _ (by omega)] at HG2; replace HG2 := Lib.hid HG2; clear HI HW HR HBW HG; have HI := HI2; have HW := HW2; have HR := HR2; have HBW := HBW2; have HG := HG2; clear HI2 HW2 HR2 HBW2 HG2; clear k0 k1 k2 k3 k4 v1 v2 v3; generalize W2.setCell ⟨N, nc, none⟩ (.int .i64 1) = W3 at *; have k0 : W3.cell? ⟨(N + 1), 0, none⟩ = some (.int .i64 x.op) := HI.out.cell 0; have k1 : W3.cell? ⟨(N + 1), 1, none⟩ = some (.int .i64 x.a) := HI.out.cell 1; have k2 : W3.cell? ⟨(N + 1), 2, none⟩ = some (.int .i64 x.b) := HI.out.cell 2; have k3 : W3.cell? ⟨(N + 1), 3, none⟩ = some (.int .i64 x.c) := HI.out.cell 3; have k4 : W3.cell? ⟨(N + 1), 4, none⟩ = some (.slice A x.cs.length cap) := HI.out.cell 4; have v1 : W3.cell? ⟨w.heap.size + 1, 1, none⟩ = some (.int .i64 (kase : Int)) := HW.out.cell 1; have v2 : W3.cell? ⟨w.heap.size + 1, 2, none⟩ = some (.int .i64 value) := HW.out.cell 2; have v3 : W3.cell? ⟨w.heap.size + 1, 3, none⟩ = some (.bool true) := HW.out.cell 3; rw [hop] at k0; rw [eb] at k2; rw [ec] at k3)
      | (refine wp_ldB rfl (.tmp 6) rfl rfl HG.out Tryd.underlying30 rfl i30 ?_)
      | (refine wp_stB rfl (.tmp 4) (.tmp 41) rfl rfl rfl HR.out rfl i30 (gR_one _) ?_))
    refine bodyPost_ret (v := .agg (gR (upd (upd (upd x.rg nb value) nc 0) nc 1))) ?_ rfl ⟨rfl, below_row HBW.out (by omega) _⟩
    exact results_cell_row (p := 4) (ty := 30) rfl _ _ (w.heap.size + 2) 30 (gR (upd (upd (upd x.rg nb value) nc 0) nc 1)) (0, 0) _ rfl (HR.out.row _) Tryd.underlying30 rfl i30
set_option maxHeartbeats 2000000 in
theorem told_recv0 (x : T0) (A : Option Addr) (cap : Nat) (j value : Int) ( pn : Bool) (kase : Nat) (w : World) {nb nc : Nat} (hop : x.op = 11) (eb : x.b = (nb : Int)) (ec : x.c = (nc : Int)) (hb : nb < 8) (hc : nc < 8) : Calls Tryd.prog 32 #[.agg (tW x A cap), .agg (wR j (kase : Int) value false pn)] w (ToldR (upd (upd x.rg nb value) nc 0) w) := by
  have q1 : (nb : Int) < 8 := by omega
  have q2 : (nc : Int) < 8 := by omega
  have q3 : (0 : Int) ≤ (nb : Int) := by omega
  have q4 : (0 : Int) ≤ (nc : Int) := by omega
  go_enter Tryd.func32, Tryd.ntmps32
  go_wp2_with fail
  have HB3 : Hid (Below w.heap.size w (((w.alloc (.cells (tW x A cap) 47)).alloc (.cells (wR j (kase : Int) value false pn) 38)).alloc (.cells (gR fun _ => 0) 30))) := (((Below.refl w.heap.size w).alloc (Nat.le_refl _) _).alloc (by simp) _).alloc (by simp; omega) _
  have HU3 : Hid (Bk (((w.alloc (.cells (tW x A cap) 47)).alloc (.cells (wR j (kase : Int) value false pn) 38)).alloc (.cells (gR fun _ => 0) 30)) w.heap.size 47 (tW x A cap)) := ((Bk.new w _ 47).later (below_al _ _)).later (below_al _ _)
  have HV3 : Hid (Bk (((w.alloc (.cells (tW x A cap) 47)).alloc (.cells (wR j (kase : Int) value false pn) 38)).alloc (.cells (gR fun _ => 0) 30)) (w.heap.size + 1) 38 (wR j (kase : Int) value false pn)) := by
    have h9 := (Bk.new (w.alloc (.cells (tW x A cap) 47)) (wR j (kase : Int) value false pn) 38).later (below_al _ (.cells (gR fun _ => 0) 30))
    rw [World.size_alloc] at h9; exact h9
  have HR3 : Hid (Bk (((w.alloc (.cells (tW x A cap) 47)).alloc (.cells (wR j (kase : Int) value false pn) 38)).alloc (.cells (gR fun _ => 0) 30)) (w.heap.size + 2) 30 (gR fun _ => 0)) := by
    have h9 := Bk.new ((w.alloc (.cells (tW x A cap) 47)).alloc (.cells (wR j (kase : Int) value false pn) 38)) (gR fun _ => 0) 30
    rw [World.size_alloc, World.size_alloc] at h9; exact h9
  have HN3 : Hid ((((w.alloc (.cells (tW x A cap) 47)).alloc (.cells (wR j (kase : Int) value false pn) 38)).alloc (.cells (gR fun _ => 0) 30)).heap.size = w.heap.size + 3) := by show _ = _; simp
  change Code.wp _ _ _ _ (((w.alloc (.cells (tW x A cap) 47)).alloc (.cells (wR j (kase : Int) value false pn) 38)).alloc (.cells (gR fun _ => 0) 30))
  generalize ((w.alloc (.cells (tW x A cap) 47)).alloc (.cells (wR j (kase : Int) value false pn) 38)).alloc (.cells (gR fun _ => 0) 30) = w3 at *
  have KP : Hid (∀ w', Below w3.heap.size w3 w' → w'.rangeAt w.heap.size 12 (iR x A cap).toList ∧ w'.rangeAt w.heap.size 4 (gR x.rg).toList) := fun w' hb => ⟨instr_part (HU3.out.later hb), regs_part (HU3.out.later hb)⟩
  have MA := Lib.hid (mA_a w3)
  have MB := Lib.hid (mB_a w3)
  refine but_startQ 7 (fun w' => w'.rangeAt w.heap.size 12 (iR x A cap).toList ∧ w'.rangeAt w.heap.size 4 (gR x.rg).toList) (by kernel_rfl) (by as_aux_lemma => kernel_rfl) ?_
  intro hTidy
  have hHeld := KP.out _ ((Below.refl _ _).drew)
  change AnyBut _ _ _ _ _ _ 8 _ _ _
  refine tkQ 0 rfl hTidy hHeld ?_
  refine tkL 1 (ty := 34) (.tmp 7) (iR x A cap) rfl hTidy hHeld rfl rfl (fun w h => h.1) Tryd.underlying34 rfl i34 ?_
  refine tkQ 2 rfl hTidy hHeld ?_
  refine tkL 3 (ty := 30) (.tmp 9) (gR x.rg) rfl hTidy hHeld rfl rfl (fun w h => h.2) Tryd.underlying30 rfl i30 ?_
  try simp only [List.getElem_toArray, List.getElem_cons_succ, List.getElem_cons_zero, Act.put, List.setIfInBounds_toArray, List.set_cons_zero, List.set_cons_succ]
  refine but_two (i := 4) (j := 5) (by kernel_rfl) rfl rfl ?_ ?_
  · intro K hK
    rw [if_pos (by first | kernel_rfl | rfl)]
    refine wp_run (ex_al (N := w3.heap.size) rfl rfl (al34 _)) ?_
    have hHeld2 := KP.out (w3.drew.alloc (.cells (iR zI' none 0) 34)) (((Below.refl w3.heap.size w3).drew).alloc (Nat.le_refl _) _)
    refine hK _ _ (fun _ => hHeld2) ?_
    clear hK K hHeld
    have hHeld := hHeld2
    clear hHeld2
    try simp only [List.getElem_toArray, List.getElem_cons_succ, List.getElem_cons_zero, Act.put, List.setIfInBounds_toArray, List.set_cons_zero, List.set_cons_succ]
    try simp only [List.getElem_toArray, List.getElem_cons_succ, List.getElem_cons_zero, Act.put, List.setIfInBounds_toArray, List.set_cons_zero, List.set_cons_succ]
    refine but_one (i := 5) (by kernel_rfl) rfl ?_
    intro K hK
    rw [if_pos (by first | kernel_rfl | rfl)]
    refine wp_run (ex_al (N := w3.heap.size + 1) rfl (World.size_alloc ..) (al30 _)) ?_
    have hHeld2 := KP.out _ MA.out.2.2
    refine hK _ _ (fun _ => hHeld2) ?_
    clear hK K hHeld
    have hHeld := hHeld2
    clear hHeld2
    try simp only [List.getElem_toArray, List.getElem_cons_succ, List.getElem_cons_zero, Act.put, List.setIfInBounds_toArray, List.set_cons_zero, List.set_cons_succ]
    try simp only [List.getElem_toArray, List.getElem_cons_succ, List.getElem_cons_zero, Act.put, List.setIfInBounds_toArray, List.set_cons_zero, List.set_cons_succ]
    refine but_one (i := 6) (by kernel_rfl) rfl ?_
    intro K hK
    rw [if_pos (by first | kernel_rfl | rfl)]
    refine wp_st1 (.tmp 5) (.tmp 8) rfl rfl rfl MA.out.1 rfl i34 (iR_one ..) ?_
    have hHeld2 := KP.out _ (below_row MA.out.2.2 (Nat.le_refl _) (iR x A cap))
    refine hK _ _ (fun _ => hHeld2) ?_
    clear hK K hHeld
    have hHeld := hHeld2
    clear hHeld2
    try simp only [List.getElem_toArray, List.getElem_cons_succ, List.getElem_cons_zero, Act.put]
    try simp only [List.getElem_toArray, List.getElem_cons_succ, List.getElem_cons_zero, Act.put, List.setIfInBounds_toArray, List.set_cons_zero, List.set_cons_succ]
    refine but_one (i := 7) (by kernel_rfl) rfl ?_
    intro K hK
    rw [if_pos (by first | kernel_rfl | rfl)]
    refine wp_st1 (.tmp 6) (.tmp 10) rfl rfl rfl (MA.out.2.1.row_other (Nat.succ_ne_self _) _) rfl i30 (gR_one _) ?_
    refine hK _ _ (fun h => absurd rfl h) ?_
    clear hK K hHeld
    try simp only [List.getElem_toArray, List.getElem_cons_succ, List.getElem_cons_zero, Act.put]
    refine but_done (by kernel_rfl) ?_
    try clear hHeld
    clear hTidy
    have HI : Hid (Bk (mA w3 (iR x A cap) (gR x.rg)) w3.heap.size 34 (iR x A cap)) := (MA.out.1.row _).row_other (Nat.ne_of_lt (Nat.lt_succ_self _)) _
    have HG : Hid (Bk (mA w3 (iR x A cap) (gR x.rg)) (w3.heap.size + 1) 30 (gR x.rg)) := (MA.out.2.1.row_other (Nat.succ_ne_self _) _).row _
    have HB : Hid (Below w3.heap.size w3 (mA w3 (iR x A cap) (gR x.rg))) := below_row (below_row MA.out.2.2 (Nat.le_refl _) _) (Nat.le_succ _) _
    have HW := Lib.hid (HV3.out.later HB.out)
    have HR := Lib.hid (HR3.out.later HB.out)
    have HBW := Lib.hid (HB3.out.trans (HB.out.mono HB3.out.size))
    change Exit.then _ _ _ _ (mA w3 (iR x A cap) (gR x.rg))
    generalize mA w3 (iR x A cap) (gR x.rg) = W at *
    clear HB MA MB KP HU3 HV3 HR3 HB3
    have hN : w.heap.size + 3 = w3.heap.size := HN3.out.symm
    clear HN3
    generalize w3.heap.size = N at *
    have k0 : W.cell? ⟨N, 0, none⟩ = some (.int .i64 x.op) := HI.out.cell 0
    have k1 : W.cell? ⟨N, 1, none⟩ = some (.int .i64 x.a) := HI.out.cell 1
    have k2 : W.cell? ⟨N, 2, none⟩ = some (.int .i64 x.b) := HI.out.cell 2
    have k3 : W.cell? ⟨N, 3, none⟩ = some (.int .i64 x.c) := HI.out.cell 3
    have k4 : W.cell? ⟨N, 4, none⟩ = some (.slice A x.cs.length cap) := HI.out.cell 4
    have v1 : W.cell? ⟨w.heap.size + 1, 1, none⟩ = some (.int .i64 (kase : Int)) := HW.out.cell 1
    have v2 : W.cell? ⟨w.heap.size + 1, 2, none⟩ = some (.int .i64 value) := HW.out.cell 2
    have v3 : W.cell? ⟨w.heap.size + 1, 3, none⟩ = some (.bool false) := HW.out.cell 3
    rw [hop] at k0
    rw [eb] at k2
    rw [ec] at k3
    go_wp2_with (first
      | (refine wp_stI rfl (.tmp 32) (.tmp 31) rfl rfl rfl HG.out (by rw [gR_size]; omega) ?_; have HI2 := Lib.hid (HI.out.set_other (i := nb) (a := (N + 1)) (by omega) (.int .i64 value)); have HW2 := Lib.hid (HW.out.set_other (i := nb) (a := (N + 1)) (by omega) (.int .i64 value)); have HR2 := Lib.hid (HR.out.set_other (i := nb) (a := (N + 1)) (by omega) (.int .i64 value)); have HBW2 := Lib.hid (below_set (i := nb) (a := (N + 1)) HBW.out (by omega) (.int .i64 value)); have HG2 := HG.out.set nb (.int .i64 value); rw [gR_set _ (by omega)] at HG2; replace HG2 := Lib.hid HG2; clear HI HW HR HBW HG; have HI := HI2; have HW := HW2; have HR := HR2; have HBW := HBW2; have HG := HG2; clear HI2 HW2 HR2 HBW2 HG2; clear k0 k1 k2 k3 k4 v1 v2 v3; generalize W.setCell ⟨(N + 1), nb, none⟩ (.int .i64 value) = W1 at *; have k0 : W1.cell? ⟨N, 0, none⟩ = some (.int .i64 x.op) := HI.out.cell 0; have k1 : W1.cell? ⟨N, 1, none⟩ = some (.int .i64 x.a) := HI.out.cell 1; have k2 : W1.cell? ⟨N, 2, none⟩ = some (.int .i64 x.b) := HI.out.cell 2; have k3 : W1.cell? ⟨N, 3, none⟩ = some (.int .i64 x.c) := HI.out.cell 3; have k4 : W1.cell? ⟨N, 4, none⟩ = some (.slice A x.cs.length cap) := HI.out.cell 4; have v1 : W1.cell? ⟨w.heap.size + 1, 1, none⟩ = some (.int .i64 (kase : Int)) := HW.out.cell 1; have v2 : W1.cell? ⟨w.heap.size + 1, 2, none⟩ = some (.int .i64 value) := HW.out.cell 2; have v3 : W1.cell? ⟨w.heap.size + 1, 3, none⟩ = some (.bool false) := HW.out.cell 3; rw [hop] at k0; rw [eb] at k2; rw [ec] at k3)
      | (refine wp_stI rfl (.tmp 35) (.const (.int .i64 0)) rfl rfl rfl HG.out (by rw [gR_size]; omega) ?_; have HI2 := Lib.hid (HI.out.set_other (i := nc) (a := (N + 1)) (by omega) (.int .i64 0)); have HW2 := Lib.hid (HW.out.set_other (i := nc) (a := (N + 1)) (by omega) (.int .i64 0)); have HR2 := Lib.hid (HR.out.set_other (i := nc) (a := (N + 1)) (by omega) (.int .i64 0)); have HBW2 := Lib.hid (below_set (i := nc) (a := (N + 1)) HBW.out (by omega) (.int .i64 0)); have HG2 := HG.out.set nc (.int .i64 0); rw [gR_set _ (by omega)] at HG2; replace HG2 := Lib.hid HG2; clear HI HW HR HBW HG; have HI := HI2; have HW := HW2; have HR := HR2; have HBW := HBW2; have HG := HG2; clear HI2 HW2 HR2 HBW2 HG2; clear k0 k1 k2 k3 k4 v1 v2 v3; generalize W1.setCell ⟨(N + 1), nc, none⟩ (.int .i64 0) = W2 at *; have k0 : W2.cell? ⟨N, 0, none⟩ = some (.int .i64 x.op) := HI.out.cell 0; have k1 : W2.cell? ⟨N, 1, none⟩ = some (.int .i64 x.a) := HI.out.cell 1; have k2 : W2.cell? ⟨N, 2, none⟩ = some (.int .i64 x.b) := HI.out.cell 2; have k3 : W2.cell? ⟨N, 3, none⟩ = some (.int .i64 x.c) := HI.out.cell 3; have k4 : W2.cell? ⟨N, 4, none⟩ = some (.slice A x.cs.length cap) := HI.out.cell 4; have v1 : W2.cell? ⟨w.heap.size + 1, 1, none⟩ = some (.int .i64 (kase : Int)) := HW.out.cell 1; have v2 : W2.cell? ⟨w.heap.size + 1, 2, none⟩ = some (.int .i64 value) := HW.out.cell 2; have v3 : W2.cell? ⟨w.heap.size + 1, 3, none⟩ = some (.bool false) := HW.out.cell 3; rw [hop] at k0; rw [eb] at k2; rw [ec] at k3)
      | (refine wp_ldB rfl (.tmp 6) rfl rfl HG.out Tryd.underlying30 rfl i30 ?_)
      | (refine wp_stB rfl (.tmp 4) (.tmp 41) rfl rfl rfl HR.out rfl i30 (gR_one _) ?_))
    refine bodyPost_ret (v := .agg (gR (upd (upd x.rg nb value) nc 0))) ?_ rfl ⟨rfl, below_row HBW.out (by omega) _⟩
    exact results_cell_row (p := 4) (ty := 30) rfl _ _ (w.heap.size + 2) 30 (gR (upd (upd x.rg nb value) nc 0)) (0, 0) _ rfl (HR.out.row _) Tryd.underlying30 rfl i30
  · intro K hK
    rw [if_pos (by first | kernel_rfl | rfl)]
    refine wp_run (ex_al (N := w3.heap.size) rfl rfl (al30 _)) ?_
    have hHeld2 := KP.out (w3.drew.alloc (.cells (gR fun _ => 0) 30)) (((Below.refl w3.heap.size w3).drew).alloc (Nat.le_refl _) _)
    refine hK _ _ (fun _ => hHeld2) ?_
    clear hK K hHeld
    have hHeld := hHeld2
    clear hHeld2
    try simp only [List.getElem_toArray, List.getElem_cons_succ, List.getElem_cons_zero, Act.put, List.setIfInBounds_toArray, List.set_cons_zero, List.set_cons_succ]
    try simp only [List.getElem_toArray, List.getElem_cons_succ, List.getElem_cons_zero, Act.put, List.setIfInBounds_toArray, List.set_cons_zero, List.set_cons_succ]
    refine but_one (i := 4) (by kernel_rfl) rfl ?_
    intro K hK
    rw [if_pos (by first | kernel_rfl | rfl)]
    refine wp_run (ex_al (N := w3.heap.size + 1) rfl (World.size_alloc ..) (al34 _)) ?_
    have hHeld2 := KP.out _ MB.out.2.2
    refine hK _ _ (fun _ => hHeld2) ?_
    clear hK K hHeld
    have hHeld := hHeld2
    clear hHeld2
    try simp only [List.getElem_toArray, List.getElem_cons_succ, List.getElem_cons_zero, Act.put, List.setIfInBounds_toArray, List.set_cons_zero, List.set_cons_succ]
    try simp only [List.getElem_toArray, List.getElem_cons_succ, List.getElem_cons_zero, Act.put, List.setIfInBounds_toArray, List.set_cons_zero, List.set_cons_succ]
    refine but_one (i := 6) (by kernel_rfl) rfl ?_
    intro K hK
    rw [if_pos (by first | kernel_rfl | rfl)]
    refine wp_st1 (.tmp 5) (.tmp 8) rfl rfl rfl MB.out.1 rfl i34 (iR_one ..) ?_
    have hHeld2 := KP.out _ (below_row MB.out.2.2 (Nat.le_succ _) (iR x A cap))
    refine hK _ _ (fun _ => hHeld2) ?_
    clear hK K hHeld
    have hHeld := hHeld2
    clear hHeld2
    try simp only [List.getElem_toArray, List.getElem_cons_succ, List.getElem_cons_zero, Act.put]
    try simp only [List.getElem_toArray, List.getElem_cons_succ, List.getElem_cons_zero, Act.put, List.setIfInBounds_toArray, List.set_cons_zero, List.set_cons_succ]
    refine but_one (i := 7) (by kernel_rfl) rfl ?_
    intro K hK
    rw [if_pos (by first | kernel_rfl | rfl)]
    refine wp_st1 (.tmp 6) (.tmp 10) rfl rfl rfl (MB.out.2.1.row_other (Nat.ne_of_lt (Nat.lt_succ_self _)) _) rfl i30 (gR_one _) ?_
    refine hK _ _ (fun h => absurd rfl h) ?_
    clear hK K hHeld
    try simp only [List.getElem_toArray, List.getElem_cons_succ, List.getElem_cons_zero, Act.put]
    refine but_done (by kernel_rfl) ?_
    try clear hHeld
    clear hTidy
    have HI : Hid (Bk (mB w3 (iR x A cap) (gR x.rg)) (w3.heap.size + 1) 34 (iR x A cap)) := (MB.out.1.row _).row_other (Nat.succ_ne_self _) _
    have HG : Hid (Bk (mB w3 (iR x A cap) (gR x.rg)) w3.heap.size 30 (gR x.rg)) := (MB.out.2.1.row_other (Nat.ne_of_lt (Nat.lt_succ_self _)) _).row _
    have HB : Hid (Below w3.heap.size w3 (mB w3 (iR x A cap) (gR x.rg))) := below_row (below_row MB.out.2.2 (Nat.le_succ _) _) (Nat.le_refl _) _
    have HW := Lib.hid (HV3.out.later HB.out)
    have HR := Lib.hid (HR3.out.later HB.out)
    have HBW := Lib.hid (HB3.out.trans (HB.out.mono HB3.out.size))
    change Exit.then _ _ _ _ (mB w3 (iR x A cap) (gR x.rg))
    generalize mB w3 (iR x A cap) (gR x.rg) = W at *
    clear HB MA MB KP HU3 HV3 HR3 HB3
    have hN : w.heap.size + 3 = w3.heap.size := HN3.out.symm
    clear HN3
    generalize w3.heap.size = N at *
    have k0 : W.cell? ⟨(N + 1), 0, none⟩ = some (.int .i64 x.op) := HI.out.cell 0
    have k1 : W.cell? ⟨(N + 1), 1, none⟩ = some (.int .i64 x.a) := HI.out.cell 1
    have k2 : W.cell? ⟨(N + 1), 2, none⟩ = some (.int .i64 x.b) := HI.out.cell 2
    have k3 : W.cell? ⟨(N + 1), 3, none⟩ = some (.int .i64 x.c) := HI.out.cell 3
    have k4 : W.cell? ⟨(N + 1), 4, none⟩ = some (.slice A x.cs.length cap) := HI.out.cell 4
    have v1 : W.cell? ⟨w.heap.size + 1, 1, none⟩ = some (.int .i64 (kase : Int)) := HW.out.cell 1
    have v2 : W.cell? ⟨w.heap.size + 1, 2, none⟩ = some (.int .i64 value) := HW.out.cell 2
    have v3 : W.cell? ⟨w.heap.size + 1, 3, none⟩ = some (.bool false) := HW.out.cell 3
    rw [hop] at k0
    rw [eb] at k2
    rw [ec] at k3
    go_wp2_with (first
      | (refine wp_stI rfl (.tmp 32) (.tmp 31) rfl rfl rfl HG.out (by rw [gR_size]; omega) ?_; have HI2 := Lib.hid (HI.out.set_other (i := nb) (a := N) (by omega) (.int .i64 value)); have HW2 := Lib.hid (HW.out.set_other (i := nb) (a := N) (by omega) (.int .i64 value)); have HR2 := Lib.hid (HR.out.set_other (i := nb) (a := N) (by omega) (.int .i64 value)); have HBW2 := Lib.hid (below_set (i := nb) (a := N) HBW.out (by omega) (.int .i64 value)); have HG2 := HG.out.set nb (.int .i64 value); rw [gR_set _ (by omega)] at HG2; replace HG2 := Lib.hid HG2; clear HI HW HR HBW HG; have HI := HI2; have HW := HW2; have HR := HR2; have HBW := HBW2; have HG := HG2; clear HI2 HW2 HR2 HBW2 HG2; clear k0 k1 k2 k3 k4 v1 v2 v3; generalize W.setCell ⟨N, nb, none⟩ (.int .i64 value) = W1 at *; have k0 : W1.cell? ⟨(N + 1), 0, none⟩ = some (.int .i64 x.op) := HI.out.cell 0; have k1 : W1.cell? ⟨(N + 1), 1, none⟩ = some (.int .i64 x.a) := HI.out.cell 1; have k2 : W1.cell? ⟨(N + 1), 2, none⟩ = some (.int .i64 x.b) := HI.out.cell 2; have k3 : W1.cell? ⟨(N + 1), 3, none⟩ = some (.int .i64 x.c) := HI.out.cell 3; have k4 : W1.cell? ⟨(N + 1), 4, none⟩ = some (.slice A x.cs.length cap) := HI.out.cell 4; have v1 : W1.cell? ⟨w.heap.size + 1, 1, none⟩ = some (.int .i64 (kase : Int)) := HW.out.cell 1; have v2 : W1.cell? ⟨w.heap.size + 1, 2, none⟩ = some (.int .i64 value) := HW.out.cell 2; have v3 : W1.cell? ⟨w.heap.size + 1, 3, none⟩ = some (.bool false) := HW.out.cell 3; rw [hop] at k0; rw [eb] at k2; rw [ec] at k3)
      | (refine wp_stI rfl (.tmp 35) (.const (.int .i64 0)) rfl rfl rfl HG.out (by rw [gR_size]; omega) ?_; have HI2 := Lib.hid (HI.out.set_other (i := nc) (a := N) (by omega) (.int .i64 0)); have HW2 := Lib.hid (HW.out.set_other (i := nc) (a := N) (by omega) (.int .i64 0)); have HR2 := Lib.hid (HR.out.set_other (i := nc) (a := N) (by omega) (.int .i64 0)); have HBW2 := Lib.hid (below_set (i := nc) (a := N) HBW.out (by omega) (.int .i64 0)); have HG2 := HG.out.set nc (.int .i64 0); rw [gR_set _ (by omega)] at HG2; replace HG2 := Lib.hid HG2; clear HI HW HR HBW HG; have HI := HI2; have HW := HW2; have HR := HR2; have HBW := HBW2; have HG := HG2; clear HI2 HW2 HR2 HBW2 HG2; clear k0 k1 k2 k3 k4 v1 v2 v3; generalize W1.setCell ⟨N, nc, none⟩ (.int .i64 0) = W2 at *; have k0 : W2.cell? ⟨(N + 1), 0, none⟩ = some (.int .i64 x.op) := HI.out.cell 0; have k1 : W2.cell? ⟨(N + 1), 1, none⟩ = some (.int .i64 x.a) := HI.out.cell 1; have k2 : W2.cell? ⟨(N + 1), 2, none⟩ = some (.int .i64 x.b) := HI.out.cell 2; have k3 : W2.cell? ⟨(N + 1), 3, none⟩ = some (.int .i64 x.c) := HI.out.cell 3; have k4 : W2.cell? ⟨(N + 1), 4, none⟩ = some (.slice A x.cs.length cap) := HI.out.cell 4; have v1 : W2.cell? ⟨w.heap.size + 1, 1, none⟩ = some (.int .i64 (kase : Int)) := HW.out.cell 1; have v2 : W2.cell? ⟨w.heap.size + 1, 2, none⟩ = some (.int .i64 value) := HW.out.cell 2; have v3 : W2.cell? ⟨w.heap.size + 1, 3, none⟩ = some (.bool false) := HW.out.cell 3; rw [hop] at k0; rw [eb] at k2; rw [ec] at k3)
      | (refine wp_ldB rfl (.tmp 6) rfl rfl HG.out Tryd.underlying30 rfl i30 ?_)
      | (refine wp_stB rfl (.tmp 4) (.tmp 41) rfl rfl rfl HR.out rfl i30 (gR_one _) ?_))
    refine bodyPost_ret (v := .agg (gR (upd (upd x.rg nb value) nc 0))) ?_ rfl ⟨rfl, below_row HBW.out (by omega) _⟩
    exact results_cell_row (p := 4) (ty := 30) rfl _ _ (w.heap.size + 2) 30 (gR (upd (upd x.rg nb value) nc 0)) (0, 0) _ rfl (HR.out.row _) Tryd.underlying30 rfl i30
set_option maxHeartbeats 2000000 in
theorem told_send (x : T0) (A : Option Addr) (cap : Nat) (j value : Int) (ok pn : Bool) (kase : Nat) (w : World) (hop : x.op = 10) : Calls Tryd.prog 32 #[.agg (tW x A cap), .agg (wR j (kase : Int) value ok pn)] w (ToldR (x.rg) w) := by
  go_enter Tryd.func32, Tryd.ntmps32
  go_wp2_with fail
  have HB3 : Hid (Below w.heap.size w (((w.alloc (.cells (tW x A cap) 47)).alloc (.cells (wR j (kase : Int) value ok pn) 38)).alloc (.cells (gR fun _ => 0) 30))) := (((Below.refl w.heap.size w).alloc (Nat.le_refl _) _).alloc (by simp) _).alloc (by simp; omega) _
  have HU3 : Hid (Bk (((w.alloc (.cells (tW x A cap) 47)).alloc (.cells (wR j (kase : Int) value ok pn) 38)).alloc (.cells (gR fun _ => 0) 30)) w.heap.size 47 (tW x A cap)) := ((Bk.new w _ 47).later (below_al _ _)).later (below_al _ _)
  have HV3 : Hid (Bk (((w.alloc (.cells (tW x A cap) 47)).alloc (.cells (wR j (kase : Int) value ok pn) 38)).alloc (.cells (gR fun _ => 0) 30)) (w.heap.size + 1) 38 (wR j (kase : Int) value ok pn)) := by
    have h9 := (Bk.new (w.alloc (.cells (tW x A cap) 47)) (wR j (kase : Int) value ok pn) 38).later (below_al _ (.cells (gR fun _ => 0) 30))
    rw [World.size_alloc] at h9; exact h9
  have HR3 : Hid (Bk (((w.alloc (.cells (tW x A cap) 47)).alloc (.cells (wR j (kase : Int) value ok pn) 38)).alloc (.cells (gR fun _ => 0) 30)) (w.heap.size + 2) 30 (gR fun _ => 0)) := by
    have h9 := Bk.new ((w.alloc (.cells (tW x A cap) 47)).alloc (.cells (wR j (kase : Int) value ok pn) 38)) (gR fun _ => 0) 30
    rw [World.size_alloc, World.size_alloc] at h9; exact h9
  have HN3 : Hid ((((w.alloc (.cells (tW x A cap) 47)).alloc (.cells (wR j (kase : Int) value ok pn) 38)).alloc (.cells (gR fun _ => 0) 30)).heap.size = w.heap.size + 3) := by show _ = _; simp
  change Code.wp _ _ _ _ (((w.alloc (.cells (tW x A cap) 47)).alloc (.cells (wR j (kase : Int) value ok pn) 38)).alloc (.cells (gR fun _ => 0) 30))
  generalize ((w.alloc (.cells (tW x A cap) 47)).alloc (.cells (wR j (kase : Int) value ok pn) 38)).alloc (.cells (gR fun _ => 0) 30) = w3 at *
  have KP : Hid (∀ w', Below w3.heap.size w3 w' → w'.rangeAt w.heap.size 12 (iR x A cap).toList ∧ w'.rangeAt w.heap.size 4 (gR x.rg).toList) := fun w' hb => ⟨instr_part (HU3.out.later hb), regs_part (HU3.out.later hb)⟩
  have MA := Lib.hid (mA_a w3)
  have MB := Lib.hid (mB_a w3)
  refine but_startQ 7 (fun w' => w'.rangeAt w.heap.size 12 (iR x A cap).toList ∧ w'.rangeAt w.heap.size 4 (gR x.rg).toList) (by kernel_rfl) (by as_aux_lemma => kernel_rfl) ?_
  intro hTidy
  have hHeld := KP.out _ ((Below.refl _ _).drew)
  change AnyBut _ _ _ _ _ _ 8 _ _ _
  refine tkQ 0 rfl hTidy hHeld ?_
  refine tkL 1 (ty := 34) (.tmp 7) (iR x A cap) rfl hTidy hHeld rfl rfl (fun w h => h.1) Tryd.underlying34 rfl i34 ?_
  refine tkQ 2 rfl hTidy hHeld ?_
  refine tkL 3 (ty := 30) (.tmp 9) (gR x.rg) rfl hTidy hHeld rfl rfl (fun w h => h.2) Tryd.underlying30 rfl i30 ?_
  try simp only [List.getElem_toArray, List.getElem_cons_succ, List.getElem_cons_zero, Act.put, List.setIfInBounds_toArray, List.set_cons_zero, List.set_cons_succ]
  refine but_two (i := 4) (j := 5) (by kernel_rfl) rfl rfl ?_ ?_
  · intro K hK
    rw [if_pos (by first | kernel_rfl | rfl)]
    refine wp_run (ex_al (N := w3.heap.size) rfl rfl (al34 _)) ?_
    have hHeld2 := KP.out (w3.drew.alloc (.cells (iR zI' none 0) 34)) (((Below.refl w3.heap.size w3).drew).alloc (Nat.le_refl _) _)
    refine hK _ _ (fun _ => hHeld2) ?_
    clear hK K hHeld
    have hHeld := hHeld2
    clear hHeld2
    try simp only [List.getElem_toArray, List.getElem_cons_succ, List.getElem_cons_zero, Act.put, List.setIfInBounds_toArray, List.set_cons_zero, List.set_cons_succ]
    try simp only [List.getElem_toArray, List.getElem_cons_succ, List.getElem_cons_zero, Act.put, List.setIfInBounds_toArray, List.set_cons_zero, List.set_cons_succ]
    refine but_one (i := 5) (by kernel_rfl) rfl ?_
    intro K hK
    rw [if_pos (by first | kernel_rfl | rfl)]
    refine wp_run (ex_al (N := w3.heap.size + 1) rfl (World.size_alloc ..) (al30 _)) ?_
    have hHeld2 := KP.out _ MA.out.2.2
    refine hK _ _ (fun _ => hHeld2) ?_
    clear hK K hHeld
    have hHeld := hHeld2
    clear hHeld2
    try simp only [List.getElem_toArray, List.getElem_cons_succ, List.getElem_cons_zero, Act.put, List.setIfInBounds_toArray, List.set_cons_zero, List.set_cons_succ]
    try simp only [List.getElem_toArray, List.getElem_cons_succ, List.getElem_cons_zero, Act.put, List.setIfInBounds_toArray, List.set_cons_zero, List.set_cons_succ]
    refine but_one (i := 6) (by kernel_rfl) rfl ?_
    intro K hK
    rw [if_pos (by first | kernel_rfl | rfl)]
    refine wp_st1 (.tmp 5) (.tmp 8) rfl rfl rfl MA.out.1 rfl i34 (iR_one ..) ?_
    have hHeld2 := KP.out _ (below_row MA.out.2.2 (Nat.le_refl _) (iR x A cap))
    refine hK _ _ (fun _ => hHeld2) ?_
    clear hK K hHeld
    have hHeld := hHeld2
    clear hHeld2
    try simp only [List.getElem_toArray, List.getElem_cons_succ, List.getElem_cons_zero, Act.put]
    try simp only [List.getElem_toArray, List.getElem_cons_succ, List.getElem_cons_zero, Act.put, List.setIfInBounds_toArray, List.set_cons_zero, List.set_cons_succ]
    refine but_one (i := 7) (by kernel_rfl) rfl ?_
    intro K hK
    rw [if_pos (by first | kernel_rfl | rfl)]
    refine wp_st1 (.tmp 6) (.tmp 10) rfl rfl rfl (MA.out.2.1.row_other (Nat.succ_ne_self _) _) rfl i30 (gR_one _) ?_
    refine hK _ _ (fun h => absurd rfl h) ?_
    clear hK K hHeld
    try simp only [List.getElem_toArray, List.getElem_cons_succ, List.getElem_cons_zero, Act.put]
    refine but_done (by kernel_rfl) ?_
    try clear hHeld
    clear hTidy
    have HI : Hid (Bk (mA w3 (iR x A cap) (gR x.rg)) w3.heap.size 34 (iR x A cap)) := (MA.out.1.row _).row_other (Nat.ne_of_lt (Nat.lt_succ_self _)) _
    have HG : Hid (Bk (mA w3 (iR x A cap) (gR x.rg)) (w3.heap.size + 1) 30 (gR x.rg)) := (MA.out.2.1.row_other (Nat.succ_ne_self _) _).row _
    have HB : Hid (Below w3.heap.size w3 (mA w3 (iR x A cap) (gR x.rg))) := below_row (below_row MA.out.2.2 (Nat.le_refl _) _) (Nat.le_succ _) _
    have HW := Lib.hid (HV3.out.later HB.out)
    have HR := Lib.hid (HR3.out.later HB.out)
    have HBW := Lib.hid (HB3.out.trans (HB.out.mono HB3.out.size))
    change Exit.then _ _ _ _ (mA w3 (iR x A cap) (gR x.rg))
    generalize mA w3 (iR x A cap) (gR x.rg) = W at *
    clear HB MA MB KP HU3 HV3 HR3 HB3
    have hN : w.heap.size + 3 = w3.heap.size := HN3.out.symm
    clear HN3
    generalize w3.heap.size = N at *
    have k0 : W.cell? ⟨N, 0, none⟩ = some (.int .i64 x.op) := HI.out.cell 0
    have k1 : W.cell? ⟨N, 1, none⟩ = some (.int .i64 x.a) := HI.out.cell 1
    have k2 : W.cell? ⟨N, 2, none⟩ = some (.int .i64 x.b) := HI.out.cell 2
    have k3 : W.cell? ⟨N, 3, none⟩ = some (.int .i64 x.c) := HI.out.cell 3
    have k4 : W.cell? ⟨N, 4, none⟩ = some (.slice A x.cs.length cap) := HI.out.cell 4
    have v1 : W.cell? ⟨w.heap.size + 1, 1, none⟩ = some (.int .i64 (kase : Int)) := HW.out.cell 1
    have v2 : W.cell? ⟨w.heap.size + 1, 2, none⟩ = some (.int .i64 value) := HW.out.cell 2
    have v3 : W.cell? ⟨w.heap.size + 1, 3, none⟩ = some (.bool ok) := HW.out.cell 3
    rw [hop] at k0
    go_wp2_with (first
      
      | (refine wp_ldB rfl (.tmp 6) rfl rfl HG.out Tryd.underlying30 rfl i30 ?_)
      | (refine wp_stB rfl (.tmp 4) (.tmp 41) rfl rfl rfl HR.out rfl i30 (gR_one _) ?_))
    refine bodyPost_ret (v := .agg (gR (x.rg))) ?_ rfl ⟨rfl, below_row HBW.out (by omega) _⟩
    exact results_cell_row (p := 4) (ty := 30) rfl _ _ (w.heap.size + 2) 30 (gR (x.rg)) (0, 0) _ rfl (HR.out.row _) Tryd.underlying30 rfl i30
  · intro K hK
    rw [if_pos (by first | kernel_rfl | rfl)]
    refine wp_run (ex_al (N := w3.heap.size) rfl rfl (al30 _)) ?_
    have hHeld2 := KP.out (w3.drew.alloc (.cells (gR fun _ => 0) 30)) (((Below.refl w3.heap.size w3).drew).alloc (Nat.le_refl _) _)
    refine hK _ _ (fun _ => hHeld2) ?_
    clear hK K hHeld
    have hHeld := hHeld2
    clear hHeld2
    try simp only [List.getElem_toArray, List.getElem_cons_succ, List.getElem_cons_zero, Act.put, List.setIfInBounds_toArray, List.set_cons_zero, List.set_cons_succ]
    try simp only [List.getElem_toArray, List.getElem_cons_succ, List.getElem_cons_zero, Act.put, List.setIfInBounds_toArray, List.set_cons_zero, List.set_cons_succ]
    refine but_one (i := 4) (by kernel_rfl) rfl ?_
    intro K hK
    rw [if_pos (by first | kernel_rfl | rfl)]
    refine wp_run (ex_al (N := w3.heap.size + 1) rfl (World.size_alloc ..) (al34 _)) ?_
    have hHeld2 := KP.out _ MB.out.2.2
    refine hK _ _ (fun _ => hHeld2) ?_
    clear hK K hHeld
    have hHeld := hHeld2
    clear hHeld2
    try simp only [List.getElem_toArray, List.getElem_cons_succ, List.getElem_cons_zero, Act.put, List.setIfInBounds_toArray, List.set_cons_zero, List.set_cons_succ]
    try simp only [List.getElem_toArray, List.getElem_cons_succ, List.getElem_cons_zero, Act.put, List.setIfInBounds_toArray, List.set_cons_zero, List.set_cons_succ]
    refine but_one (i := 6) (by kernel_rfl) rfl ?_
    intro K hK
    rw [if_pos (by first | kernel_rfl | rfl)]
    refine wp_st1 (.tmp 5) (.tmp 8) rfl rfl rfl MB.out.1 rfl i34 (iR_one ..) ?_
    have hHeld2 := KP.out _ (below_row MB.out.2.2 (Nat.le_succ _) (iR x A cap))
    refine hK _ _ (fun _ => hHeld2) ?_
    clear hK K hHeld
    have hHeld := hHeld2
    clear hHeld2
    try simp only [List.getElem_toArray, List.getElem_cons_succ, List.getElem_cons_zero, Act.put]
    try simp only [List.getElem_toArray, List.getElem_cons_succ, List.getElem_cons_zero, Act.put, List.setIfInBounds_toArray, List.set_cons_zero, List.set_cons_succ]
    refine but_one (i := 7) (by kernel_rfl) rfl ?_
    intro K hK
    rw [if_pos (by first | kernel_rfl | rfl)]
    refine wp_st1 (.tmp 6) (.tmp 10) rfl rfl rfl (MB.out.2.1.row_other (Nat.ne_of_lt (Nat.lt_succ_self _)) _) rfl i30 (gR_one _) ?_
    refine hK _ _ (fun h => absurd rfl h) ?_
    clear hK K hHeld
    try simp only [List.getElem_toArray, List.getElem_cons_succ, List.getElem_cons_zero, Act.put]
    refine but_done (by kernel_rfl) ?_
    try clear hHeld
    clear hTidy
    have HI : Hid (Bk (mB w3 (iR x A cap) (gR x.rg)) (w3.heap.size + 1) 34 (iR x A cap)) := (MB.out.1.row _).row_other (Nat.succ_ne_self _) _
    have HG : Hid (Bk (mB w3 (iR x A cap) (gR x.rg)) w3.heap.size 30 (gR x.rg)) := (MB.out.2.1.row_other (Nat.ne_of_lt (Nat.lt_succ_self _)) _).row _
    have HB : Hid (Below w3.heap.size w3 (mB w3 (iR x A cap) (gR x.rg))) := below_row (below_row MB.out.2.2 (Nat.le_succ _) _) (Nat.le_refl _) _
    have HW := Lib.hid (HV3.out.later HB.out)
    have HR := Lib.hid (HR3.out.later HB.out)
    have HBW := Lib.hid (HB3.out.trans (HB.out.mono HB3.out.size))
    change Exit.then _ _ _ _ (mB w3 (iR x A cap) (gR x.rg))
    generalize mB w3 (iR x A cap) (gR x.rg) = W at *
    clear HB MA MB KP HU3 HV3 HR3 HB3
    have hN : w.heap.size + 3 = w3.heap.size := HN3.out.symm
    clear HN3
    generalize w3.heap.size = N at *
    have k0 : W.cell? ⟨(N + 1), 0, none⟩ = some (.int .i64 x.op) := HI.out.cell 0
    have k1 : W.cell? ⟨(N + 1), 1, none⟩ = some (.int .i64 x.a) := HI.out.cell 1
    have k2 : W.cell? ⟨(N + 1), 2, none⟩ = some (.int .i64 x.b) := HI.out.cell 2
    have k3 : W.cell? ⟨(N + 1), 3, none⟩ = some (.int .i64 x.c) := HI.out.cell 3
    have k4 : W.cell? ⟨(N + 1), 4, none⟩ = some (.slice A x.cs.length cap) := HI.out.cell 4
    have v1 : W.cell? ⟨w.heap.size + 1, 1, none⟩ = some (.int .i64 (kase : Int)) := HW.out.cell 1
    have v2 : W.cell? ⟨w.heap.size + 1, 2, none⟩ = some (.int .i64 value) := HW.out.cell 2
    have v3 : W.cell? ⟨w.heap.size + 1, 3, none⟩ = some (.bool ok) := HW.out.cell 3
    rw [hop] at k0
    go_wp2_with (first
      
      | (refine wp_ldB rfl (.tmp 6) rfl rfl HG.out Tryd.underlying30 rfl i30 ?_)
      | (refine wp_stB rfl (.tmp 4) (.tmp 41) rfl rfl rfl HR.out rfl i30 (gR_one _) ?_))
    refine bodyPost_ret (v := .agg (gR (x.rg))) ?_ rfl ⟨rfl, below_row HBW.out (by omega) _⟩
    exact results_cell_row (p := 4) (ty := 30) rfl _ _ (w.heap.size + 2) 30 (gR (x.rg)) (0, 0) _ rfl (HR.out.row _) Tryd.underlying30 rfl i30
set_option maxHeartbeats 2000000 in
theorem told_out (x : T0) (A : Option Addr) (cap : Nat) (j value : Int) (ok pn : Bool) (kase : Nat) (w : World) {na : Nat} (hop : x.op = 15) (ea : x.a = (na : Int)) (ha : na < 8) (hk : x.cs.length ≤ kase) : Calls Tryd.prog 32 #[.agg (tW x A cap), .agg (wR j (kase : Int) value ok pn)] w (ToldR (upd x.rg na (kase : Int)) w) := by
  have q5 : (na : Int) < 8 := by omega
  have q6 : (0 : Int) ≤ (na : Int) := by omega
  go_enter Tryd.func32, Tryd.ntmps32
  go_wp2_with fail
  have HB3 : Hid (Below w.heap.size w (((w.alloc (.cells (tW x A cap) 47)).alloc (.cells (wR j (kase : Int) value ok pn) 38)).alloc (.cells (gR fun _ => 0) 30))) := (((Below.refl w.heap.size w).alloc (Nat.le_refl _) _).alloc (by simp) _).alloc (by simp; omega) _
  have HU3 : Hid (Bk (((w.alloc (.cells (tW x A cap) 47)).alloc (.cells (wR j (kase : Int) value ok pn) 38)).alloc (.cells (gR fun _ => 0) 30)) w.heap.size 47 (tW x A cap)) := ((Bk.new w _ 47).later (below_al _ _)).later (below_al _ _)
  have HV3 : Hid (Bk (((w.alloc (.cells (tW x A cap) 47)).alloc (.cells (wR j (kase : Int) value ok pn) 38)).alloc (.cells (gR fun _ => 0) 30)) (w.heap.size + 1) 38 (wR j (kase : Int) value ok pn)) := by
    have h9 := (Bk.new (w.alloc (.cells (tW x A cap) 47)) (wR j (kase : Int) value ok pn) 38).later (below_al _ (.cells (gR fun _ => 0) 30))
    rw [World.size_alloc] at h9; exact h9
  have HR3 : Hid (Bk (((w.alloc (.cells (tW x A cap) 47)).alloc (.cells (wR j (kase : Int) value ok pn) 38)).alloc (.cells (gR fun _ => 0) 30)) (w.heap.size + 2) 30 (gR fun _ => 0)) := by
    have h9 := Bk.new ((w.alloc (.cells (tW x A cap) 47)).alloc (.cells (wR j (kase : Int) value ok pn) 38)) (gR fun _ => 0) 30
    rw [World.size_alloc, World.size_alloc] at h9; exact h9
  have HN3 : Hid ((((w.alloc (.cells (tW x A cap) 47)).alloc (.cells (wR j (kase : Int) value ok pn) 38)).alloc (.cells (gR fun _ => 0) 30)).heap.size = w.heap.size + 3) := by show _ = _; simp
  change Code.wp _ _ _ _ (((w.alloc (.cells (tW x A cap) 47)).alloc (.cells (wR j (kase : Int) value ok pn) 38)).alloc (.cells (gR fun _ => 0) 30))
  generalize ((w.alloc (.cells (tW x A cap) 47)).alloc (.cells (wR j (kase : Int) value ok pn) 38)).alloc (.cells (gR fun _ => 0) 30) = w3 at *
  have KP : Hid (∀ w', Below w3.heap.size w3 w' → w'.rangeAt w.heap.size 12 (iR x A cap).toList ∧ w'.rangeAt w.heap.size 4 (gR x.rg).toList) := fun w' hb => ⟨instr_part (HU3.out.later hb), regs_part (HU3.out.later hb)⟩
  have MA := Lib.hid (mA_a w3)
  have MB := Lib.hid (mB_a w3)
  refine but_startQ 7 (fun w' => w'.rangeAt w.heap.size 12 (iR x A cap).toList ∧ w'.rangeAt w.heap.size 4 (gR x.rg).toList) (by kernel_rfl) (by as_aux_lemma => kernel_rfl) ?_
  intro hTidy
  have hHeld := KP.out _ ((Below.refl _ _).drew)
  change AnyBut _ _ _ _ _ _ 8 _ _ _
  refine tkQ 0 rfl hTidy hHeld ?_
  refine tkL 1 (ty := 34) (.tmp 7) (iR x A cap) rfl hTidy hHeld rfl rfl (fun w h => h.1) Tryd.underlying34 rfl i34 ?_
  refine tkQ 2 rfl hTidy hHeld ?_
  refine tkL 3 (ty := 30) (.tmp 9) (gR x.rg) rfl hTidy hHeld rfl rfl (fun w h => h.2) Tryd.underlying30 rfl i30 ?_
  try simp only [List.getElem_toArray, List.getElem_cons_succ, List.getElem_cons_zero, Act.put, List.setIfInBounds_toArray, List.set_cons_zero, List.set_cons_succ]
  refine but_two (i := 4) (j := 5) (by kernel_rfl) rfl rfl ?_ ?_
  · intro K hK
    rw [if_pos (by first | kernel_rfl | rfl)]
    refine wp_run (ex_al (N := w3.heap.size) rfl rfl (al34 _)) ?_
    have hHeld2 := KP.out (w3.drew.alloc (.cells (iR zI' none 0) 34)) (((Below.refl w3.heap.size w3).drew).alloc (Nat.le_refl _) _)
    refine hK _ _ (fun _ => hHeld2) ?_
    clear hK K hHeld
    have hHeld := hHeld2
    clear hHeld2
    try simp only [List.getElem_toArray, List.getElem_cons_succ, List.getElem_cons_zero, Act.put, List.setIfInBounds_toArray, List.set_cons_zero, List.set_cons_succ]
    try simp only [List.getElem_toArray, List.getElem_cons_succ, List.getElem_cons_zero, Act.put, List.setIfInBounds_toArray, List.set_cons_zero, List.set_cons_succ]
    refine but_one (i := 5) (by kernel_rfl) rfl ?_
    intro K hK
    rw [if_pos (by first | kernel_rfl | rfl)]
    refine wp_run (ex_al (N := w3.heap.size + 1) rfl (World.size_alloc ..) (al30 _)) ?_
    have hHeld2 := KP.out _ MA.out.2.2
    refine hK _ _ (fun _ => hHeld2) ?_
    clear hK K hHeld
    have hHeld := hHeld2
    clear hHeld2
    try simp only [List.getElem_toArray, List.getElem_cons_succ, List.getElem_cons_zero, Act.put, List.setIfInBounds_toArray, List.set_cons_zero, List.set_cons_succ]
    try simp only [List.getElem_toArray, List.getElem_cons_succ, List.getElem_cons_zero, Act.put, List.setIfInBounds_toArray, List.set_cons_zero, List.set_cons_succ]
    refine but_one (i := 6) (by kernel_rfl) rfl ?_
    intro K hK
    rw [if_pos (by first | kernel_rfl | rfl)]
    refine wp_st1 (.tmp 5) (.tmp 8) rfl rfl rfl MA.out.1 rfl i34 (iR_one ..) ?_
    have hHeld2 := KP.out _ (below_row MA.out.2.2 (Nat.le_refl _) (iR x A cap))
    refine hK _ _ (fun _ => hHeld2) ?_
    clear hK K hHeld
    have hHeld := hHeld2
    clear hHeld2
    try simp only [List.getElem_toArray, List.getElem_cons_succ, List.getElem_cons_zero, Act.put]
    try simp only [List.getElem_toArray, List.getElem_cons_succ, List.getElem_cons_zero, Act.put, List.setIfInBounds_toArray, List.set_cons_zero, List.set_cons_succ]
    refine but_one (i := 7) (by kernel_rfl) rfl ?_
    intro K hK
    rw [if_pos (by first | kernel_rfl | rfl)]
    refine wp_st1 (.tmp 6) (.tmp 10) rfl rfl rfl (MA.out.2.1.row_other (Nat.succ_ne_self _) _) rfl i30 (gR_one _) ?_
    refine hK _ _ (fun h => absurd rfl h) ?_
    clear hK K hHeld
    try simp only [List.getElem_toArray, List.getElem_cons_succ, List.getElem_cons_zero, Act.put]
    refine but_done (by kernel_rfl) ?_
    try clear hHeld
    clear hTidy
    have HI : Hid (Bk (mA w3 (iR x A cap) (gR x.rg)) w3.heap.size 34 (iR x A cap)) := (MA.out.1.row _).row_other (Nat.ne_of_lt (Nat.lt_succ_self _)) _
    have HG : Hid (Bk (mA w3 (iR x A cap) (gR x.rg)) (w3.heap.size + 1) 30 (gR x.rg)) := (MA.out.2.1.row_other (Nat.succ_ne_self _) _).row _
    have HB : Hid (Below w3.heap.size w3 (mA w3 (iR x A cap) (gR x.rg))) := below_row (below_row MA.out.2.2 (Nat.le_refl _) _) (Nat.le_succ _) _
    have HW := Lib.hid (HV3.out.later HB.out)
    have HR := Lib.hid (HR3.out.later HB.out)
    have HBW := Lib.hid (HB3.out.trans (HB.out.mono HB3.out.size))
    change Exit.then _ _ _ _ (mA w3 (iR x A cap) (gR x.rg))
    generalize mA w3 (iR x A cap) (gR x.rg) = W at *
    clear HB MA MB KP HU3 HV3 HR3 HB3
    have hN : w.heap.size + 3 = w3.heap.size := HN3.out.symm
    clear HN3
    generalize w3.heap.size = N at *
    have k0 : W.cell? ⟨N, 0, none⟩ = some (.int .i64 x.op) := HI.out.cell 0
    have k1 : W.cell? ⟨N, 1, none⟩ = some (.int .i64 x.a) := HI.out.cell 1
    have k2 : W.cell? ⟨N, 2, none⟩ = some (.int .i64 x.b) := HI.out.cell 2
    have k3 : W.cell? ⟨N, 3, none⟩ = some (.int .i64 x.c) := HI.out.cell 3
    have k4 : W.cell? ⟨N, 4, none⟩ = some (.slice A x.cs.length cap) := HI.out.cell 4
    have v1 : W.cell? ⟨w.heap.size + 1, 1, none⟩ = some (.int .i64 (kase : Int)) := HW.out.cell 1
    have v2 : W.cell? ⟨w.heap.size + 1, 2, none⟩ = some (.int .i64 value) := HW.out.cell 2
    have v3 : W.cell? ⟨w.heap.size + 1, 3, none⟩ = some (.bool ok) := HW.out.cell 3
    rw [hop] at k0
    rw [ea] at k1
    go_wp2_with (first
      | (refine wp_stI rfl (.tmp 21) (.tmp 20) rfl rfl rfl HG.out (by rw [gR_size]; omega) ?_; have HI2 := Lib.hid (HI.out.set_other (i := na) (a := (N + 1)) (by omega) (.int .i64 (kase : Int))); have HW2 := Lib.hid (HW.out.set_other (i := na) (a := (N + 1)) (by omega) (.int .i64 (kase : Int))); have HR2 := Lib.hid (HR.out.set_other (i := na) (a := (N + 1)) (by omega) (.int .i64 (kase : Int))); have HBW2 := Lib.hid (below_set (i := na) (a := (N + 1)) HBW.out (by omega) (.int .i64 (kase : Int))); have HG2 := HG.out.set na (.int .i64 (kase : Int)); rw [gR_set _ (by omega)] at HG2; replace HG2 := Lib.hid HG2; clear HI HW HR HBW HG; have HI := HI2; have HW := HW2; have HR := HR2; have HBW := HBW2; have HG := HG2; clear HI2 HW2 HR2 HBW2 HG2; clear k0 k1 k2 k3 k4 v1 v2 v3; generalize W.setCell ⟨(N + 1), na, none⟩ (.int .i64 (kase : Int)) = W1 at *; have k0 : W1.cell? ⟨N, 0, none⟩ = some (.int .i64 x.op) := HI.out.cell 0; have k1 : W1.cell? ⟨N, 1, none⟩ = some (.int .i64 x.a) := HI.out.cell 1; have k2 : W1.cell? ⟨N, 2, none⟩ = some (.int .i64 x.b) := HI.out.cell 2; have k3 : W1.cell? ⟨N, 3, none⟩ = some (.int .i64 x.c) := HI.out.cell 3; have k4 : W1.cell? ⟨N, 4, none⟩ = some (.slice A x.cs.length cap) := HI.out.cell 4; have v1 : W1.cell? ⟨w.heap.size + 1, 1, none⟩ = some (.int .i64 (kase : Int)) := HW.out.cell 1; have v2 : W1.cell? ⟨w.heap.size + 1, 2, none⟩ = some (.int .i64 value) := HW.out.cell 2; have v3 : W1.cell? ⟨w.heap.size + 1, 3, none⟩ = some (.bool ok) := HW.out.cell 3; rw [hop] at k0; rw [ea] at k1))
    refine (recv_out W1 kase hk).mono ?_
    rintro e' w' ⟨rfl, rfl⟩
    go_wp2_with (first
      
      | (refine wp_ldB rfl (.tmp 6) rfl rfl HG.out Tryd.underlying30 rfl i30 ?_)
      | (refine wp_stB rfl (.tmp 4) (.tmp 41) rfl rfl rfl HR.out rfl i30 (gR_one _) ?_))
    refine bodyPost_ret (v := .agg (gR (upd x.rg na (kase : Int)))) ?_ rfl ⟨rfl, below_row HBW.out (by omega) _⟩
    exact results_cell_row (p := 4) (ty := 30) rfl _ _ (w.heap.size + 2) 30 (gR (upd x.rg na (kase : Int))) (0, 0) _ rfl (HR.out.row _) Tryd.underlying30 rfl i30
  · intro K hK
    rw [if_pos (by first | kernel_rfl | rfl)]
    refine wp_run (ex_al (N := w3.heap.size) rfl rfl (al30 _)) ?_
    have hHeld2 := KP.out (w3.drew.alloc (.cells (gR fun _ => 0) 30)) (((Below.refl w3.heap.size w3).drew).alloc (Nat.le_refl _) _)
    refine hK _ _ (fun _ => hHeld2) ?_
    clear hK K hHeld
    have hHeld := hHeld2
    clear hHeld2
    try simp only [List.getElem_toArray, List.getElem_cons_succ, List.getElem_cons_zero, Act.put, List.setIfInBounds_toArray, List.set_cons_zero, List.set_cons_succ]
    try simp only [List.getElem_toArray, List.getElem_cons_succ, List.getElem_cons_zero, Act.put, List.setIfInBounds_toArray, List.set_cons_zero, List.set_cons_succ]
    refine but_one (i := 4) (by kernel_rfl) rfl ?_
    intro K hK
    rw [if_pos (by first | kernel_rfl | rfl)]
    refine wp_run (ex_al (N := w3.heap.size + 1) rfl (World.size_alloc ..) (al34 _)) ?_
    have hHeld2 := KP.out _ MB.out.2.2
    refine hK _ _ (fun _ => hHeld2) ?_
    clear hK K hHeld
    have hHeld := hHeld2
    clear hHeld2
    try simp only [List.getElem_toArray, List.getElem_cons_succ, List.getElem_cons_zero, Act.put, List.setIfInBounds_toArray, List.set_cons_zero, List.set_cons_succ]
    try simp only [List.getElem_toArray, List.getElem_cons_succ, List.getElem_cons_zero, Act.put, List.setIfInBounds_toArray, List.set_cons_zero, List.set_cons_succ]
    refine but_one (i := 6) (by kernel_rfl) rfl ?_
    intro K hK
    rw [if_pos (by first | kernel_rfl | rfl)]
    refine wp_st1 (.tmp 5) (.tmp 8) rfl rfl rfl MB.out.1 rfl i34 (iR_one ..) ?_
    have hHeld2 := KP.out _ (below_row MB.out.2.2 (Nat.le_succ _) (iR x A cap))
    refine hK _ _ (fun _ => hHeld2) ?_
    clear hK K hHeld
    have hHeld := hHeld2
    clear hHeld2
    try simp only [List.getElem_toArray, List.getElem_cons_succ, List.getElem_cons_zero, Act.put]
    try simp only [List.getElem_toArray, List.getElem_cons_succ, List.getElem_cons_zero, Act.put, List.setIfInBounds_toArray, List.set_cons_zero, List.set_cons_succ]
    refine but_one (i := 7) (by kernel_rfl) rfl ?_
    intro K hK
    rw [if_pos (by first | kernel_rfl | rfl)]
    refine wp_st1 (.tmp 6) (.tmp 10) rfl rfl rfl (MB.out.2.1.row_other (Nat.ne_of_lt (Nat.lt_succ_self _)) _) rfl i30 (gR_one _) ?_
    refine hK _ _ (fun h => absurd rfl h) ?_
    clear hK K hHeld
    try simp only [List.getElem_toArray, List.getElem_cons_succ, List.getElem_cons_zero, Act.put]
    refine but_done (by kernel_rfl) ?_
    try clear hHeld
    clear hTidy
    have HI : Hid (Bk (mB w3 (iR x A cap) (gR x.rg)) (w3.heap.size + 1) 34 (iR x A cap)) := (MB.out.1.row _).row_other (Nat.succ_ne_self _) _
    have HG : Hid (Bk (mB w3 (iR x A cap) (gR x.rg)) w3.heap.size 30 (gR x.rg)) := (MB.out.2.1.row_other (Nat.ne_of_lt (Nat.lt_succ_self _)) _).row _
    have HB : Hid (Below w3.heap.size w3 (mB w3 (iR x A cap) (gR x.rg))) := below_row (below_row MB.out.2.2 (Nat.le_succ _) _) (Nat.le_refl _) _
    have HW := Lib.hid (HV3.out.later HB.out)
    have HR := Lib.hid (HR3.out.later HB.out)
    have HBW := Lib.hid (HB3.out.trans (HB.out.mono HB3.out.size))
    change Exit.then _ _ _ _ (mB w3 (iR x A cap) (gR x.rg))
    generalize mB w3 (iR x A cap) (gR x.rg) = W at *
    clear HB MA MB KP HU3 HV3 HR3 HB3
    have hN : w.heap.size + 3 = w3.heap.size := HN3.out.symm
    clear HN3
    generalize w3.heap.size = N at *
    have k0 : W.cell? ⟨(N + 1), 0, none⟩ = some (.int .i64 x.op) := HI.out.cell 0
    have k1 : W.cell? ⟨(N + 1), 1, none⟩ = some (.int .i64 x.a) := HI.out.cell 1
    have k2 : W.cell? ⟨(N + 1), 2, none⟩ = some (.int .i64 x.b) := HI.out.cell 2
    have k3 : W.cell? ⟨(N + 1), 3, none⟩ = some (.int .i64 x.c) := HI.out.cell 3
    have k4 : W.cell? ⟨(N + 1), 4, none⟩ = some (.slice A x.cs.length cap) := HI.out.cell 4
    have v1 : W.cell? ⟨w.heap.size + 1, 1, none⟩ = some (.int .i64 (kase : Int)) := HW.out.cell 1
    have v2 : W.cell? ⟨w.heap.size + 1, 2, none⟩ = some (.int .i64 value) := HW.out.cell 2
    have v3 : W.cell? ⟨w.heap.size + 1, 3, none⟩ = some (.bool ok) := HW.out.cell 3
    rw [hop] at k0
    rw [ea] at k1
    go_wp2_with (first
      | (refine wp_stI rfl (.tmp 21) (.tmp 20) rfl rfl rfl HG.out (by rw [gR_size]; omega) ?_; have HI2 := Lib.hid (HI.out.set_other (i := na) (a := N) (by omega) (.int .i64 (kase : Int))); have HW2 := Lib.hid (HW.out.set_other (i := na) (a := N) (by omega) (.int .i64 (kase : Int))); have HR2 := Lib.hid (HR.out.set_other (i := na) (a := N) (by omega) (.int .i64 (kase : Int))); have HBW2 := Lib.hid (below_set (i := na) (a := N) HBW.out (by omega) (.int .i64 (kase : Int))); have HG2 := HG.out.set na (.int .i64 (kase : Int)); rw [gR_set _ (by omega)] at HG2; replace HG2 := Lib.hid HG2; clear HI HW HR HBW HG; have HI := HI2; have HW := HW2; have HR := HR2; have HBW := HBW2; have HG := HG2; clear HI2 HW2 HR2 HBW2 HG2; clear k0 k1 k2 k3 k4 v1 v2 v3; generalize W.setCell ⟨N, na, none⟩ (.int .i64 (kase : Int)) = W1 at *; have k0 : W1.cell? ⟨(N + 1), 0, none⟩ = some (.int .i64 x.op) := HI.out.cell 0; have k1 : W1.cell? ⟨(N + 1), 1, none⟩ = some (.int .i64 x.a) := HI.out.cell 1; have k2 : W1.cell? ⟨(N + 1), 2, none⟩ = some (.int .i64 x.b) := HI.out.cell 2; have k3 : W1.cell? ⟨(N + 1), 3, none⟩ = some (.int .i64 x.c) := HI.out.cell 3; have k4 : W1.cell? ⟨(N + 1), 4, none⟩ = some (.slice A x.cs.length cap) := HI.out.cell 4; have v1 : W1.cell? ⟨w.heap.size + 1, 1, none⟩ = some (.int .i64 (kase : Int)) := HW.out.cell 1; have v2 : W1.cell? ⟨w.heap.size + 1, 2, none⟩ = some (.int .i64 value) := HW.out.cell 2; have v3 : W1.cell? ⟨w.heap.size + 1, 3, none⟩ = some (.bool ok) := HW.out.cell 3; rw [hop] at k0; rw [ea] at k1))
    refine (recv_out W1 kase hk).mono ?_
    rintro e' w' ⟨rfl, rfl⟩
    go_wp2_with (first
      
      | (refine wp_ldB rfl (.tmp 6) rfl rfl HG.out Tryd.underlying30 rfl i30 ?_)
      | (refine wp_stB rfl (.tmp 4) (.tmp 41) rfl rfl rfl HR.out rfl i30 (gR_one _) ?_))
    refine bodyPost_ret (v := .agg (gR (upd x.rg na (kase : Int)))) ?_ rfl ⟨rfl, below_row HBW.out (by omega) _⟩
    exact results_cell_row (p := 4) (ty := 30) rfl _ _ (w.heap.size + 2) 30 (gR (upd x.rg na (kase : Int))) (0, 0) _ rfl (HR.out.row _) Tryd.underlying30 rfl i30
set_option maxHeartbeats 2000000 in
theorem told_snd (x : T0) (A : Option Addr) (cap : Nat) (j value : Int) (ok pn : Bool) (kase : Nat) (w : World) {na : Nat} {c1 c2 : Int} (hop : x.op = 15) (ea : x.a = (na : Int)) (ha : na < 8) (hR : Pg.RdC w A x.cs.length x.cs) (hk : x.cs[kase]? = some ⟨true, c1, c2⟩) : Calls Tryd.prog 32 #[.agg (tW x A cap), .agg (wR j (kase : Int) value ok pn)] w (ToldR (upd x.rg na (kase : Int)) w) := by
  have q5 : (na : Int) < 8 := by omega
  have q6 : (0 : Int) ≤ (na : Int) := by omega
  have HRD := Lib.hid hR
  have HKC := Lib.hid hk
  clear hR hk
  go_enter Tryd.func32, Tryd.ntmps32
  go_wp2_with fail
  have HB3 : Hid (Below w.heap.size w (((w.alloc (.cells (tW x A cap) 47)).alloc (.cells (wR j (kase : Int) value ok pn) 38)).alloc (.cells (gR fun _ => 0) 30))) := (((Below.refl w.heap.size w).alloc (Nat.le_refl _) _).alloc (by simp) _).alloc (by simp; omega) _
  have HU3 : Hid (Bk (((w.alloc (.cells (tW x A cap) 47)).alloc (.cells (wR j (kase : Int) value ok pn) 38)).alloc (.cells (gR fun _ => 0) 30)) w.heap.size 47 (tW x A cap)) := ((Bk.new w _ 47).later (below_al _ _)).later (below_al _ _)
  have HV3 : Hid (Bk (((w.alloc (.cells (tW x A cap) 47)).alloc (.cells (wR j (kase : Int) value ok pn) 38)).alloc (.cells (gR fun _ => 0) 30)) (w.heap.size + 1) 38 (wR j (kase : Int) value ok pn)) := by
    have h9 := (Bk.new (w.alloc (.cells (tW x A cap) 47)) (wR j (kase : Int) value ok pn) 38).later (below_al _ (.cells (gR fun _ => 0) 30))
    rw [World.size_alloc] at h9; exact h9
  have HR3 : Hid (Bk (((w.alloc (.cells (tW x A cap) 47)).alloc (.cells (wR j (kase : Int) value ok pn) 38)).alloc (.cells (gR fun _ => 0) 30)) (w.heap.size + 2) 30 (gR fun _ => 0)) := by
    have h9 := Bk.new ((w.alloc (.cells (tW x A cap) 47)).alloc (.cells (wR j (kase : Int) value ok pn) 38)) (gR fun _ => 0) 30
    rw [World.size_alloc, World.size_alloc] at h9; exact h9
  have HN3 : Hid ((((w.alloc (.cells (tW x A cap) 47)).alloc (.cells (wR j (kase : Int) value ok pn) 38)).alloc (.cells (gR fun _ => 0) 30)).heap.size = w.heap.size + 3) := by show _ = _; simp
  change Code.wp _ _ _ _ (((w.alloc (.cells (tW x A cap) 47)).alloc (.cells (wR j (kase : Int) value ok pn) 38)).alloc (.cells (gR fun _ => 0) 30))
  generalize ((w.alloc (.cells (tW x A cap) 47)).alloc (.cells (wR j (kase : Int) value ok pn) 38)).alloc (.cells (gR fun _ => 0) 30) = w3 at *
  have KP : Hid (∀ w', Below w3.heap.size w3 w' → w'.rangeAt w.heap.size 12 (iR x A cap).toList ∧ w'.rangeAt w.heap.size 4 (gR x.rg).toList) := fun w' hb => ⟨instr_part (HU3.out.later hb), regs_part (HU3.out.later hb)⟩
  have MA := Lib.hid (mA_a w3)
  have MB := Lib.hid (mB_a w3)
  refine but_startQ 7 (fun w' => w'.rangeAt w.heap.size 12 (iR x A cap).toList ∧ w'.rangeAt w.heap.size 4 (gR x.rg).toList) (by kernel_rfl) (by as_aux_lemma => kernel_rfl) ?_
  intro hTidy
  have hHeld := KP.out _ ((Below.refl _ _).drew)
  change AnyBut _ _ _ _ _ _ 8 _ _ _
  refine tkQ 0 rfl hTidy hHeld ?_
  refine tkL 1 (ty := 34) (.tmp 7) (iR x A cap) rfl hTidy hHeld rfl rfl (fun w h => h.1) Tryd.underlying34 rfl i34 ?_
  refine tkQ 2 rfl hTidy hHeld ?_
  refine tkL 3 (ty := 30) (.tmp 9) (gR x.rg) rfl hTidy hHeld rfl rfl (fun w h => h.2) Tryd.underlying30 rfl i30 ?_
  try simp only [List.getElem_toArray, List.getElem_cons_succ, List.getElem_cons_zero, Act.put, List.setIfInBounds_toArray, List.set_cons_zero, List.set_cons_succ]
  refine but_two (i := 4) (j := 5) (by kernel_rfl) rfl rfl ?_ ?_
  · intro K hK
    rw [if_pos (by first | kernel_rfl | rfl)]
    refine wp_run (ex_al (N := w3.heap.size) rfl rfl (al34 _)) ?_
    have hHeld2 := KP.out (w3.drew.alloc (.cells (iR zI' none 0) 34)) (((Below.refl w3.heap.size w3).drew).alloc (Nat.le_refl _) _)
    refine hK _ _ (fun _ => hHeld2) ?_
    clear hK K hHeld
    have hHeld := hHeld2
    clear hHeld2
    try simp only [List.getElem_toArray, List.getElem_cons_succ, List.getElem_cons_zero, Act.put, List.setIfInBounds_toArray, List.set_cons_zero, List.set_cons_succ]
    try simp only [List.getElem_toArray, List.getElem_cons_succ, List.getElem_cons_zero, Act.put, List.setIfInBounds_toArray, List.set_cons_zero, List.set_cons_succ]
    refine but_one (i := 5) (by kernel_rfl) rfl ?_
    intro K hK
    rw [if_pos (by first | kernel_rfl | rfl)]
    refine wp_run (ex_al (N := w3.heap.size + 1) rfl (World.size_alloc ..) (al30 _)) ?_
    have hHeld2 := KP.out _ MA.out.2.2
    refine hK _ _ (fun _ => hHeld2) ?_
    clear hK K hHeld
    have hHeld := hHeld2
    clear hHeld2
    try simp only [List.getElem_toArray, List.getElem_cons_succ, List.getElem_cons_zero, Act.put, List.setIfInBounds_toArray, List.set_cons_zero, List.set_cons_succ]
    try simp only [List.getElem_toArray, List.getElem_cons_succ, List.getElem_cons_zero, Act.put, List.setIfInBounds_toArray, List.set_cons_zero, List.set_cons_succ]
    refine but_one (i := 6) (by kernel_rfl) rfl ?_
    intro K hK
    rw [if_pos (by first | kernel_rfl | rfl)]
    refine wp_st1 (.tmp 5) (.tmp 8) rfl rfl rfl MA.out.1 rfl i34 (iR_one ..) ?_
    have hHeld2 := KP.out _ (below_row MA.out.2.2 (Nat.le_refl _) (iR x A cap))
    refine hK _ _ (fun _ => hHeld2) ?_
    clear hK K hHeld
    have hHeld := hHeld2
    clear hHeld2
    try simp only [List.getElem_toArray, List.getElem_cons_succ, List.getElem_cons_zero, Act.put]
    try simp only [List.getElem_toArray, List.getElem_cons_succ, List.getElem_cons_zero, Act.put, List.setIfInBounds_toArray, List.set_cons_zero, List.set_cons_succ]
    refine but_one (i := 7) (by kernel_rfl) rfl ?_
    intro K hK
    rw [if_pos (by first | kernel_rfl | rfl)]
    refine wp_st1 (.tmp 6) (.tmp 10) rfl rfl rfl (MA.out.2.1.row_other (Nat.succ_ne_self _) _) rfl i30 (gR_one _) ?_
    refine hK _ _ (fun h => absurd rfl h) ?_
    clear hK K hHeld
    try simp only [List.getElem_toArray, List.getElem_cons_succ, List.getElem_cons_zero, Act.put]
    refine but_done (by kernel_rfl) ?_
    try clear hHeld
    clear hTidy
    have HI : Hid (Bk (mA w3 (iR x A cap) (gR x.rg)) w3.heap.size 34 (iR x A cap)) := (MA.out.1.row _).row_other (Nat.ne_of_lt (Nat.lt_succ_self _)) _
    have HG : Hid (Bk (mA w3 (iR x A cap) (gR x.rg)) (w3.heap.size + 1) 30 (gR x.rg)) := (MA.out.2.1.row_other (Nat.succ_ne_self _) _).row _
    have HB : Hid (Below w3.heap.size w3 (mA w3 (iR x A cap) (gR x.rg))) := below_row (below_row MA.out.2.2 (Nat.le_refl _) _) (Nat.le_succ _) _
    have HW := Lib.hid (HV3.out.later HB.out)
    have HR := Lib.hid (HR3.out.later HB.out)
    have HBW := Lib.hid (HB3.out.trans (HB.out.mono HB3.out.size))
    change Exit.then _ _ _ _ (mA w3 (iR x A cap) (gR x.rg))
    generalize mA w3 (iR x A cap) (gR x.rg) = W at *
    clear HB MA MB KP HU3 HV3 HR3 HB3
    have hN : w.heap.size + 3 = w3.heap.size := HN3.out.symm
    clear HN3
    generalize w3.heap.size = N at *
    have k0 : W.cell? ⟨N, 0, none⟩ = some (.int .i64 x.op) := HI.out.cell 0
    have k1 : W.cell? ⟨N, 1, none⟩ = some (.int .i64 x.a) := HI.out.cell 1
    have k2 : W.cell? ⟨N, 2, none⟩ = some (.int .i64 x.b) := HI.out.cell 2
    have k3 : W.cell? ⟨N, 3, none⟩ = some (.int .i64 x.c) := HI.out.cell 3
    have k4 : W.cell? ⟨N, 4, none⟩ = some (.slice A x.cs.length cap) := HI.out.cell 4
    have v1 : W.cell? ⟨w.heap.size + 1, 1, none⟩ = some (.int .i64 (kase : Int)) := HW.out.cell 1
    have v2 : W.cell? ⟨w.heap.size + 1, 2, none⟩ = some (.int .i64 value) := HW.out.cell 2
    have v3 : W.cell? ⟨w.heap.size + 1, 3, none⟩ = some (.bool ok) := HW.out.cell 3
    rw [hop] at k0
    rw [ea] at k1
    go_wp2_with (first
      | (refine wp_stI rfl (.tmp 21) (.tmp 20) rfl rfl rfl HG.out (by rw [gR_size]; omega) ?_; have HI2 := Lib.hid (HI.out.set_other (i := na) (a := (N + 1)) (by omega) (.int .i64 (kase : Int))); have HW2 := Lib.hid (HW.out.set_other (i := na) (a := (N + 1)) (by omega) (.int .i64 (kase : Int))); have HR2 := Lib.hid (HR.out.set_other (i := na) (a := (N + 1)) (by omega) (.int .i64 (kase : Int))); have HBW2 := Lib.hid (below_set (i := na) (a := (N + 1)) HBW.out (by omega) (.int .i64 (kase : Int))); have HG2 := HG.out.set na (.int .i64 (kase : Int)); rw [gR_set _ (by omega)] at HG2; replace HG2 := Lib.hid HG2; clear HI HW HR HBW HG; have HI := HI2; have HW := HW2; have HR := HR2; have HBW := HBW2; have HG := HG2; clear HI2 HW2 HR2 HBW2 HG2; clear k0 k1 k2 k3 k4 v1 v2 v3; generalize W.setCell ⟨(N + 1), na, none⟩ (.int .i64 (kase : Int)) = W1 at *; have k0 : W1.cell? ⟨N, 0, none⟩ = some (.int .i64 x.op) := HI.out.cell 0; have k1 : W1.cell? ⟨N, 1, none⟩ = some (.int .i64 x.a) := HI.out.cell 1; have k2 : W1.cell? ⟨N, 2, none⟩ = some (.int .i64 x.b) := HI.out.cell 2; have k3 : W1.cell? ⟨N, 3, none⟩ = some (.int .i64 x.c) := HI.out.cell 3; have k4 : W1.cell? ⟨N, 4, none⟩ = some (.slice A x.cs.length cap) := HI.out.cell 4; have v1 : W1.cell? ⟨w.heap.size + 1, 1, none⟩ = some (.int .i64 (kase : Int)) := HW.out.cell 1; have v2 : W1.cell? ⟨w.heap.size + 1, 2, none⟩ = some (.int .i64 value) := HW.out.cell 2; have v3 : W1.cell? ⟨w.heap.size + 1, 3, none⟩ = some (.bool ok) := HW.out.cell 3; rw [hop] at k0; rw [ea] at k1))
    refine (recv_at W1 kase (HRD.out.later HBW.out) HKC.out).mono ?_
    rintro e' w' ⟨rfl, rfl⟩
    go_wp2_with (first
      
      | (refine wp_ldB rfl (.tmp 6) rfl rfl HG.out Tryd.underlying30 rfl i30 ?_)
      | (refine wp_stB rfl (.tmp 4) (.tmp 41) rfl rfl rfl HR.out rfl i30 (gR_one _) ?_))
    refine bodyPost_ret (v := .agg (gR (upd x.rg na (kase : Int)))) ?_ rfl ⟨rfl, below_row HBW.out (by omega) _⟩
    exact results_cell_row (p := 4) (ty := 30) rfl _ _ (w.heap.size + 2) 30 (gR (upd x.rg na (kase : Int))) (0, 0) _ rfl (HR.out.row _) Tryd.underlying30 rfl i30
  · intro K hK
    rw [if_pos (by first | kernel_rfl | rfl)]
    refine wp_run (ex_al (N := w3.heap.size) rfl rfl (al30 _)) ?_
    have hHeld2 := KP.out (w3.drew.alloc (.cells (gR fun _ => 0) 30)) (((Below.refl w3.heap.size w3).drew).alloc (Nat.le_refl _) _)
    refine hK _ _ (fun _ => hHeld2) ?_
    clear hK K hHeld
    have hHeld := hHeld2
    clear hHeld2
    try simp only [List.getElem_toArray, List.getElem_cons_succ, List.getElem_cons_zero, Act.put, List.setIfInBounds_toArray, List.set_cons_zero, List.set_cons_succ]
    try simp only [List.getElem_toArray, List.getElem_cons_succ, List.getElem_cons_zero, Act.put, List.setIfInBounds_toArray, List.set_cons_zero, List.set_cons_succ]
    refine but_one (i := 4) (by kernel_rfl) rfl ?_
    intro K hK
    rw [if_pos (by first | kernel_rfl | rfl)]
    refine wp_run (ex_al (N := w3.heap.size + 1) rfl (World.size_alloc ..) (al34 _)) ?_
    have hHeld2 := KP.out _ MB.out.2.2
    refine hK _ _ (fun _ => hHeld2) ?_
    clear hK K hHeld
    have hHeld := hHeld2
    clear hHeld2
    try simp only [List.getElem_toArray, List.getElem_cons_succ, List.getElem_cons_zero, Act.put, List.setIfInBounds_toArray, List.set_cons_zero, List.set_cons_succ]
    try simp only [List.getElem_toArray, List.getElem_cons_succ, List.getElem_cons_zero, Act.put, List.setIfInBounds_toArray, List.set_cons_zero, List.set_cons_succ]
    refine but_one (i := 6) (by kernel_rfl) rfl ?_
    intro K hK
    rw [if_pos (by first | kernel_rfl | rfl)]
    refine wp_st1 (.tmp 5) (.tmp 8) rfl rfl rfl MB.out.1 rfl i34 (iR_one ..) ?_
    have hHeld2 := KP.out _ (below_row MB.out.2.2 (Nat.le_succ _) (iR x A cap))
    refine hK _ _ (fun _ => hHeld2) ?_
    clear hK K hHeld
    have hHeld := hHeld2
    clear hHeld2
    try simp only [List.getElem_toArray, List.getElem_cons_succ, List.getElem_cons_zero, Act.put]
    try simp only [List.getElem_toArray, List.getElem_cons_succ, List.getElem_cons_zero, Act.put, List.setIfInBounds_toArray, List.set_cons_zero, List.set_cons_succ]
    refine but_one (i := 7) (by kernel_rfl) rfl ?_
    intro K hK
    rw [if_pos (by first | kernel_rfl | rfl)]
    refine wp_st1 (.tmp 6) (.tmp 10) rfl rfl rfl (MB.out.2.1.row_other (Nat.ne_of_lt (Nat.lt_succ_self _)) _) rfl i30 (gR_one _) ?_
    refine hK _ _ (fun h => absurd rfl h) ?_
    clear hK K hHeld
    try simp only [List.getElem_toArray, List.getElem_cons_succ, List.getElem_cons_zero, Act.put]
    refine but_done (by kernel_rfl) ?_
    try clear hHeld
    clear hTidy
    have HI : Hid (Bk (mB w3 (iR x A cap) (gR x.rg)) (w3.heap.size + 1) 34 (iR x A cap)) := (MB.out.1.row _).row_other (Nat.succ_ne_self _) _
    have HG : Hid (Bk (mB w3 (iR x A cap) (gR x.rg)) w3.heap.size 30 (gR x.rg)) := (MB.out.2.1.row_other (Nat.ne_of_lt (Nat.lt_succ_self _)) _).row _
    have HB : Hid (Below w3.heap.size w3 (mB w3 (iR x A cap) (gR x.rg))) := below_row (below_row MB.out.2.2 (Nat.le_succ _) _) (Nat.le_refl _) _
    have HW := Lib.hid (HV3.out.later HB.out)
    have HR := Lib.hid (HR3.out.later HB.out)
    have HBW := Lib.hid (HB3.out.trans (HB.out.mono HB3.out.size))
    change Exit.then _ _ _ _ (mB w3 (iR x A cap) (gR x.rg))
    generalize mB w3 (iR x A cap) (gR x.rg) = W at *
    clear HB MA MB KP HU3 HV3 HR3 HB3
    have hN : w.heap.size + 3 = w3.heap.size := HN3.out.symm
    clear HN3
    generalize w3.heap.size = N at *
    have k0 : W.cell? ⟨(N + 1), 0, none⟩ = some (.int .i64 x.op) := HI.out.cell 0
    have k1 : W.cell? ⟨(N + 1), 1, none⟩ = some (.int .i64 x.a) := HI.out.cell 1
    have k2 : W.cell? ⟨(N + 1), 2, none⟩ = some (.int .i64 x.b) := HI.out.cell 2
    have k3 : W.cell? ⟨(N + 1), 3, none⟩ = some (.int .i64 x.c) := HI.out.cell 3
    have k4 : W.cell? ⟨(N + 1), 4, none⟩ = some (.slice A x.cs.length cap) := HI.out.cell 4
    have v1 : W.cell? ⟨w.heap.size + 1, 1, none⟩ = some (.int .i64 (kase : Int)) := HW.out.cell 1
    have v2 : W.cell? ⟨w.heap.size + 1, 2, none⟩ = some (.int .i64 value) := HW.out.cell 2
    have v3 : W.cell? ⟨w.heap.size + 1, 3, none⟩ = some (.bool ok) := HW.out.cell 3
    rw [hop] at k0
    rw [ea] at k1
    go_wp2_with (first
      | (refine wp_stI rfl (.tmp 21) (.tmp 20) rfl rfl rfl HG.out (by rw [gR_size]; omega) ?_; have HI2 := Lib.hid (HI.out.set_other (i := na) (a := N) (by omega) (.int .i64 (kase : Int))); have HW2 := Lib.hid (HW.out.set_other (i := na) (a := N) (by omega) (.int .i64 (kase : Int))); have HR2 := Lib.hid (HR.out.set_other (i := na) (a := N) (by omega) (.int .i64 (kase : Int))); have HBW2 := Lib.hid (below_set (i := na) (a := N) HBW.out (by omega) (.int .i64 (kase : Int))); have HG2 := HG.out.set na (.int .i64 (kase : Int)); rw [gR_set _ (by omega)] at HG2; replace HG2 := Lib.hid HG2; clear HI HW HR HBW HG; have HI := HI2; have HW := HW2; have HR := HR2; have HBW := HBW2; have HG := HG2; clear HI2 HW2 HR2 HBW2 HG2; clear k0 k1 k2 k3 k4 v1 v2 v3; generalize W.setCell ⟨N, na, none⟩ (.int .i64 (kase : Int)) = W1 at *; have k0 : W1.cell? ⟨(N + 1), 0, none⟩ = some (.int .i64 x.op) := HI.out.cell 0; have k1 : W1.cell? ⟨(N + 1), 1, none⟩ = some (.int .i64 x.a) := HI.out.cell 1; have k2 : W1.cell? ⟨(N + 1), 2, none⟩ = some (.int .i64 x.b) := HI.out.cell 2; have k3 : W1.cell? ⟨(N + 1), 3, none⟩ = some (.int .i64 x.c) := HI.out.cell 3; have k4 : W1.cell? ⟨(N + 1), 4, none⟩ = some (.slice A x.cs.length cap) := HI.out.cell 4; have v1 : W1.cell? ⟨w.heap.size + 1, 1, none⟩ = some (.int .i64 (kase : Int)) := HW.out.cell 1; have v2 : W1.cell? ⟨w.heap.size + 1, 2, none⟩ = some (.int .i64 value) := HW.out.cell 2; have v3 : W1.cell? ⟨w.heap.size + 1, 3, none⟩ = some (.bool ok) := HW.out.cell 3; rw [hop] at k0; rw [ea] at k1))
    refine (recv_at W1 kase (HRD.out.later HBW.out) HKC.out).mono ?_
    rintro e' w' ⟨rfl, rfl⟩
    go_wp2_with (first
      
      | (refine wp_ldB rfl (.tmp 6) rfl rfl HG.out Tryd.underlying30 rfl i30 ?_)
      | (refine wp_stB rfl (.tmp 4) (.tmp 41) rfl rfl rfl HR.out rfl i30 (gR_one _) ?_))
    refine bodyPost_ret (v := .agg (gR (upd x.rg na (kase : Int)))) ?_ rfl ⟨rfl, below_row HBW.out (by omega) _⟩
    exact results_cell_row (p := 4) (ty := 30) rfl _ _ (w.heap.size + 2) 30 (gR (upd x.rg na (kase : Int))) (0, 0) _ rfl (HR.out.row _) Tryd.underlying30 rfl i30
set_option maxHeartbeats 2000000 in
theorem told_in1 (x : T0) (A : Option Addr) (cap : Nat) (j value : Int) ( pn : Bool) (kase : Nat) (w : World) {na nb nc : Nat} {c1 c2 : Int} (hop : x.op = 15) (ea : x.a = (na : Int)) (ha : na < 8) (eb : x.b = (nb : Int)) (ec : x.c = (nc : Int)) (hb : nb < 8) (hc : nc < 8) (hR : Pg.RdC w A x.cs.length x.cs) (hk : x.cs[kase]? = some ⟨false, c1, c2⟩) : Calls Tryd.prog 32 #[.agg (tW x A cap), .agg (wR j (kase : Int) value true pn)] w (ToldR (upd (upd (upd (upd x.rg na (kase : Int)) nb value) nc 0) nc 1) w) := by
  have q5 : (na : Int) < 8 := by omega
  have q6 : (0 : Int) ≤ (na : Int) := by omega
  have q1 : (nb : Int) < 8 := by omega
  have q2 : (nc : Int) < 8 := by omega
  have q3 : (0 : Int) ≤ (nb : Int) := by omega
  have q4 : (0 : Int) ≤ (nc : Int) := by omega
  have HRD := Lib.hid hR
  have HKC := Lib.hid hk
  clear hR hk
  go_enter Tryd.func32, Tryd.ntmps32
  go_wp2_with fail
  have HB3 : Hid (Below w.heap.size w (((w.alloc (.cells (tW x A cap) 47)).alloc (.cells (wR j (kase : Int) value true pn) 38)).alloc (.cells (gR fun _ => 0) 30))) := (((Below.refl w.heap.size w).alloc (Nat.le_refl _) _).alloc (by simp) _).alloc (by simp; omega) _
  have HU3 : Hid (Bk (((w.alloc (.cells (tW x A cap) 47)).alloc (.cells (wR j (kase : Int) value true pn) 38)).alloc (.cells (gR fun _ => 0) 30)) w.heap.size 47 (tW x A cap)) := ((Bk.new w _ 47).later (below_al _ _)).later (below_al _ _)
  have HV3 : Hid (Bk (((w.alloc (.cells (tW x A cap) 47)).alloc (.cells (wR j (kase : Int) value true pn) 38)).alloc (.cells (gR fun _ => 0) 30)) (w.heap.size + 1) 38 (wR j (kase : Int) value true pn)) := by
    have h9 := (Bk.new (w.alloc (.cells (tW x A cap) 47)) (wR j (kase : Int) value true pn) 38).later (below_al _ (.cells (gR fun _ => 0) 30))
    rw [World.size_alloc] at h9; exact h9
  have HR3 : Hid (Bk (((w.alloc (.cells (tW x A cap) 47)).alloc (.cells (wR j (kase : Int) value true pn) 38)).alloc (.cells (gR fun _ => 0) 30)) (w.heap.size + 2) 30 (gR fun _ => 0)) := by
    have h9 := Bk.new ((w.alloc (.cells (tW x A cap) 47)).alloc (.cells (wR j (kase : Int) value true pn) 38)) (gR fun _ => 0) 30
    rw [World.size_alloc, World.size_alloc] at h9; exact h9
  have HN3 : Hid ((((w.alloc (.cells (tW x A cap) 47)).alloc (.cells (wR j (kase : Int) value true pn) 38)).alloc (.cells (gR fun _ => 0) 30)).heap.size = w.heap.size + 3) := by show _ = _; simp
  change Code.wp _ _ _ _ (((w.alloc (.cells (tW x A cap) 47)).alloc (.cells (wR j (kase : Int) value true pn) 38)).alloc (.cells (gR fun _ => 0) 30))
  generalize ((w.alloc (.cells (tW x A cap) 47)).alloc (.cells (wR j (kase : Int) value true pn) 38)).alloc (.cells (gR fun _ => 0) 30) = w3 at *
  have KP : Hid (∀ w', Below w3.heap.size w3 w' → w'.rangeAt w.heap.size 12 (iR x A cap).toList ∧ w'.rangeAt w.heap.size 4 (gR x.rg).toList) := fun w' hb => ⟨instr_part (HU3.out.later hb), regs_part (HU3.out.later hb)⟩
  have MA := Lib.hid (mA_a w3)
  have MB := Lib.hid (mB_a w3)
  refine but_startQ 7 (fun w' => w'.rangeAt w.heap.size 12 (iR x A cap).toList ∧ w'.rangeAt w.heap.size 4 (gR x.rg).toList) (by kernel_rfl) (by as_aux_lemma => kernel_rfl) ?_
  intro hTidy
  have hHeld := KP.out _ ((Below.refl _ _).drew)
  change AnyBut _ _ _ _ _ _ 8 _ _ _
  refine tkQ 0 rfl hTidy hHeld ?_
  refine tkL 1 (ty := 34) (.tmp 7) (iR x A cap) rfl hTidy hHeld rfl rfl (fun w h => h.1) Tryd.underlying34 rfl i34 ?_
  refine tkQ 2 rfl hTidy hHeld ?_
  refine tkL 3 (ty := 30) (.tmp 9) (gR x.rg) rfl hTidy hHeld rfl rfl (fun w h => h.2) Tryd.underlying30 rfl i30 ?_
  try simp only [List.getElem_toArray, List.getElem_cons_succ, List.getElem_cons_zero, Act.put, List.setIfInBounds_toArray, List.set_cons_zero, List.set_cons_succ]
  refine but_two (i := 4) (j := 5) (by kernel_rfl) rfl rfl ?_ ?_
  · intro K hK
    rw [if_pos (by first | kernel_rfl | rfl)]
    refine wp_run (ex_al (N := w3.heap.size) rfl rfl (al34 _)) ?_
    have hHeld2 := KP.out (w3.drew.alloc (.cells (iR zI' none 0) 34)) (((Below.refl w3.heap.size w3).drew).alloc (Nat.le_refl _) _)
    refine hK _ _ (fun _ => hHeld2) ?_
    clear hK K hHeld
    have hHeld := hHeld2
    clear hHeld2
    try simp only [List.getElem_toArray, List.getElem_cons_succ, List.getElem_cons_zero, Act.put, List.setIfInBounds_toArray, List.set_cons_zero, List.set_cons_succ]
    try simp only [List.getElem_toArray, List.getElem_cons_succ, List.getElem_cons_zero, Act.put, List.setIfInBounds_toArray, List.set_cons_zero, List.set_cons_succ]
    refine but_one (i := 5) (by kernel_rfl) rfl ?_
    intro K hK
    rw [if_pos (by first | kernel_rfl | rfl)]
    refine wp_run (ex_al (N := w3.heap.size + 1) rfl (World.size_alloc ..) (al30 _)) ?_
    have hHeld2 := KP.out _ MA.out.2.2
    refine hK _ _ (fun _ => hHeld2) ?_
    clear hK K hHeld
    have hHeld := hHeld2
    clear hHeld2
    try simp only [List.getElem_toArray, List.getElem_cons_succ, List.getElem_cons_zero, Act.put, List.setIfInBounds_toArray, List.set_cons_zero, List.set_cons_succ]
    try simp only [List.getElem_toArray, List.getElem_cons_succ, List.getElem_cons_zero, Act.put, List.setIfInBounds_toArray, List.set_cons_zero, List.set_cons_succ]
    refine but_one (i := 6) (by kernel_rfl) rfl ?_
    intro K hK
    rw [if_pos (by first | kernel_rfl | rfl)]
    refine wp_st1 (.tmp 5) (.tmp 8) rfl rfl rfl MA.out.1 rfl i34 (iR_one ..) ?_
    have hHeld2 := KP.out _ (below_row MA.out.2.2 (Nat.le_refl _) (iR x A cap))
    refine hK _ _ (fun _ => hHeld2) ?_
    clear hK K hHeld
    have hHeld := hHeld2
    clear hHeld2
    try simp only [List.getElem_toArray, List.getElem_cons_succ, List.getElem_cons_zero, Act.put]
    try simp only [List.getElem_toArray, List.getElem_cons_succ, List.getElem_cons_zero, Act.put, List.setIfInBounds_toArray, List.set_cons_zero, List.set_cons_succ]
    refine but_one (i := 7) (by kernel_rfl) rfl ?_
    intro K hK
    rw [if_pos (by first | kernel_rfl | rfl)]
    refine wp_st1 (.tmp 6) (.tmp 10) rfl rfl rfl (MA.out.2.1.row_other (Nat.succ_ne_self _) _) rfl i30 (gR_one _) ?_
    refine hK _ _ (fun h => absurd rfl h) ?_
    clear hK K hHeld
    try simp only [List.getElem_toArray, List.getElem_cons_succ, List.getElem_cons_zero, Act.put]
    refine but_done (by kernel_rfl) ?_
    try clear hHeld
    clear hTidy
    have HI : Hid (Bk (mA w3 (iR x A cap) (gR x.rg)) w3.heap.size 34 (iR x A cap)) := (MA.out.1.row _).row_other (Nat.ne_of_lt (Nat.lt_succ_self _)) _
    have HG : Hid (Bk (mA w3 (iR x A cap) (gR x.rg)) (w3.heap.size + 1) 30 (gR x.rg)) := (MA.out.2.1.row_other (Nat.succ_ne_self _) _).row _
    have HB : Hid (Below w3.heap.size w3 (mA w3 (iR x A cap) (gR x.rg))) := below_row (below_row MA.out.2.2 (Nat.le_refl _) _) (Nat.le_succ _) _
    have HW := Lib.hid (HV3.out.later HB.out)
    have HR := Lib.hid (HR3.out.later HB.out)
    have HBW := Lib.hid (HB3.out.trans (HB.out.mono HB3.out.size))
    change Exit.then _ _ _ _ (mA w3 (iR x A cap) (gR x.rg))
    generalize mA w3 (iR x A cap) (gR x.rg) = W at *
    clear HB MA MB KP HU3 HV3 HR3 HB3
    have hN : w.heap.size + 3 = w3.heap.size := HN3.out.symm
    clear HN3
    generalize w3.heap.size = N at *
    have k0 : W.cell? ⟨N, 0, none⟩ = some (.int .i64 x.op) := HI.out.cell 0
    have k1 : W.cell? ⟨N, 1, none⟩ = some (.int .i64 x.a) := HI.out.cell 1
    have k2 : W.cell? ⟨N, 2, none⟩ = some (.int .i64 x.b) := HI.out.cell 2
    have k3 : W.cell? ⟨N, 3, none⟩ = some (.int .i64 x.c) := HI.out.cell 3
    have k4 : W.cell? ⟨N, 4, none⟩ = some (.slice A x.cs.length cap) := HI.out.cell 4
    have v1 : W.cell? ⟨w.heap.size + 1, 1, none⟩ = some (.int .i64 (kase : Int)) := HW.out.cell 1
    have v2 : W.cell? ⟨w.heap.size + 1, 2, none⟩ = some (.int .i64 value) := HW.out.cell 2
    have v3 : W.cell? ⟨w.heap.size + 1, 3, none⟩ = some (.bool true) := HW.out.cell 3
    rw [hop] at k0
    rw [ea] at k1
    rw [eb] at k2
    rw [ec] at k3
    go_wp2_with (first
      | (refine wp_stI rfl (.tmp 21) (.tmp 20) rfl rfl rfl HG.out (by rw [gR_size]; omega) ?_; have HI2 := Lib.hid (HI.out.set_other (i := na) (a := (N + 1)) (by omega) (.int .i64 (kase : Int))); have HW2 := Lib.hid (HW.out.set_other (i := na) (a := (N + 1)) (by omega) (.int .i64 (kase : Int))); have HR2 := Lib.hid (HR.out.set_other (i := na) (a := (N + 1)) (by omega) (.int .i64 (kase : Int))); have HBW2 := Lib.hid (below_set (i := na) (a := (N + 1)) HBW.out (by omega) (.int .i64 (kase : Int))); have HG2 := HG.out.set na (.int .i64 (kase : Int)); rw [gR_set _ (by omega)] at HG2; replace HG2 := Lib.hid HG2; clear HI HW HR HBW HG; have HI := HI2; have HW := HW2; have HR := HR2; have HBW := HBW2; have HG := HG2; clear HI2 HW2 HR2 HBW2 HG2; clear k0 k1 k2 k3 k4 v1 v2 v3; generalize W.setCell ⟨(N + 1), na, none⟩ (.int .i64 (kase : Int)) = W1 at *; have k0 : W1.cell? ⟨N, 0, none⟩ = some (.int .i64 x.op) := HI.out.cell 0; have k1 : W1.cell? ⟨N, 1, none⟩ = some (.int .i64 x.a) := HI.out.cell 1; have k2 : W1.cell? ⟨N, 2, none⟩ = some (.int .i64 x.b) := HI.out.cell 2; have k3 : W1.cell? ⟨N, 3, none⟩ = some (.int .i64 x.c) := HI.out.cell 3; have k4 : W1.cell? ⟨N, 4, none⟩ = some (.slice A x.cs.length cap) := HI.out.cell 4; have v1 : W1.cell? ⟨w.heap.size + 1, 1, none⟩ = some (.int .i64 (kase : Int)) := HW.out.cell 1; have v2 : W1.cell? ⟨w.heap.size + 1, 2, none⟩ = some (.int .i64 value) := HW.out.cell 2; have v3 : W1.cell? ⟨w.heap.size + 1, 3, none⟩ = some (.bool true) := HW.out.cell 3; rw [hop] at k0; rw [ea] at k1; rw [eb] at k2; rw [ec] at k3))
    refine (recv_at W1 kase (HRD.out.later HBW.out) HKC.out).mono ?_
    rintro e' w' ⟨rfl, rfl⟩
    go_wp2_with (first
      | (refine wp_stI rfl (.tmp 32) (.tmp 31) rfl rfl rfl HG.out (by rw [gR_size]; omega) ?_; have HI2 := Lib.hid (HI.out.set_other (i := nb) (a := (N + 1)) (by omega) (.int .i64 value)); have HW2 := Lib.hid (HW.out.set_other (i := nb) (a := (N + 1)) (by omega) (.int .i64 value)); have HR2 := Lib.hid (HR.out.set_other (i := nb) (a := (N + 1)) (by omega) (.int .i64 value)); have HBW2 := Lib.hid (below_set (i := nb) (a := (N + 1)) HBW.out (by omega) (.int .i64 value)); have HG2 := HG.out.set nb (.int .i64 value); rw [gR_set _ (by omega)] at HG2; replace HG2 := Lib.hid HG2; clear HI HW HR HBW HG; have HI := HI2; have HW := HW2; have HR := HR2; have HBW := HBW2; have HG := HG2; clear HI2 HW2 HR2 HBW2 HG2; clear k0 k1 k2 k3 k4 v1 v2 v3; generalize W1.setCell ⟨(N + 1), nb, none⟩ (.int .i64 value) = W2 at *; have k0 : W2.cell? ⟨N, 0, none⟩ = some (.int .i64 x.op) := HI.out.cell 0; have k1 : W2.cell? ⟨N, 1, none⟩ = some (.int .i64 x.a) := HI.out.cell 1; have k2 : W2.cell? ⟨N, 2, none⟩ = some (.int .i64 x.b) := HI.out.cell 2; have k3 : W2.cell? ⟨N, 3, none⟩ = some (.int .i64 x.c) := HI.out.cell 3; have k4 : W2.cell? ⟨N, 4, none⟩ = some (.slice A x.cs.length cap) := HI.out.cell 4; have v1 : W2.cell? ⟨w.heap.size + 1, 1, none⟩ = some (.int .i64 (kase : Int)) := HW.out.cell 1; have v2 : W2.cell? ⟨w.heap.size + 1, 2, none⟩ = some (.int .i64 value) := HW.out.cell 2; have v3 : W2.cell? ⟨w.heap.size + 1, 3, none⟩ = some (.bool true) := HW.out.cell 3; rw [hop] at k0; rw [ea] at k1; rw [eb] at k2; rw [ec] at k3)
      | (refine wp_stI rfl (.tmp 35) (.const (.int .i64 0)) rfl rfl rfl HG.out (by rw [gR_size]; omega) ?_; have HI2 := Lib.hid (HI.out.set_other (i := nc) (a := (N + 1)) (by omega) (.int .i64 0)); have HW2 := Lib.hid (HW.out.set_other (i := nc) (a := (N + 1)) (by omega) (.int .i64 0)); have HR2 := Lib.hid (HR.out.set_other (i := nc) (a := (N + 1)) (by omega) (.int .i64 0)); have HBW2 := Lib.hid (below_set (i := nc) (a := (N + 1)) HBW.out (by omega) (.int .i64 0)); have HG2 := HG.out.set nc (.int .i64 0); rw [gR_set _ (by omega)] at HG2; replace HG2 := Lib.hid HG2; clear HI HW HR HBW HG; have HI := HI2; have HW := HW2; have HR := HR2; have HBW := HBW2; have HG := HG2; clear HI2 HW2 HR2 HBW2 HG2; clear k0 k1 k2 k3 k4 v1 v2 v3; generalize W2.setCell ⟨(N + 1), nc, none⟩ (.int .i64 0) = W3 at *; have k0 : W3.cell? ⟨N, 0, none⟩ = some (.int .i64 x.op) := HI.out.cell 0; have k1 : W3.cell? ⟨N, 1, none⟩ = some (.int .i64 x.a) := HI.out.cell 1; have k2 : W3.cell? ⟨N, 2, none⟩ = some (.int .i64 x.b) := HI.out.cell 2; have k3 : W3.cell? ⟨N, 3, none⟩ = some (.int .i64 x.c) := HI.out.cell 3; have k4 : W3.cell? ⟨N, 4, none⟩ = some (.slice A x.cs.length cap) := HI.out.cell 4; have v1 : W3.cell? ⟨w.heap.size + 1, 1, none⟩ = some (.int .i64 (kase : Int)) := HW.out.cell 1; have v2 : W3.cell? ⟨w.heap.size + 1, 2, none⟩ = some (.int .i64 value) := HW.out.cell 2; have v3 : W3.cell? ⟨w.heap.size + 1, 3, none⟩ = some (.bool true) := HW.out.cell 3; rw [hop] at k0; rw [ea] at k1; rw [eb] at k2; rw [ec] at k3)
      | (refine wp_stI rfl (.tmp 40) (.const (.int .i64 1)) rfl rfl rfl HG.out (by rw [gR_size]; omega) ?_; have HI2 := Lib.hid (HI.out.set_other (i := nc) (a := (N + 1)) (by omega) (.int .i64 1)); have HW2 := Lib.hid (HW.out.set_other (i := nc) (a := (N + 1)) (by omega) (.int .i64 1)); have HR2 := Lib.hid (HR.out.set_other (i := nc) (a := (N + 1)) (by omega) (.int .i64 1)); have HBW2 := Lib.hid (below_set (i := nc) (a := (N + 1)) HBW.out (by omega) (.int .i64 1)); have HG2 := HG.out.set nc (.int .i64 1); rw [gR_set _ (by omega)] at HG2; replace HG2 := Lib.hid HG2; clear HI HW HR HBW HG; have HI := HI2; have HW := HW2; have HR := HR2; have HBW := HBW2; have HG := HG2; clear HI2 HW2 HR2 HBW2 HG2; clear k0 k1 k2 k3 k4 v1 v2 v3; generalize W3.setCell ⟨(N + 1), nc, none⟩ (.int .i64 1) = W4 at *; have k0 : W4.cell? ⟨N, 0, none⟩ = some (.int .i64 x.op) := HI.out.cell 0; have k1 : W4.cell? ⟨N, 1, none⟩ = some (.int .i64 x.a) := HI.out.cell 1; have k2 : W4.cell? ⟨N, 2, none⟩ = some (.int .i64 x.b) := HI.out.cell 2; have k3 : W4.cell? ⟨N, 3, none⟩ = some (.int .i64 x.c) := HI.out.cell 3; have k4 : W4.cell? ⟨N, 4, none⟩ = some (.slice A x.cs.length cap) := HI.out.cell 4; have v1 : W4.cell? ⟨w.heap.size + 1, 1, none⟩ = some (.int .i64 (kase : Int)) := HW.out.cell 1; have v2 : W4.cell? ⟨w.heap.size + 1, 2, none⟩ = some (.int .i64 value) := HW.out.cell 2; have v3 : W4.cell? ⟨w.heap.size + 1, 3, none⟩ = some (.bool true) := HW.out.cell 3; rw [hop] at k0; rw [ea] at k1; rw [eb] at k2; rw [ec] at k3)
      | (refine wp_ldB rfl (.tmp 6) rfl rfl HG.out Tryd.underlying30 rfl i30 ?_)
      | (refine wp_stB rfl (.tmp 4) (.tmp 41) rfl rfl rfl HR.out rfl i30 (gR_one _) ?_))
    refine bodyPost_ret (v := .agg (gR (upd (upd (upd (upd x.rg na (kase : Int)) nb value) nc 0) nc 1))) ?_ rfl ⟨rfl, below_row HBW.out (by omega) _⟩
    exact results_cell_row (p := 4) (ty := 30) rfl _ _ (w.heap.size + 2) 30 (gR (upd (upd (upd (upd x.rg na (kase : Int)) nb value) nc 0) nc 1)) (0, 0) _ rfl (HR.out.row _) Tryd.underlying30 rfl i30
  · intro K hK
    rw [if_pos (by first | kernel_rfl | rfl)]
    refine wp_run (ex_al (N := w3.heap.size) rfl rfl (al30 _)) ?_
    have hHeld2 := KP.out (w3.drew.alloc (.cells (gR fun _ => 0) 30)) (((Below.refl w3.heap.size w3).drew).alloc (Nat.le_refl _) _)
    refine hK _ _ (fun _ => hHeld2) ?_
    clear hK K hHeld
    have hHeld := hHeld2
    clear hHeld2
    try simp only [List.getElem_toArray, List.getElem_cons_succ, List.getElem_cons_zero, Act.put, List.setIfInBounds_toArray, List.set_cons_zero, List.set_cons_succ]
    try simp only [List.getElem_toArray, List.getElem_cons_succ, List.getElem_cons_zero, Act.put, List.setIfInBounds_toArray, List.set_cons_zero, List.set_cons_succ]
    refine but_one (i := 4) (by kernel_rfl) rfl ?_
    intro K hK
    rw [if_pos (by first | kernel_rfl | rfl)]
    refine wp_run (ex_al (N := w3.heap.size + 1) rfl (World.size_alloc ..) (al34 _)) ?_
    have hHeld2 := KP.out _ MB.out.2.2
    refine hK _ _ (fun _ => hHeld2) ?_
    clear hK K hHeld
    have hHeld := hHeld2
    clear hHeld2
    try simp only [List.getElem_toArray, List.getElem_cons_succ, List.getElem_cons_zero, Act.put, List.setIfInBounds_toArray, List.set_cons_zero, List.set_cons_succ]
    try simp only [List.getElem_toArray, List.getElem_cons_succ, List.getElem_cons_zero, Act.put, List.setIfInBounds_toArray, List.set_cons_zero, List.set_cons_succ]
    refine but_one (i := 6) (by kernel_rfl) rfl ?_
    intro K hK
    rw [if_pos (by first | kernel_rfl | rfl)]
    refine wp_st1 (.tmp 5) (.tmp 8) rfl rfl rfl MB.out.1 rfl i34 (iR_one ..) ?_
    have hHeld2 := KP.out _ (below_row MB.out.2.2 (Nat.le_succ _) (iR x A cap))
    refine hK _ _ (fun _ => hHeld2) ?_
    clear hK K hHeld
    have hHeld := hHeld2
    clear hHeld2
    try simp only [List.getElem_toArray, List.getElem_cons_succ, List.getElem_cons_zero, Act.put]
    try simp only [List.getElem_toArray, List.getElem_cons_succ, List.getElem_cons_zero, Act.put, List.setIfInBounds_toArray, List.set_cons_zero, List.set_cons_succ]
    refine but_one (i := 7) (by kernel_rfl) rfl ?_
    intro K hK
    rw [if_pos (by first | kernel_rfl | rfl)]
    refine wp_st1 (.tmp 6) (.tmp 10) rfl rfl rfl (MB.out.2.1.row_other (Nat.ne_of_lt (Nat.lt_succ_self _)) _) rfl i30 (gR_one _) ?_
    refine hK _ _ (fun h => absurd rfl h) ?_
    clear hK K hHeld
    try simp only [List.getElem_toArray, List.getElem_cons_succ, List.getElem_cons_zero, Act.put]
    refine but_done (by kernel_rfl) ?_
    try clear hHeld
    clear hTidy
    have HI : Hid (Bk (mB w3 (iR x A cap) (gR x.rg)) (w3.heap.size + 1) 34 (iR x A cap)) := (MB.out.1.row _).row_other (Nat.succ_ne_self _) _
    have HG : Hid (Bk (mB w3 (iR x A cap) (gR x.rg)) w3.heap.size 30 (gR x.rg)) := (MB.out.2.1.row_other (Nat.ne_of_lt (Nat.lt_succ_self _)) _).row _
    have HB : Hid (Below w3.heap.size w3 (mB w3 (iR x A cap) (gR x.rg))) := below_row (below_row MB.out.2.2 (Nat.le_succ _) _) (Nat.le_refl _) _
    have HW := Lib.hid (HV3.out.later HB.out)
    have HR := Lib.hid (HR3.out.later HB.out)
    have HBW := Lib.hid (HB3.out.trans (HB.out.mono HB3.out.size))
    change Exit.then _ _ _ _ (mB w3 (iR x A cap) (gR x.rg))
    generalize mB w3 (iR x A cap) (gR x.rg) = W at *
    clear HB MA MB KP HU3 HV3 HR3 HB3
    have hN : w.heap.size + 3 = w3.heap.size := HN3.out.symm
    clear HN3
    generalize w3.heap.size = N at *
    have k0 : W.cell? ⟨(N + 1), 0, none⟩ = some (.int .i64 x.op) := HI.out.cell 0
    have k1 : W.cell? ⟨(N + 1), 1, none⟩ = some (.int .i64 x.a) := HI.out.cell 1
    have k2 : W.cell? ⟨(N + 1), 2, none⟩ = some (.int .i64 x.b) := HI.out.cell 2
    have k3 : W.cell? ⟨(N + 1), 3, none⟩ = some (.int .i64 x.c) := HI.out.cell 3
    have k4 : W.cell? ⟨(N + 1), 4, none⟩ = some (.slice A x.cs.length cap) := HI.out.cell 4
    have v1 : W.cell? ⟨w.heap.size + 1, 1, none⟩ = some (.int .i64 (kase : Int)) := HW.out.cell 1
    have v2 : W.cell? ⟨w.heap.size + 1, 2, none⟩ = some (.int .i64 value) := HW.out.cell 2
    have v3 : W.cell? ⟨w.heap.size + 1, 3, none⟩ = some (.bool true) := HW.out.cell 3
    rw [hop] at k0
    rw [ea] at k1
    rw [eb] at k2
    rw [ec] at k3
    go_wp2_with (first
      | (refine wp_stI rfl (.tmp 21) (.tmp 20) rfl rfl rfl HG.out (by rw [gR_size]; omega) ?_; have HI2 := Lib.hid (HI.out.set_other (i := na) (a := N) (by omega) (.int .i64 (kase : Int))); have HW2 := Lib.hid (HW.out.set_other (i := na) (a := N) (by omega) (.int .i64 (kase : Int))); have HR2 := Lib.hid (HR.out.set_other (i := na) (a := N) (by omega) (.int .i64 (kase : Int))); have HBW2 := Lib.hid (below_set (i := na) (a := N) HBW.out (by omega) (.int .i64 (kase : Int))); have HG2 := HG.out.set na (.int .i64 (kase : Int)); rw [gR_set _ (by omega)] at HG2; replace HG2 := Lib.hid HG2; clear HI HW HR HBW HG; have HI := HI2; have HW := HW2; have HR := HR2; have HBW := HBW2; have HG := HG2; clear HI2 HW2 HR2 HBW2 HG2; clear k0 k1 k2 k3 k4 v1 v2 v3; generalize W.setCell ⟨N, na, none⟩ (.int .i64 (kase : Int)) = W1 at *; have k0 : W1.cell? ⟨(N + 1), 0, none⟩ = some (.int .i64 x.op) := HI.out.cell 0; have k1 : W1.cell? ⟨(N + 1), 1, none⟩ = some (.int .i64 x.a) := HI.out.cell 1; have k2 : W1.cell? ⟨(N + 1), 2, none⟩ = some (.int .i64 x.b) := HI.out.cell 2; have k3 : W1.cell? ⟨(N + 1), 3, none⟩ = some (.int .i64 x.c) := HI.out.cell 3; have k4 : W1.cell? ⟨(N + 1), 4, none⟩ = some (.slice A x.cs.length cap) := HI.out.cell 4; have v1 : W1.cell? ⟨w.heap.size + 1, 1, none⟩ = some (.int .i64 (kase : Int)) := HW.out.cell 1; have v2 : W1.cell? ⟨w.heap.size + 1, 2, none⟩ = some (.int .i64 value) := HW.out.cell 2; have v3 : W1.cell? ⟨w.heap.size + 1, 3, none⟩ = some (.bool true) := HW.out.cell 3; rw [hop] at k0; rw [ea] at k1; rw [eb] at k2; rw [ec] at k3))
    refine (recv_at W1 kase (HRD.out.later HBW.out) HKC.out).mono ?_
    rintro e' w' ⟨rfl, rfl⟩
    go_wp2_with (first
      | (refine wp_stI rfl (.tmp 32) (.tmp 31) rfl rfl rfl HG.out (by rw [gR_size]; omega) ?_; have HI2 := Lib.hid (HI.out.set_other (i := nb) (a := N) (by omega) (.int .i64 value)); have HW2 := Lib.hid (HW.out.set_other (i := nb) (a := N) (by omega) (.int .i64 value)); have HR2 := Lib.hid (HR.out.set_other (i := nb) (a := N) (by omega) (.int .i64 value)); have HBW2 := Lib.hid (below_set (i := nb) (a := N) HBW.out (by omega) (.int .i64 value)); have HG2 := HG.out.set nb (.int .i64 value); rw [gR_set _ (by omega)] at HG2; replace HG2 := Lib.hid HG2; clear HI HW HR HBW HG; have HI := HI2; have HW := HW2; have HR := HR2; have HBW := HBW2; have HG := HG2; clear HI2 HW2 HR2 HBW2 HG2; clear k0 k1 k2 k3 k4 v1 v2 v3; generalize W1.setCell ⟨N, nb, none⟩ (.int .i64 value) = W2 at *; have k0 : W2.cell? ⟨(N + 1), 0, none⟩ = some (.int .i64 x.op) := HI.out.cell 0; have k1 : W2.cell? ⟨(N + 1), 1, none⟩ = some (.int .i64 x.a) := HI.out.cell 1; have k2 : W2.cell? ⟨(N + 1), 2, none⟩ = some (.int .i64 x.b) := HI.out.cell 2; have k3 : W2.cell? ⟨(N + 1), 3, none⟩ = some (.int .i64 x.c) := HI.out.cell 3; have k4 : W2.cell? ⟨(N + 1), 4, none⟩ = some (.slice A x.cs.length cap) := HI.out.cell 4; have v1 : W2.cell? ⟨w.heap.size + 1, 1, none⟩ = some (.int .i64 (kase : Int)) := HW.out.cell 1; have v2 : W2.cell? ⟨w.heap.size + 1, 2, none⟩ = some (.int .i64 value) := HW.out.cell 2; have v3 : W2.cell? ⟨w.heap.size + 1, 3, none⟩ = some (.bool true) := HW.out.cell 3; rw [hop] at k0; rw [ea] at k1; rw [eb] at k2; rw [ec] at k3)
      | (refine wp_stI rfl (.tmp 35) (.const (.int .i64 0)) rfl rfl rfl HG.out (by rw [gR_size]; omega) ?_; have HI2 := Lib.hid (HI.out.set_other (i := nc) (a := N) (by omega) (.int .i64 0)); have HW2 := Lib.hid (HW.out.set_other (i := nc) (a := N) (by omega) (.int .i64 0)); have HR2 := Lib.hid (HR.out.set_other (i := nc) (a := N) (by omega) (.int .i64 0)); have HBW2 := Lib.hid (below_set (i := nc) (a := N) HBW.out (by omega) (.int .i64 0)); have HG2 := HG.out.set nc (.int .i64 0); rw [gR_set _ (by omega)] at HG2; replace HG2 := Lib.hid HG2; clear HI HW HR HBW HG; have HI := HI2; have HW := HW2; have HR := HR2; have HBW := HBW2; have HG := HG2; clear HI2 HW2 HR2 HBW2 HG2; clear k0 k1 k2 k3 k4 v1 v2 v3; generalize W2.setCell ⟨N, nc, none⟩ (.int .i64 0) = W3 at *; have k0 : W3.cell? ⟨(N + 1), 0, none⟩ = some (.int .i64 x.op) := HI.out.cell 0; have k1 : W3.cell? ⟨(N + 1), 1, none⟩ = some (.int .i64 x.a) := HI.out.cell 1; have k2 : W3.cell? ⟨(N + 1), 2, none⟩ = some (.int .i64 x.b) := HI.out.cell 2; have k3 : W3.cell? ⟨(N + 1), 3, none⟩ = some (.int .i64 x.c) := HI.out.cell 3; have k4 : W3.cell? ⟨(N + 1), 4, none⟩ = some (.slice A x.cs.length cap) := HI.out.cell 4; have v1 : W3.cell? ⟨w.heap.size + 1, 1, none⟩ = some (.int .i64 (kase : Int)) := HW.out.cell 1; have v2 : W3.cell? ⟨w.heap.size + 1, 2, none⟩ = some (.int .i64 value) := HW.out.cell 2; have v3 : W3.cell? ⟨w.heap.size + 1, 3, none⟩ = some (.bool true) := HW.out.cell 3; rw [hop] at k0; rw [ea] at k1; rw [eb] at k2; rw [ec] at k3)
      | (refine wp_stI rfl (.tmp 40) (.const (.int .i64 1)) rfl rfl rfl HG.out (by rw [gR_size]; omega) ?_; have HI2 := Lib.hid (HI.out.set_other (i := nc) (a := N) (by omega) (.int .i64 1)); have HW2 := Lib.hid (HW.out.set_other (i := nc) (a := N) (by omega) (.int .i64 1)); have HR2 := Lib.hid (HR.out.set_other (i := nc) (a := N) (by omega) (.int .i64 1)); have HBW2 := Lib.hid (below_set (i := nc) (a := N) HBW.out (by omega) (.int .i64 1)); have HG2 := HG.out.set nc (.int .i64 1); rw [gR_set _ (by omega)] at HG2; replace HG2 := Lib.hid HG2; clear HI HW HR HBW HG; have HI := HI2; have HW := HW2; have HR := HR2; have HBW := HBW2; have HG := HG2; clear HI2 HW2 HR2 HBW2 HG2; clear k0 k1 k2 k3 k4 v1 v2 v3; generalize W3.setCell ⟨N, nc, none⟩ (.int .i64 1) = W4 at *; have k0 : W4.cell? ⟨(N + 1), 0, none⟩ = some (.int .i64 x.op) := HI.out.cell 0; have k1 : W4.cell? ⟨(N + 1), 1, none⟩ = some (.int .i64 x.a) := HI.out.cell 1; have k2 : W4.cell? ⟨(N + 1), 2, none⟩ = some (.int .i64 x.b) := HI.out.cell 2; have k3 : W4.cell? ⟨(N + 1), 3, none⟩ = some (.int .i64 x.c) := HI.out.cell 3; have k4 : W4.cell? ⟨(N + 1), 4, none⟩ = some (.slice A x.cs.length cap) := HI.out.cell 4; have v1 : W4.cell? ⟨w.heap.size + 1, 1, none⟩ = some (.int .i64 (kase : Int)) := HW.out.cell 1; have v2 : W4.cell? ⟨w.heap.size + 1, 2, none⟩ = some (.int .i64 value) := HW.out.cell 2; have v3 : W4.cell? ⟨w.heap.size + 1, 3, none⟩ = some (.bool true) := HW.out.cell 3; rw [hop] at k0; rw [ea] at k1; rw [eb] at k2; rw [ec] at k3)
      | (refine wp_ldB rfl (.tmp 6) rfl rfl HG.out Tryd.underlying30 rfl i30 ?_)
      | (refine wp_stB rfl (.tmp 4) (.tmp 41) rfl rfl rfl HR.out rfl i30 (gR_one _) ?_))
    refine bodyPost_ret (v := .agg (gR (upd (upd (upd (upd x.rg na (kase : Int)) nb value) nc 0) nc 1))) ?_ rfl ⟨rfl, below_row HBW.out (by omega) _⟩
    exact results_cell_row (p := 4) (ty := 30) rfl _ _ (w.heap.size + 2) 30 (gR (upd (upd (upd (upd x.rg na (kase : Int)) nb value) nc 0) nc 1)) (0, 0) _ rfl (HR.out.row _) Tryd.underlying30 rfl i30
set_option maxHeartbeats 2000000 in
theorem told_in0 (x : T0) (A : Option Addr) (cap : Nat) (j value : Int) ( pn : Bool) (kase : Nat) (w : World) {na nb nc : Nat} {c1 c2 : Int} (hop : x.op = 15) (ea : x.a = (na : Int)) (ha : na < 8) (eb : x.b = (nb : Int)) (ec : x.c = (nc : Int)) (hb : nb < 8) (hc : nc < 8) (hR : Pg.RdC w A x.cs.length x.cs) (hk : x.cs[kase]? = some ⟨false, c1, c2⟩) : Calls Tryd.prog 32 #[.agg (tW x A cap), .agg (wR j (kase : Int) value false pn)] w (ToldR (upd (upd (upd x.rg na (kase : Int)) nb value) nc 0) w) := by
  have q5 : (na : Int) < 8 := by omega
  have q6 : (0 : Int) ≤ (na : Int) := by omega
  have q1 : (nb : Int) < 8 := by omega
  have q2 : (nc : Int) < 8 := by omega
  have q3 : (0 : Int) ≤ (nb : Int) := by omega
  have q4 : (0 : Int) ≤ (nc : Int) := by omega
  have HRD := Lib.hid hR
  have HKC := Lib.hid hk
  clear hR hk
  go_enter Tryd.func32, Tryd.ntmps32
  go_wp2_with fail
  have HB3 : Hid (Below w.heap.size w (((w.alloc (.cells (tW x A cap) 47)).alloc (.cells (wR j (kase : Int) value false pn) 38)).alloc (.cells (gR fun _ => 0) 30))) := (((Below.refl w.heap.size w).alloc (Nat.le_refl _) _).alloc (by simp) _).alloc (by simp; omega) _
  have HU3 : Hid (Bk (((w.alloc (.cells (tW x A cap) 47)).alloc (.cells (wR j (kase : Int) value false pn) 38)).alloc (.cells (gR fun _ => 0) 30)) w.heap.size 47 (tW x A cap)) := ((Bk.new w _ 47).later (below_al _ _)).later (below_al _ _)
  have HV3 : Hid (Bk (((w.alloc (.cells (tW x A cap) 47)).alloc (.cells (wR j (kase : Int) value false pn) 38)).alloc (.cells (gR fun _ => 0) 30)) (w.heap.size + 1) 38 (wR j (kase : Int) value false pn)) := by
    have h9 := (Bk.new (w.alloc (.cells (tW x A cap) 47)) (wR j (kase : Int) value false pn) 38).later (below_al _ (.cells (gR fun _ => 0) 30))
    rw [World.size_alloc] at h9; exact h9
  have HR3 : Hid (Bk (((w.alloc (.cells (tW x A cap) 47)).alloc (.cells (wR j (kase : Int) value false pn) 38)).alloc (.cells (gR fun _ => 0) 30)) (w.heap.size + 2) 30 (gR fun _ => 0)) := by
    have h9 := Bk.new ((w.alloc (.cells (tW x A cap) 47)).alloc (.cells (wR j (kase : Int) value false pn) 38)) (gR fun _ => 0) 30
    rw [World.size_alloc, World.size_alloc] at h9; exact h9
  have HN3 : Hid ((((w.alloc (.cells (tW x A cap) 47)).alloc (.cells (wR j (kase : Int) value false pn) 38)).alloc (.cells (gR fun _ => 0) 30)).heap.size = w.heap.size + 3) := by show _ = _; simp
  change Code.wp _ _ _ _ (((w.alloc (.cells (tW x A cap) 47)).alloc (.cells (wR j (kase : Int) value false pn) 38)).alloc (.cells (gR fun _ => 0) 30))
  generalize ((w.alloc (.cells (tW x A cap) 47)).alloc (.cells (wR j (kase : Int) value false pn) 38)).alloc (.cells (gR fun _ => 0) 30) = w3 at *
  have KP : Hid (∀ w', Below w3.heap.size w3 w' → w'.rangeAt w.heap.size 12 (iR x A cap).toList ∧ w'.rangeAt w.heap.size 4 (gR x.rg).toList) := fun w' hb => ⟨instr_part (HU3.out.later hb), regs_part (HU3.out.later hb)⟩
  have MA := Lib.hid (mA_a w3)
  have MB := Lib.hid (mB_a w3)
  refine but_startQ 7 (fun w' => w'.rangeAt w.heap.size 12 (iR x A cap).toList ∧ w'.rangeAt w.heap.size 4 (gR x.rg).toList) (by kernel_rfl) (by as_aux_lemma => kernel_rfl) ?_
  intro hTidy
  have hHeld := KP.out _ ((Below.refl _ _).drew)
  change AnyBut _ _ _ _ _ _ 8 _ _ _
  refine tkQ 0 rfl hTidy hHeld ?_
  refine tkL 1 (ty := 34) (.tmp 7) (iR x A cap) rfl hTidy hHeld rfl rfl (fun w h => h.1) Tryd.underlying34 rfl i34 ?_
  refine tkQ 2 rfl hTidy hHeld ?_
  refine tkL 3 (ty := 30) (.tmp 9) (gR x.rg) rfl hTidy hHeld rfl rfl (fun w h => h.2) Tryd.underlying30 rfl i30 ?_
  try simp only [List.getElem_toArray, List.getElem_cons_succ, List.getElem_cons_zero, Act.put, List.setIfInBounds_toArray, List.set_cons_zero, List.set_cons_succ]
  refine but_two (i := 4) (j := 5) (by kernel_rfl) rfl rfl ?_ ?_
  · intro K hK
    rw [if_pos (by first | kernel_rfl | rfl)]
    refine wp_run (ex_al (N := w3.heap.size) rfl rfl (al34 _)) ?_
    have hHeld2 := KP.out (w3.drew.alloc (.cells (iR zI' none 0) 34)) (((Below.refl w3.heap.size w3).drew).alloc (Nat.le_refl _) _)
    refine hK _ _ (fun _ => hHeld2) ?_
    clear hK K hHeld
    have hHeld := hHeld2
    clear hHeld2
    try simp only [List.getElem_toArray, List.getElem_cons_succ, List.getElem_cons_zero, Act.put, List.setIfInBounds_toArray, List.set_cons_zero, List.set_cons_succ]
    try simp only [List.getElem_toArray, List.getElem_cons_succ, List.getElem_cons_zero, Act.put, List.setIfInBounds_toArray, List.set_cons_zero, List.set_cons_succ]
    refine but_one (i := 5) (by kernel_rfl) rfl ?_
    intro K hK
    rw [if_pos (by first | kernel_rfl | rfl)]
    refine wp_run (ex_al (N := w3.heap.size + 1) rfl (World.size_alloc ..) (al30 _)) ?_
    have hHeld2 := KP.out _ MA.out.2.2
    refine hK _ _ (fun _ => hHeld2) ?_
    clear hK K hHeld
    have hHeld := hHeld2
    clear hHeld2
    try simp only [List.getElem_toArray, List.getElem_cons_succ, List.getElem_cons_zero, Act.put, List.setIfInBounds_toArray, List.set_cons_zero, List.set_cons_succ]
    try simp only [List.getElem_toArray, List.getElem_cons_succ, List.getElem_cons_zero, Act.put, List.setIfInBounds_toArray, List.set_cons_zero, List.set_cons_succ]
    refine but_one (i := 6) (by kernel_rfl) rfl ?_
    intro K hK
    rw [if_pos (by first | kernel_rfl | rfl)]
    refine wp_st1 (.tmp 5) (.tmp 8) rfl rfl rfl MA.out.1 rfl i34 (iR_one ..) ?_
    have hHeld2 := KP.out _ (below_row MA.out.2.2 (Nat.le_refl _) (iR x A cap))
    refine hK _ _ (fun _ => hHeld2) ?_
    clear hK K hHeld
    have hHeld := hHeld2
    clear hHeld2
    try simp only [List.getElem_toArray, List.getElem_cons_succ, List.getElem_cons_zero, Act.put]
    try simp only [List.getElem_toArray, List.getElem_cons_succ, List.getElem_cons_zero, Act.put, List.setIfInBounds_toArray, List.set_cons_zero, List.set_cons_succ]
    refine but_one (i := 7) (by kernel_rfl) rfl ?_
    intro K hK
    rw [if_pos (by first | kernel_rfl | rfl)]
    refine wp_st1 (.tmp 6) (.tmp 10) rfl rfl rfl (MA.out.2.1.row_other (Nat.succ_ne_self _) _) rfl i30 (gR_one _) ?_
    refine hK _ _ (fun h => absurd rfl h) ?_
    clear hK K hHeld
    try simp only [List.getElem_toArray, List.getElem_cons_succ, List.getElem_cons_zero, Act.put]
    refine but_done (by kernel_rfl) ?_
    try clear hHeld
    clear hTidy
    have HI : Hid (Bk (mA w3 (iR x A cap) (gR x.rg)) w3.heap.size 34 (iR x A cap)) := (MA.out.1.row _).row_other (Nat.ne_of_lt (Nat.lt_succ_self _)) _
    have HG : Hid (Bk (mA w3 (iR x A cap) (gR x.rg)) (w3.heap.size + 1) 30 (gR x.rg)) := (MA.out.2.1.row_other (Nat.succ_ne_self _) _).row _
    have HB : Hid (Below w3.heap.size w3 (mA w3 (iR x A cap) (gR x.rg))) := below_row (below_row MA.out.2.2 (Nat.le_refl _) _) (Nat.le_succ _) _
    have HW := Lib.hid (HV3.out.later HB.out)
    have HR := Lib.hid (HR3.out.later HB.out)
    have HBW := Lib.hid (HB3.out.trans (HB.out.mono HB3.out.size))
    change Exit.then _ _ _ _ (mA w3 (iR x A cap) (gR x.rg))
    generalize mA w3 (iR x A cap) (gR x.rg) = W at *
    clear HB MA MB KP HU3 HV3 HR3 HB3
    have hN : w.heap.size + 3 = w3.heap.size := HN3.out.symm
    clear HN3
    generalize w3.heap.size = N at *
    have k0 : W.cell? ⟨N, 0, none⟩ = some (.int .i64 x.op) := HI.out.cell 0
    have k1 : W.cell? ⟨N, 1, none⟩ = some (.int .i64 x.a) := HI.out.cell 1
    have k2 : W.cell? ⟨N, 2, none⟩ = some (.int .i64 x.b) := HI.out.cell 2
    have k3 : W.cell? ⟨N, 3, none⟩ = some (.int .i64 x.c) := HI.out.cell 3
    have k4 : W.cell? ⟨N, 4, none⟩ = some (.slice A x.cs.length cap) := HI.out.cell 4
    have v1 : W.cell? ⟨w.heap.size + 1, 1, none⟩ = some (.int .i64 (kase : Int)) := HW.out.cell 1
    have v2 : W.cell? ⟨w.heap.size + 1, 2, none⟩ = some (.int .i64 value) := HW.out.cell 2
    have v3 : W.cell? ⟨w.heap.size + 1, 3, none⟩ = some (.bool false) := HW.out.cell 3
    rw [hop] at k0
    rw [ea] at k1
    rw [eb] at k2
    rw [ec] at k3
    go_wp2_with (first
      | (refine wp_stI rfl (.tmp 21) (.tmp 20) rfl rfl rfl HG.out (by rw [gR_size]; omega) ?_; have HI2 := Lib.hid (HI.out.set_other (i := na) (a := (N + 1)) (by omega) (.int .i64 (kase : Int))); have HW2 := Lib.hid (HW.out.set_other (i := na) (a := (N + 1)) (by omega) (.int .i64 (kase : Int))); have HR2 := Lib.hid (HR.out.set_other (i := na) (a := (N + 1)) (by omega) (.int .i64 (kase : Int))); have HBW2 := Lib.hid (below_set (i := na) (a := (N + 1)) HBW.out (by omega) (.int .i64 (kase : Int))); have HG2 := HG.out.set na (.int .i64 (kase : Int)); rw [gR_set _ (by omega)] at HG2; replace HG2 := Lib.hid HG2; clear HI HW HR HBW HG; have HI := HI2; have HW := HW2; have HR := HR2; have HBW := HBW2; have HG := HG2; clear HI2 HW2 HR2 HBW2 HG2; clear k0 k1 k2 k3 k4 v1 v2 v3; generalize W.setCell ⟨(N + 1), na, none⟩ (.int .i64 (kase : Int)) = W1 at *; have k0 : W1.cell? ⟨N, 0, none⟩ = some (.int .i64 x.op) := HI.out.cell 0; have k1 : W1.cell? ⟨N, 1, none⟩ = some (.int .i64 x.a) := HI.out.cell 1; have k2 : W1.cell? ⟨N, 2, none⟩ = some (.int .i64 x.b) := HI.out.cell 2; have k3 : W1.cell? ⟨N, 3, none⟩ = some (.int .i64 x.c) := HI.out.cell 3; have k4 : W1.cell? ⟨N, 4, none⟩ = some (.slice A x.cs.length cap) := HI.out.cell 4; have v1 : W1.cell? ⟨w.heap.size + 1, 1, none⟩ = some (.int .i64 (kase : Int)) := HW.out.cell 1; have v2 : W1.cell? ⟨w.heap.size + 1, 2, none⟩ = some (.int .i64 value) := HW.out.cell 2; have v3 : W1.cell? ⟨w.heap.size + 1, 3, none⟩ = some (.bool false) := HW.out.cell 3; rw [hop] at k0; rw [ea] at k1; rw [eb] at k2; rw [ec] at k3))
    refine (recv_at W1 kase (HRD.out.later HBW.out) HKC.out).mono ?_
    rintro e' w' ⟨rfl, rfl⟩
    go_wp2_with (first
      | (refine wp_stI rfl (.tmp 32) (.tmp 31) rfl rfl rfl HG.out (by rw [gR_size]; omega) ?_; have HI2 := Lib.hid (HI.out.set_other (i := nb) (a := (N + 1)) (by omega) (.int .i64 value)); have HW2 := Lib.hid (HW.out.set_other (i := nb) (a := (N + 1)) (by omega) (.int .i64 value)); have HR2 := Lib.hid (HR.out.set_other (i := nb) (a := (N + 1)) (by omega) (.int .i64 value)); have HBW2 := Lib.hid (below_set (i := nb) (a := (N + 1)) HBW.out (by omega) (.int .i64 value)); have HG2 := HG.out.set nb (.int .i64 value); rw [gR_set _ (by omega)] at HG2; replace HG2 := Lib.hid HG2; clear HI HW HR HBW HG; have HI := HI2; have HW := HW2; have HR := HR2; have HBW := HBW2; have HG := HG2; clear HI2 HW2 HR2 HBW2 HG2; clear k0 k1 k2 k3 k4 v1 v2 v3; generalize W1.setCell ⟨(N + 1), nb, none⟩ (.int .i64 value) = W2 at *; have k0 : W2.cell? ⟨N, 0, none⟩ = some (.int .i64 x.op) := HI.out.cell 0; have k1 : W2.cell? ⟨N, 1, none⟩ = some (.int .i64 x.a) := HI.out.cell 1; have k2 : W2.cell? ⟨N, 2, none⟩ = some (.int .i64 x.b) := HI.out.cell 2; have k3 : W2.cell? ⟨N, 3, none⟩ = some (.int .i64 x.c) := HI.out.cell 3; have k4 : W2.cell? ⟨N, 4, none⟩ = some (.slice A x.cs.length cap) := HI.out.cell 4; have v1 : W2.cell? ⟨w.heap.size + 1, 1, none⟩ = some (.int .i64 (kase : Int)) := HW.out.cell 1; have v2 : W2.cell? ⟨w.heap.size + 1, 2, none⟩ = some (.int .i64 value) := HW.out.cell 2; have v3 : W2.cell? ⟨w.heap.size + 1, 3, none⟩ = some (.bool false) := HW.out.cell 3; rw [hop] at k0; rw [ea] at k1; rw [eb] at k2; rw [ec] at k3)
      | (refine wp_stI rfl (.tmp 35) (.const (.int .i64 0)) rfl rfl rfl HG.out (by rw [gR_size]; omega) ?_; have HI2 := Lib.hid (HI.out.set_other (i := nc) (a := (N + 1)) (by omega) (.int .i64 0)); have HW2 := Lib.hid (HW.out.set_other (i := nc) (a := (N + 1)) (by omega) (.int .i64 0)); have HR2 := Lib.hid (HR.out.set_other (i := nc) (a := (N + 1)) (by omega) (.int .i64 0)); have HBW2 := Lib.hid (below_set (i := nc) (a := (N + 1)) HBW.out (by omega) (.int .i64 0)); have HG2 := HG.out.set nc (.int .i64 0); rw [gR_set _ (by omega)] at HG2; replace HG2 := Lib.hid HG2; clear HI HW HR HBW HG; have HI := HI2; have HW := HW2; have HR := HR2; have HBW := HBW2; have HG := HG2; clear HI2 HW2 HR2 HBW2 HG2; clear k0 k1 k2 k3 k4 v1 v2 v3; generalize W2.setCell ⟨(N + 1), nc, none⟩ (.int .i64 0) = W3 at *; have k0 : W3.cell? ⟨N, 0, none⟩ = some (.int .i64 x.op) := HI.out.cell 0; have k1 : W3.cell? ⟨N, 1, none⟩ = some (.int .i64 x.a) := HI.out.cell 1; have k2 : W3.cell? ⟨N, 2, none⟩ = some (.int .i64 x.b) := HI.out.cell 2; have k3 : W3.cell? ⟨N, 3, none⟩ = some (.int .i64 x.c) := HI.out.cell 3; have k4 : W3.cell? ⟨N, 4, none⟩ = some (.slice A x.cs.length cap) := HI.out.cell 4; have v1 : W3.cell? ⟨w.heap.size + 1, 1, none⟩ = some (.int .i64 (kase : Int)) := HW.out.cell 1; have v2 : W3.cell? ⟨w.heap.size + 1, 2, none⟩ = some (.int .i64 value) := HW.out.cell 2; have v3 : W3.cell? ⟨w.heap.size + 1, 3, none⟩ = some (.bool false) := HW.out.cell 3; rw [hop] at k0; rw [ea] at k1; rw [eb] at k2; rw [ec] at k3)
      | (refine wp_ldB rfl (.tmp 6) rfl rfl HG.out Tryd.underlying30 rfl i30 ?_)
      | (refine wp_stB rfl (.tmp 4) (.tmp 41) rfl rfl rfl HR.out rfl i30 (gR_one _) ?_))
    refine bodyPost_ret (v := .agg (gR (upd (upd (upd x.rg na (kase : Int)) nb value) nc 0))) ?_ rfl ⟨rfl, below_row HBW.out (by omega) _⟩
    exact results_cell_row (p := 4) (ty := 30) rfl _ _ (w.heap.size + 2) 30 (gR (upd (upd (upd x.rg na (kase : Int)) nb value) nc 0)) (0, 0) _ rfl (HR.out.row _) Tryd.underlying30 rfl i30
  · intro K hK
    rw [if_pos (by first | kernel_rfl | rfl)]
    refine wp_run (ex_al (N := w3.heap.size) rfl rfl (al30 _)) ?_
    have hHeld2 := KP.out (w3.drew.alloc (.cells (gR fun _ => 0) 30)) (((Below.refl w3.heap.size w3).drew).alloc (Nat.le_refl _) _)
    refine hK _ _ (fun _ => hHeld2) ?_
    clear hK K hHeld
    have hHeld := hHeld2
    clear hHeld2
    try simp only [List.getElem_toArray, List.getElem_cons_succ, List.getElem_cons_zero, Act.put, List.setIfInBounds_toArray, List.set_cons_zero, List.set_cons_succ]
    try simp only [List.getElem_toArray, List.getElem_cons_succ, List.getElem_cons_zero, Act.put, List.setIfInBounds_toArray, List.set_cons_zero, List.set_cons_succ]
    refine but_one (i := 4) (by kernel_rfl) rfl ?_
    intro K hK
    rw [if_pos (by first | kernel_rfl | rfl)]
    refine wp_run (ex_al (N := w3.heap.size + 1) rfl (World.size_alloc ..) (al34 _)) ?_
    have hHeld2 := KP.out _ MB.out.2.2
    refine hK _ _ (fun _ => hHeld2) ?_
    clear hK K hHeld
    have hHeld := hHeld2
    clear hHeld2
    try simp only [List.getElem_toArray, List.getElem_cons_succ, List.getElem_cons_zero, Act.put, List.setIfInBounds_toArray, List.set_cons_zero, List.set_cons_succ]
    try simp only [List.getElem_toArray, List.getElem_cons_succ, List.getElem_cons_zero, Act.put, List.setIfInBounds_toArray, List.set_cons_zero, List.set_cons_succ]
    refine but_one (i := 6) (by kernel_rfl) rfl ?_
    intro K hK
    rw [if_pos (by first | kernel_rfl | rfl)]
    refine wp_st1 (.tmp 5) (.tmp 8) rfl rfl rfl MB.out.1 rfl i34 (iR_one ..) ?_
    have hHeld2 := KP.out _ (below_row MB.out.2.2 (Nat.le_succ _) (iR x A cap))
    refine hK _ _ (fun _ => hHeld2) ?_
    clear hK K hHeld
    have hHeld := hHeld2
    clear hHeld2
    try simp only [List.getElem_toArray, List.getElem_cons_succ, List.getElem_cons_zero, Act.put]
    try simp only [List.getElem_toArray, List.getElem_cons_succ, List.getElem_cons_zero, Act.put, List.setIfInBounds_toArray, List.set_cons_zero, List.set_cons_succ]
    refine but_one (i := 7) (by kernel_rfl) rfl ?_
    intro K hK
    rw [if_pos (by first | kernel_rfl | rfl)]
    refine wp_st1 (.tmp 6) (.tmp 10) rfl rfl rfl (MB.out.2.1.row_other (Nat.ne_of_lt (Nat.lt_succ_self _)) _) rfl i30 (gR_one _) ?_
    refine hK _ _ (fun h => absurd rfl h) ?_
    clear hK K hHeld
    try simp only [List.getElem_toArray, List.getElem_cons_succ, List.getElem_cons_zero, Act.put]
    refine but_done (by kernel_rfl) ?_
    try clear hHeld
    clear hTidy
    have HI : Hid (Bk (mB w3 (iR x A cap) (gR x.rg)) (w3.heap.size + 1) 34 (iR x A cap)) := (MB.out.1.row _).row_other (Nat.succ_ne_self _) _
    have HG : Hid (Bk (mB w3 (iR x A cap) (gR x.rg)) w3.heap.size 30 (gR x.rg)) := (MB.out.2.1.row_other (Nat.ne_of_lt (Nat.lt_succ_self _)) _).row _
    have HB : Hid (Below w3.heap.size w3 (mB w3 (iR x A cap) (gR x.rg))) := below_row (below_row MB.out.2.2 (Nat.le_succ _) _) (Nat.le_refl _) _
    have HW := Lib.hid (HV3.out.later HB.out)
    have HR := Lib.hid (HR3.out.later HB.out)
    have HBW := Lib.hid (HB3.out.trans (HB.out.mono HB3.out.size))
    change Exit.then _ _ _ _ (mB w3 (iR x A cap) (gR x.rg))
    generalize mB w3 (iR x A cap) (gR x.rg) = W at *
    clear HB MA MB KP HU3 HV3 HR3 HB3
    have hN : w.heap.size + 3 = w3.heap.size := HN3.out.symm
    clear HN3
    generalize w3.heap.size = N at *
    have k0 : W.cell? ⟨(N + 1), 0, none⟩ = some (.int .i64 x.op) := HI.out.cell 0
    have k1 : W.cell? ⟨(N + 1), 1, none⟩ = some (.int .i64 x.a) := HI.out.cell 1
    have k2 : W.cell? ⟨(N + 1), 2, none⟩ = some (.int .i64 x.b) := HI.out.cell 2
    have k3 : W.cell? ⟨(N + 1), 3, none⟩ = some (.int .i64 x.c) := HI.out.cell 3
    have k4 : W.cell? ⟨(N + 1), 4, none⟩ = some (.slice A x.cs.length cap) := HI.out.cell 4
    have v1 : W.cell? ⟨w.heap.size + 1, 1, none⟩ = some (.int .i64 (kase : Int)) := HW.out.cell 1
    have v2 : W.cell? ⟨w.heap.size + 1, 2, none⟩ = some (.int .i64 value) := HW.out.cell 2
    have v3 : W.cell? ⟨w.heap.size + 1, 3, none⟩ = some (.bool false) := HW.out.cell 3
    rw [hop] at k0
    rw [ea] at k1
    rw [eb] at k2
    rw [ec] at k3
    go_wp2_with (first
      | (refine wp_stI rfl (.tmp 21) (.tmp 20) rfl rfl rfl HG.out (by rw [gR_size]; omega) ?_; have HI2 := Lib.hid (HI.out.set_other (i := na) (a := N) (by omega) (.int .i64 (kase : Int))); have HW2 := Lib.hid (HW.out.set_other (i := na) (a := N) (by omega) (.int .i64 (kase : Int))); have HR2 := Lib.hid (HR.out.set_other (i := na) (a := N) (by omega) (.int .i64 (kase : Int))); have HBW2 := Lib.hid (below_set (i := na) (a := N) HBW.out (by omega) (.int .i64 (kase : Int))); have HG2 := HG.out.set na (.int .i64 (kase : Int)); rw [gR_set _ (by omega)] at HG2; replace HG2 := Lib.hid HG2; clear HI HW HR HBW HG; have HI := HI2; have HW := HW2; have HR := HR2; have HBW := HBW2; have HG := HG2; clear HI2 HW2 HR2 HBW2 HG2; clear k0 k1 k2 k3 k4 v1 v2 v3; generalize W.setCell ⟨N, na, none⟩ (.int .i64 (kase : Int)) = W1 at *; have k0 : W1.cell? ⟨(N + 1), 0, none⟩ = some (.int .i64 x.op) := HI.out.cell 0; have k1 : W1.cell? ⟨(N + 1), 1, none⟩ = some (.int .i64 x.a) := HI.out.cell 1; have k2 : W1.cell? ⟨(N + 1), 2, none⟩ = some (.int .i64 x.b) := HI.out.cell 2; have k3 : W1.cell? ⟨(N + 1), 3, none⟩ = some (.int .i64 x.c) := HI.out.cell 3; have k4 : W1.cell? ⟨(N + 1), 4, none⟩ = some (.slice A x.cs.length cap) := HI.out.cell 4; have v1 : W1.cell? ⟨w.heap.size + 1, 1, none⟩ = some (.int .i64 (kase : Int)) := HW.out.cell 1; have v2 : W1.cell? ⟨w.heap.size + 1, 2, none⟩ = some (.int .i64 value) := HW.out.cell 2; have v3 : W1.cell? ⟨w.heap.size + 1, 3, none⟩ = some (.bool false) := HW.out.cell 3; rw [hop] at k0; rw [ea] at k1; rw [eb] at k2; rw [ec] at k3))
    refine (recv_at W1 kase (HRD.out.later HBW.out) HKC.out).mono ?_
    rintro e' w' ⟨rfl, rfl⟩
    go_wp2_with (first
      | (refine wp_stI rfl (.tmp 32) (.tmp 31) rfl rfl rfl HG.out (by rw [gR_size]; omega) ?_; have HI2 := Lib.hid (HI.out.set_other (i := nb) (a := N) (by omega) (.int .i64 value)); have HW2 := Lib.hid (HW.out.set_other (i := nb) (a := N) (by omega) (.int .i64 value)); have HR2 := Lib.hid (HR.out.set_other (i := nb) (a := N) (by omega) (.int .i64 value)); have HBW2 := Lib.hid (below_set (i := nb) (a := N) HBW.out (by omega) (.int .i64 value)); have HG2 := HG.out.set nb (.int .i64 value); rw [gR_set _ (by omega)] at HG2; replace HG2 := Lib.hid HG2; clear HI HW HR HBW HG; have HI := HI2; have HW := HW2; have HR := HR2; have HBW := HBW2; have HG := HG2; clear HI2 HW2 HR2 HBW2 HG2; clear k0 k1 k2 k3 k4 v1 v2 v3; generalize W1.setCell ⟨N, nb, none⟩ (.int .i64 value) = W2 at *; have k0 : W2.cell? ⟨(N + 1), 0, none⟩ = some (.int .i64 x.op) := HI.out.cell 0; have k1 : W2.cell? ⟨(N + 1), 1, none⟩ = some (.int .i64 x.a) := HI.out.cell 1; have k2 : W2.cell? ⟨(N + 1), 2, none⟩ = some (.int .i64 x.b) := HI.out.cell 2; have k3 : W2.cell? ⟨(N + 1), 3, none⟩ = some (.int .i64 x.c) := HI.out.cell 3; have k4 : W2.cell? ⟨(N + 1), 4, none⟩ = some (.slice A x.cs.length cap) := HI.out.cell 4; have v1 : W2.cell? ⟨w.heap.size + 1, 1, none⟩ = some (.int .i64 (kase : Int)) := HW.out.cell 1; have v2 : W2.cell? ⟨w.heap.size + 1, 2, none⟩ = some (.int .i64 value) := HW.out.cell 2; have v3 : W2.cell? ⟨w.heap.size + 1, 3, none⟩ = some (.bool false) := HW.out.cell 3; rw [hop] at k0; rw [ea] at k1; rw [eb] at k2; rw [ec] at k3)
      | (refine wp_stI rfl (.tmp 35) (.const (.int .i64 0)) rfl rfl rfl HG.out (by rw [gR_size]; omega) ?_; have HI2 := Lib.hid (HI.out.set_other (i := nc) (a := N) (by omega) (.int .i64 0)); have HW2 := Lib.hid (HW.out.set_other (i := nc) (a := N) (by omega) (.int .i64 0)); have HR2 := Lib.hid (HR.out.set_other (i := nc) (a := N) (by omega) (.int .i64 0)); have HBW2 := Lib.hid (below_set (i := nc) (a := N) HBW.out (by omega) (.int .i64 0)); have HG2 := HG.out.set nc (.int .i64 0); rw [gR_set _ (by omega)] at HG2; replace HG2 := Lib.hid HG2; clear HI HW HR HBW HG; have HI := HI2; have HW := HW2; have HR := HR2; have HBW := HBW2; have HG := HG2; clear HI2 HW2 HR2 HBW2 HG2; clear k0 k1 k2 k3 k4 v1 v2 v3; generalize W2.setCell ⟨N, nc, none⟩ (.int .i64 0) = W3 at *; have k0 : W3.cell? ⟨(N + 1), 0, none⟩ = some (.int .i64 x.op) := HI.out.cell 0; have k1 : W3.cell? ⟨(N + 1), 1, none⟩ = some (.int .i64 x.a) := HI.out.cell 1; have k2 : W3.cell? ⟨(N + 1), 2, none⟩ = some (.int .i64 x.b) := HI.out.cell 2; have k3 : W3.cell? ⟨(N + 1), 3, none⟩ = some (.int .i64 x.c) := HI.out.cell 3; have k4 : W3.cell? ⟨(N + 1), 4, none⟩ = some (.slice A x.cs.length cap) := HI.out.cell 4; have v1 : W3.cell? ⟨w.heap.size + 1, 1, none⟩ = some (.int .i64 (kase : Int)) := HW.out.cell 1; have v2 : W3.cell? ⟨w.heap.size + 1, 2, none⟩ = some (.int .i64 value) := HW.out.cell 2; have v3 : W3.cell? ⟨w.heap.size + 1, 3, none⟩ = some (.bool false) := HW.out.cell 3; rw [hop] at k0; rw [ea] at k1; rw [eb] at k2; rw [ec] at k3)
      | (refine wp_ldB rfl (.tmp 6) rfl rfl HG.out Tryd.underlying30 rfl i30 ?_)
      | (refine wp_stB rfl (.tmp 4) (.tmp 41) rfl rfl rfl HR.out rfl i30 (gR_one _) ?_))
    refine bodyPost_ret (v := .agg (gR (upd (upd (upd x.rg na (kase : Int)) nb value) nc 0))) ?_ rfl ⟨rfl, below_row HBW.out (by omega) _⟩
    exact results_cell_row (p := 4) (ty := 30) rfl _ _ (w.heap.size + 2) 30 (gR (upd (upd (upd x.rg na (kase : Int)) nb value) nc 0)) (0, 0) _ rfl (HR.out.row _) Tryd.underlying30 rfl i30
end Go.Proofs.YthiifnbgdajgaaaDoor
