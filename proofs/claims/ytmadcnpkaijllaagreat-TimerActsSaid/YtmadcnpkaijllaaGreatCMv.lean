/- The document's own channel: Wait. Conditions: each theorem's own premises. -/
import Derived.Test.YtmadcnpkaijllaaGreatCMw
import Derived.Deep.RegionHeld3
namespace Go.Proofs.YtmadcnpkaijllaaGreat.Ch
open Go.RowKit
set_option linter.unusedVariables false
set_option maxRecDepth 100000

theorem heap_e1 (w : World) : (w.alloc (.cells #[] 87)).heap[w.heap.size]? = some (.cells #[] 87 (0, 0)) := heap_alloc_new _ _
theorem heap_e2 (w : World) (o : Obj) : ((w.alloc (.cells #[] 87)).alloc o).heap[w.heap.size]? = some (.cells #[] 87 (0, 0)) := (Below.heap_alloc _ _ _ (by simp)).trans (heap_alloc_new _ _)
theorem heap_e3 (w : World) (o : Obj) : ((w.alloc o).alloc (.cells #[] 87)).heap[w.heap.size + 1]? = some (.cells #[] 87 (0, 0)) := by
  have := heap_alloc_new (w.alloc o) (.cells #[] 87)
  rw [World.size_alloc] at this
  exact this
theorem own_e {wx : World} {base N : Nat} (hN : wx.heap[N]? = some (.cells #[] 87 (0, 0))) (h : base ≤ N) : wx.ownsRow base 87 3 (.slice (some ⟨N, 0, none⟩) 0 0) 0 [] :=
  ⟨rfl, .inr ⟨N, 0, #[], rfl, h, hN, Nat.le_refl _, by unfold maxLen; omega, rfl, rfl⟩⟩
theorem own_heap {w w' : World} {base e s n : Nat} {v : Value} {xs : List Value} (h : w.ownsRow base e s v n xs) (hh : ∀ (k : Nat) (o : Obj), w.heap[k]? = some o → w'.heap[k]? = some o) : w'.ownsRow base e s v n xs :=
  ⟨h.1, h.2.imp id fun ⟨g, cap, cur, q1, q2, q3, q4⟩ => ⟨g, cap, cur, q1, q2, hh _ _ q3, q4⟩⟩

section
variable {w2 wx : World} {ops : Array Oper} {o : Oper} {a : Act} {K : Act → World → Prop} {Q : Exit → Act → World → Prop} {E : Prop}
/-- The copy. -/
theorem step_copy (hgd : o.guard = none) (s x : Operand) (hop : o.op = .call { callee := .builtin .append, args := #[s, x], argTypes := #[132, 132] })
    (N : Nat) (A : Option Addr) (m c : Nat) (l : List Wt) (hv : a.eval s = .slice (some ⟨N, 0, none⟩) 0 0) (hx : a.eval x = .slice A m c)
    (hN : wx.heap[N]? = some (.cells #[] 87 (0, 0))) (hle : w2.heap.size ≤ N) (hb : Below w2.heap.size w2 wx) (hr : RdW w2 A m l) (hm : m ≤ 1000)
    (hK : ∀ v' w', w'.ownsRow w2.heap.size 87 3 v' m (flW l) → Below w2.heap.size w2 w' → wx.grownBy w' (some N) → K (a.put o.dst v') w') :
    if Region.wanted o (yielded ops a.tmps) = true then Oper.wp Tryz.prog o a wx K Q else E := by
  obtain ⟨i0, hi, hz0, hz1, hz2⟩ := info_parts inf30
  have hE := own_e hN hle
  refine step_app hgd s x 132 hop w2.heap.size 87 3 24 i0 _ Tryz.underlying132 hi hz0 hz1 hz2 rfl (by decide) _ 0 [] hv hE _ A m c (flW l) hx (hr.later hb).2 (flW_one _) (by unfold maxLen; omega) (by omega) hb.size fun v' w' ho hg => ?_
  rw [Nat.zero_add, List.nil_append] at ho
  exact hK v' w' ho (below_app hb (Nat.le_refl _) hb.size hE hg) hg
/-- More behind it. -/
theorem step_more (hgd : o.guard = none) (s x : Operand) (hop : o.op = .call { callee := .builtin .append, args := #[s, x], argTypes := #[132, 132] })
    (v : Value) (A : Option Addr) (n m c : Nat) (l l' : List Wt) (hv : a.eval s = v) (hx : a.eval x = .slice A m c)
    (ho : wx.ownsRow w2.heap.size 87 3 v n (flW l)) (hb : Below w2.heap.size w2 wx) (hr : RdW wx A m l') (hn : n ≤ 1000) (hm : m ≤ 1000)
    (hK : ∀ v' w', w'.ownsRow w2.heap.size 87 3 v' (n + m) (flW (l ++ l')) → Below w2.heap.size w2 w' → K (a.put o.dst v') w') :
    if Region.wanted o (yielded ops a.tmps) = true then Oper.wp Tryz.prog o a wx K Q else E := by
  obtain ⟨i0, hi, hz0, hz1, hz2⟩ := info_parts inf30
  refine step_app hgd s x 132 hop w2.heap.size 87 3 24 i0 _ Tryz.underlying132 hi hz0 hz1 hz2 rfl (by decide) _ n (flW l) hv ho _ A m c (flW l') hx hr.2 (flW_one _) (by unfold maxLen; omega) (by omega) hb.size fun v' w' ho' hg => ?_
  rw [← flW_app] at ho'
  exact hK v' w' ho' (below_app hb (Nat.le_refl _) hb.size ho hg)
end
/-- One wait in a new block. -/
theorem rd_one (w : World) (x : Wt) : RdW (w.alloc (.cells #[.int .i64 x.t, .int .i64 x.c, .int .i64 x.v] 87)) (some ⟨w.heap.size, 0, none⟩) 1 [x] := ⟨rfl, Rd.one w x _ rfl⟩
theorem rd_blk {w : World} {N : Nat} {x : Wt} (h : w.heap[N]? = some (.cells #[.int .i64 x.t, .int .i64 x.c, .int .i64 x.v] 87 (0, 0))) : RdW w (some ⟨N, 0, none⟩) 1 [x] := by
  refine ⟨rfl, rfl, fun _ => ⟨N, 0, rfl, lt_of_blk h, fun j u hu => ?_⟩⟩
  rw [Nat.zero_add, cell_of_row w N j _ _ _ h]
  simpa [flW, wV] using hu
theorem heap_w1 (w : World) (o : Obj) : (w.alloc o).heap[w.heap.size]? = some o := heap_alloc_new _ _
theorem heap_w2 (w : World) (o o2 : Obj) : ((w.alloc o).alloc o2).heap[w.heap.size]? = some o := (Below.heap_alloc _ _ _ (by simp)).trans (heap_alloc_new _ _)
theorem heap_w3 (w : World) (o o2 : Obj) : ((w.alloc o).alloc o2).heap[w.heap.size + 1]? = some o2 := by
  have := heap_alloc_new (w.alloc o) o2
  rw [World.size_alloc] at this
  exact this
theorem kept {w w' : World} {N k : Nat} {o : Obj} (hg : w.grownBy w' (some N)) (hk : w.heap[k]? = some o) (hne : k ≠ N) : w'.heap[k]? = some o := (hg.block k (lt_of_blk hk) (fun e => hne (by cases e; rfl))).trans hk

theorem okN_nn {ok : Nat → Prop} {N m : Nat} (h : ¬ ok m) (hm : m < N) : ¬ okN ok N m := fun hn => by rcases hn with hn | hn; exact h hn; omega
def MwR (ok : Nat → Prop) (m : Nat) (g : CS × Int) (w : World) (e : Ending) (w' : World) : Prop := e = .returned (.int .i64 g.2) ∧ Mo ok m g.1 w w'
section
variable {w : World} {ok : Nat → Prop} {m : Nat} {s : CS}
set_option maxRecDepth 100000 in
set_option maxHeartbeats 8000000 in
theorem mwait_send (x : Wt) (h : MD w ok m s) (hk : s.kd = 0) (hc : s.cl = false) (hf : ¬ s.l.length < s.sz) (hm : meet x.t s.rs = false) (hn : s.ss.length ≤ 1000) (hn2 : s.rs.length ≤ 1000) (hl : s.l.length ≤ 1000) : Calls Tryz.prog 32 #[.pointer (some ⟨m, 0, none⟩), wG x, .bool true] w (MwR ok m ({ s with ss := s.ss ++ [x] }, 0) w) := by
  obtain ⟨b, q, r, hx⟩ := h
  have hml := hx.lt
  have HX0 := Lib.hid hx
  have HX2 := Lib.hid (hx.later (below_al w (.cells #[.int .i64 x.t, .int .i64 x.c, .int .i64 x.v] 87)))
  have HA2 : Hid ((w.alloc (.cells #[.int .i64 x.t, .int .i64 x.c, .int .i64 x.v] 87)).heap[w.heap.size]? = some (.cells #[.int .i64 x.t, .int .i64 x.c, .int .i64 x.v] 87 (0, 0))) := heap_alloc_new _ _
  have HB2 := Lib.hid (below_al w (.cells #[.int .i64 x.t, .int .i64 x.c, .int .i64 x.v] 87))
  have hN2 := lt_of_blk HA2.out
  obtain ⟨N, hNe⟩ : ∃ N, w.heap.size = N := ⟨_, rfl⟩
  rw [hNe] at hN2
  clear hx
  unfold wG
  go_enter Tryz.func32, Tryz.ntmps32
  go_upto_region 2 with (fail)
  have HA2 : Hid ((w.alloc (.cells #[.int .i64 x.t, .int .i64 x.c, .int .i64 x.v] 87)).heap[N]? = some (.cells #[.int .i64 x.t, .int .i64 x.c, .int .i64 x.v] 87 (0, 0))) := by rw [← hNe]; exact HA2.out
  have HN := Lib.hid hNe
  clear hNe
  generalize w.alloc (.cells #[.int .i64 x.t, .int .i64 x.c, .int .i64 x.v] 87) = w2 at *
  have p3 : ¬ (s.l.length : Int) < (s.sz : Int) := by omega
  have p4 : decide (s.l.length < s.sz) = false := decide_eq_false hf
  have c0 := HX2.out.c0
  have c3 : w2.cell? ⟨m, 3, none⟩ = some (.bool false) := HX2.out.k3 hc
  have c4 := HX2.out.c4
  have c5 := HX2.out.c5
  have c6 := HX2.out.c6
  have a0 := cell_of_row w2 N 0 _ _ _ HA2.out
  have a1 := cell_of_row w2 N 1 _ _ _ HA2.out
  have a2 := cell_of_row w2 N 2 _ _ _ HA2.out
  simp only [List.getElem?_toArray, List.getElem?_cons_succ, List.getElem?_cons_zero] at a0 a1 a2
  have c1 : w2.cell? ⟨m, 1, none⟩ = some (.bool false) := HX2.out.k1 hk
  have c2 : w2.cell? ⟨m, 2, none⟩ = some (.bool false) := HX2.out.k2 hk
  have HO : Hid (∀ n, Calls Tryz.prog 70 #[.slice r.1 s.rs.length r.2, .int .i64 x.t] (w2.drewN n) fun e w' => e = .returned (.bool false) ∧ w' = w2.drewN n) := by
    intro n
    rw [← hm]
    exact (others_any x.t ⟨rfl, (HX2.out.rr.later (below_drewN (Below.refl _ _) n)).rd⟩ (by omega)).mono fun _ _ h => ⟨h.1, h.2.symm⟩
  go_wp2_with fail
  go_quiet (exact Calls.quiet_of_same (HO.out _))
  have HX3 := Lib.hid (HX2.out.later (below_drewN (Below.refl _ _) nq))
  have HA3 : Hid ((w2.drewN nq).heap[N]? = some (.cells #[.int .i64 x.t, .int .i64 x.c, .int .i64 x.v] 87 (0, 0))) := HA2.out
  have HB3 : Hid (Below w.heap.size w (w2.drewN nq)) := below_drewN HB2.out nq
  have hN3 : N < (w2.drewN nq).heap.size := hN2
  clear c0 c3 c4 c5 c6 a0 a1 a2 c1 c2 HX2 HA2 HB2 hN2
  generalize w2.drewN nq = w3 at *
  clear HO
  have c0 := HX3.out.c0
  have c3 : w3.cell? ⟨m, 3, none⟩ = some (.bool false) := HX3.out.k3 hc
  have c4 := HX3.out.c4
  have c5 := HX3.out.c5
  have c6 := HX3.out.c6
  have a0 := cell_of_row w3 N 0 _ _ _ HA3.out
  have a1 := cell_of_row w3 N 1 _ _ _ HA3.out
  have a2 := cell_of_row w3 N 2 _ _ _ HA3.out
  simp only [List.getElem?_toArray, List.getElem?_cons_succ, List.getElem?_cons_zero] at a0 a1 a2
  have c1 : w3.cell? ⟨m, 1, none⟩ = some (.bool false) := HX3.out.k1 hk
  have c2 : w3.cell? ⟨m, 2, none⟩ = some (.bool false) := HX3.out.k2 hk
  go_wp2_with fail
  go_quiet (fail)
  have HX4 := Lib.hid (HX3.out.later (below_drewN (Below.refl _ _) nq))
  have HA4 : Hid ((w3.drewN nq).heap[N]? = some (.cells #[.int .i64 x.t, .int .i64 x.c, .int .i64 x.v] 87 (0, 0))) := HA3.out
  have HB4 : Hid (Below w.heap.size w (w3.drewN nq)) := below_drewN HB3.out nq
  have hN4 : N < (w3.drewN nq).heap.size := hN3
  clear c0 c3 c4 c5 c6 a0 a1 a2 c1 c2 HX3 HA3 HB3 hN3
  generalize w3.drewN nq = w4 at *
  have c0 := HX4.out.c0
  have c3 : w4.cell? ⟨m, 3, none⟩ = some (.bool false) := HX4.out.k3 hc
  have c4 := HX4.out.c4
  have c5 := HX4.out.c5
  have c6 := HX4.out.c6
  have a0 := cell_of_row w4 N 0 _ _ _ HA4.out
  have a1 := cell_of_row w4 N 1 _ _ _ HA4.out
  have a2 := cell_of_row w4 N 2 _ _ _ HA4.out
  simp only [List.getElem?_toArray, List.getElem?_cons_succ, List.getElem?_cons_zero] at a0 a1 a2
  have c1 : w4.cell? ⟨m, 1, none⟩ = some (.bool false) := HX4.out.k1 hk
  have c2 : w4.cell? ⟨m, 2, none⟩ = some (.bool false) := HX4.out.k2 hk
  clear hm hc hf hk
  go_wp2_with fail
  have f4 := HX4.out.fz 5
  have hl4 := HX4.out.lt
  go_region_law (first
    | (refine step_copy (w2 := w4) rfl (.tmp 86) (.tmp 90) rfl _ q.1 s.ss.length q.2 s.ss rfl rfl (by first | exact heap_e1 _ | exact heap_e2 _ _ | exact heap_e3 _ _) (by first | omega | (simp <;> omega)) (by repeat' (first | exact Below.refl _ _ | (with_reducible assumption) | refine Below.drew ?_ | refine Below.alloc ?_ (by first | omega | (simp <;> omega)) _)) ⟨rfl, HX4.out.rq.rd⟩ (by omega) ?_; intro v6 w6 ho6 hb6 hg6; have hs6 := hb6.size; have HO6 := Lib.hid ho6; have hx6 := HX4.out.later hb6; have e6 := (hb6.block N hN4).trans HA4.out; have a06 := cell_of_row w6 N 0 _ _ _ e6; have a16 := cell_of_row w6 N 1 _ _ _ e6; have a26 := cell_of_row w6 N 2 _ _ _ e6; simp only [List.getElem?_toArray, List.getElem?_cons_succ, List.getElem?_cons_zero] at a06 a16 a26; have hN6 := lt_of_blk e6; clear ho6 hx6 e6)
    | (refine step_more (w2 := w4) rfl (.tmp 91) (.tmp 93) rfl v6 _ s.ss.length 1 1 s.ss [x] rfl rfl (HO6.out.alloc _) (Below.alloc hb6 (by first | omega | (simp <;> omega)) _) (rd_one w6 x) (by omega) (by omega) ?_; intro v7 w7 ho7 hb7; obtain ⟨A5, k5, hv5, _, _⟩ := own_cap ho7; subst hv5; have hx7 := HX4.out.later hb7; have f7 := hx7.fz 5; have hl7 := hx7.lt; have c7 := hx7.c5; have HS : Hid (Mo ok m { s with ss := s.ss ++ [x] } w (w7.setCell ⟨m, 5, none⟩ (.slice A5 (s.ss.length + 1) k5))) := (by have h9 := (hx7.mono (ok' := okN ok w.heap.size) (fun b _ ho => .inl ho) (okN_nn HX0.out.no hml)).setQ (l := s.ss ++ [x]) (q' := (A5, k5)) (Ro.of_own (by rw [List.length_append]; exact ho7) (fun b hb => .inr (Nat.le_trans HB4.out.size hb))); rw [List.length_append] at h9; exact ⟨⟨_, _, _, h9⟩, ((Tn.of_below (F := fun k => k = m) (HB4.out.trans (hb7.mono HB4.out.size))).set (.inl rfl) _)⟩); clear ho7 hx7 c4 c5 c6)
    | (refine step_more (w2 := w4) rfl (.tmp 91) (.tmp 93) rfl v6 _ s.ss.length 1 1 s.ss [x] rfl rfl HO6.out hb6 (rd_blk (x := x) (kept hg6 (by first | exact heap_w2 _ _ _ | exact heap_w3 _ _ _) (by first | omega | (simp <;> omega)))) (by omega) (by omega) ?_; intro v7 w7 ho7 hb7; obtain ⟨A5, k5, hv5, _, _⟩ := own_cap ho7; subst hv5; have hx7 := HX4.out.later hb7; have f7 := hx7.fz 5; have hl7 := hx7.lt; have c7 := hx7.c5; have HS : Hid (Mo ok m { s with ss := s.ss ++ [x] } w (w7.setCell ⟨m, 5, none⟩ (.slice A5 (s.ss.length + 1) k5))) := (by have h9 := (hx7.mono (ok' := okN ok w.heap.size) (fun b _ ho => .inl ho) (okN_nn HX0.out.no hml)).setQ (l := s.ss ++ [x]) (q' := (A5, k5)) (Ro.of_own (by rw [List.length_append]; exact ho7) (fun b hb => .inr (Nat.le_trans HB4.out.size hb))); rw [List.length_append] at h9; exact ⟨⟨_, _, _, h9⟩, ((Tn.of_below (F := fun k => k = m) (HB4.out.trans (hb7.mono HB4.out.size))).set (.inl rfl) _)⟩); clear ho7 hx7 c4 c5 c6))
  all_goals
    go_wp2_with fail
    go_ret
    exact ⟨rfl, HS.out⟩
set_option maxRecDepth 100000 in
set_option maxHeartbeats 8000000 in
theorem mwait_recv (x : Wt) (h : MD w ok m s) (hc : s.cl = false) (hf : s.l = []) (hm : meet x.t s.ss = false) (hn : s.ss.length ≤ 1000) (hn2 : s.rs.length ≤ 1000) (hl : s.l.length ≤ 1000) : Calls Tryz.prog 32 #[.pointer (some ⟨m, 0, none⟩), wG x, .bool false] w (MwR ok m ({ s with rs := s.rs ++ [x] }, 0) w) := by
  obtain ⟨b, q, r, hx⟩ := h
  have hml := hx.lt
  have HX0 := Lib.hid hx
  have HX2 := Lib.hid (hx.later (below_al w (.cells #[.int .i64 x.t, .int .i64 x.c, .int .i64 x.v] 87)))
  have HA2 : Hid ((w.alloc (.cells #[.int .i64 x.t, .int .i64 x.c, .int .i64 x.v] 87)).heap[w.heap.size]? = some (.cells #[.int .i64 x.t, .int .i64 x.c, .int .i64 x.v] 87 (0, 0))) := heap_alloc_new _ _
  have HB2 := Lib.hid (below_al w (.cells #[.int .i64 x.t, .int .i64 x.c, .int .i64 x.v] 87))
  have hN2 := lt_of_blk HA2.out
  obtain ⟨N, hNe⟩ : ∃ N, w.heap.size = N := ⟨_, rfl⟩
  rw [hNe] at hN2
  clear hx
  unfold wG
  go_enter Tryz.func32, Tryz.ntmps32
  go_upto_region 2 with (fail)
  have HA2 : Hid ((w.alloc (.cells #[.int .i64 x.t, .int .i64 x.c, .int .i64 x.v] 87)).heap[N]? = some (.cells #[.int .i64 x.t, .int .i64 x.c, .int .i64 x.v] 87 (0, 0))) := by rw [← hNe]; exact HA2.out
  have HN := Lib.hid hNe
  clear hNe
  generalize w.alloc (.cells #[.int .i64 x.t, .int .i64 x.c, .int .i64 x.v] 87) = w2 at *
  have c0 := HX2.out.c0
  have c3 : w2.cell? ⟨m, 3, none⟩ = some (.bool false) := HX2.out.k3 hc
  have c4 := HX2.out.c4
  have c5 := HX2.out.c5
  have c6 := HX2.out.c6
  have a0 := cell_of_row w2 N 0 _ _ _ HA2.out
  have a1 := cell_of_row w2 N 1 _ _ _ HA2.out
  have a2 := cell_of_row w2 N 2 _ _ _ HA2.out
  simp only [List.getElem?_toArray, List.getElem?_cons_succ, List.getElem?_cons_zero] at a0 a1 a2
  rw [hf, List.length_nil] at c4
  go_wp2_with fail
  go_quiet (fail)
  have HX3 := Lib.hid (HX2.out.later (below_drewN (Below.refl _ _) nq))
  have HA3 : Hid ((w2.drewN nq).heap[N]? = some (.cells #[.int .i64 x.t, .int .i64 x.c, .int .i64 x.v] 87 (0, 0))) := HA2.out
  have HB3 : Hid (Below w.heap.size w (w2.drewN nq)) := below_drewN HB2.out nq
  have hN3 : N < (w2.drewN nq).heap.size := hN2
  clear c0 c3 c4 c5 c6 a0 a1 a2 HX2 HA2 HB2 hN2
  generalize w2.drewN nq = w3 at *
  have c0 := HX3.out.c0
  have c3 : w3.cell? ⟨m, 3, none⟩ = some (.bool false) := HX3.out.k3 hc
  have c4 := HX3.out.c4
  have c5 := HX3.out.c5
  have c6 := HX3.out.c6
  have a0 := cell_of_row w3 N 0 _ _ _ HA3.out
  have a1 := cell_of_row w3 N 1 _ _ _ HA3.out
  have a2 := cell_of_row w3 N 2 _ _ _ HA3.out
  simp only [List.getElem?_toArray, List.getElem?_cons_succ, List.getElem?_cons_zero] at a0 a1 a2
  rw [hf, List.length_nil] at c4
  have HO : Hid (∀ n, Calls Tryz.prog 70 #[.slice q.1 s.ss.length q.2, .int .i64 x.t] (w3.drewN n) fun e w' => e = .returned (.bool false) ∧ w' = w3.drewN n) := by
    intro n
    rw [← hm]
    exact (others_any x.t ⟨rfl, (HX3.out.rq.later (below_drewN (Below.refl _ _) n)).rd⟩ (by omega)).mono fun _ _ h => ⟨h.1, h.2.symm⟩
  go_wp2_with fail
  go_quiet (exact Calls.quiet_of_same (HO.out _))
  have HX4 := Lib.hid (HX3.out.later (below_drewN (Below.refl _ _) nq))
  have HA4 : Hid ((w3.drewN nq).heap[N]? = some (.cells #[.int .i64 x.t, .int .i64 x.c, .int .i64 x.v] 87 (0, 0))) := HA3.out
  have HB4 : Hid (Below w.heap.size w (w3.drewN nq)) := below_drewN HB3.out nq
  have hN4 : N < (w3.drewN nq).heap.size := hN3
  clear c0 c3 c4 c5 c6 a0 a1 a2 HX3 HA3 HB3 hN3
  generalize w3.drewN nq = w4 at *
  clear HO
  have c0 := HX4.out.c0
  have c3 : w4.cell? ⟨m, 3, none⟩ = some (.bool false) := HX4.out.k3 hc
  have c4 := HX4.out.c4
  have c5 := HX4.out.c5
  have c6 := HX4.out.c6
  have a0 := cell_of_row w4 N 0 _ _ _ HA4.out
  have a1 := cell_of_row w4 N 1 _ _ _ HA4.out
  have a2 := cell_of_row w4 N 2 _ _ _ HA4.out
  simp only [List.getElem?_toArray, List.getElem?_cons_succ, List.getElem?_cons_zero] at a0 a1 a2
  rw [hf, List.length_nil] at c4
  clear hm hc hf
  go_wp2_with fail
  have f4 := HX4.out.fz 6
  have hl4 := HX4.out.lt
  go_region_law (first
    | (refine step_copy (w2 := w4) rfl (.tmp 8) (.tmp 12) rfl _ r.1 s.rs.length r.2 s.rs rfl rfl (by first | exact heap_e1 _ | exact heap_e2 _ _ | exact heap_e3 _ _) (by first | omega | (simp <;> omega)) (by repeat' (first | exact Below.refl _ _ | (with_reducible assumption) | refine Below.drew ?_ | refine Below.alloc ?_ (by first | omega | (simp <;> omega)) _)) ⟨rfl, HX4.out.rr.rd⟩ (by omega) ?_; intro v6 w6 ho6 hb6 hg6; have hs6 := hb6.size; have HO6 := Lib.hid ho6; have hx6 := HX4.out.later hb6; have e6 := (hb6.block N hN4).trans HA4.out; have a06 := cell_of_row w6 N 0 _ _ _ e6; have a16 := cell_of_row w6 N 1 _ _ _ e6; have a26 := cell_of_row w6 N 2 _ _ _ e6; simp only [List.getElem?_toArray, List.getElem?_cons_succ, List.getElem?_cons_zero] at a06 a16 a26; have hN6 := lt_of_blk e6; clear ho6 hx6 e6)
    | (refine step_more (w2 := w4) rfl (.tmp 13) (.tmp 15) rfl v6 _ s.rs.length 1 1 s.rs [x] rfl rfl (HO6.out.alloc _) (Below.alloc hb6 (by first | omega | (simp <;> omega)) _) (rd_one w6 x) (by omega) (by omega) ?_; intro v7 w7 ho7 hb7; obtain ⟨A5, k5, hv5, _, _⟩ := own_cap ho7; subst hv5; have hx7 := HX4.out.later hb7; have f7 := hx7.fz 6; have hl7 := hx7.lt; have c7 := hx7.c6; have HS : Hid (Mo ok m { s with rs := s.rs ++ [x] } w (w7.setCell ⟨m, 6, none⟩ (.slice A5 (s.rs.length + 1) k5))) := (by have h9 := (hx7.mono (ok' := okN ok w.heap.size) (fun b _ ho => .inl ho) (okN_nn HX0.out.no hml)).setR (l := s.rs ++ [x]) (r' := (A5, k5)) (Ro.of_own (by rw [List.length_append]; exact ho7) (fun b hb => .inr (Nat.le_trans HB4.out.size hb))); rw [List.length_append] at h9; exact ⟨⟨_, _, _, h9⟩, ((Tn.of_below (F := fun k => k = m) (HB4.out.trans (hb7.mono HB4.out.size))).set (.inl rfl) _)⟩); clear ho7 hx7 c4 c5 c6)
    | (refine step_more (w2 := w4) rfl (.tmp 13) (.tmp 15) rfl v6 _ s.rs.length 1 1 s.rs [x] rfl rfl HO6.out hb6 (rd_blk (x := x) (kept hg6 (by first | exact heap_w2 _ _ _ | exact heap_w3 _ _ _) (by first | omega | (simp <;> omega)))) (by omega) (by omega) ?_; intro v7 w7 ho7 hb7; obtain ⟨A5, k5, hv5, _, _⟩ := own_cap ho7; subst hv5; have hx7 := HX4.out.later hb7; have f7 := hx7.fz 6; have hl7 := hx7.lt; have c7 := hx7.c6; have HS : Hid (Mo ok m { s with rs := s.rs ++ [x] } w (w7.setCell ⟨m, 6, none⟩ (.slice A5 (s.rs.length + 1) k5))) := (by have h9 := (hx7.mono (ok' := okN ok w.heap.size) (fun b _ ho => .inl ho) (okN_nn HX0.out.no hml)).setR (l := s.rs ++ [x]) (r' := (A5, k5)) (Ro.of_own (by rw [List.length_append]; exact ho7) (fun b hb => .inr (Nat.le_trans HB4.out.size hb))); rw [List.length_append] at h9; exact ⟨⟨_, _, _, h9⟩, ((Tn.of_below (F := fun k => k = m) (HB4.out.trans (hb7.mono HB4.out.size))).set (.inl rfl) _)⟩); clear ho7 hx7 c4 c5 c6))
  all_goals
    go_wp2_with fail
    go_ret
    exact ⟨rfl, HS.out⟩
end
end Go.Proofs.YtmadcnpkaijllaaGreat.Ch
