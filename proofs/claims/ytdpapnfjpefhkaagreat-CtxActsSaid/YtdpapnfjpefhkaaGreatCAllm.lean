/- All tells all in order, in a row of its own: Waiting; the laws' own helpers Waits and Round. Conditions: each theorem's own premises.
Wait puts a task behind those who wait. Conditions: each theorem's own premises.
shut closes and wakes all who wait, each task once: Close, End. Conditions: each theorem's own premises.
shut walked; Close, End. Conditions: each theorem's own premises.
Close, End; every call on no channel. Conditions: each theorem's own premises.
Several channels of a law's own, side by side, and what each call does among them. Conditions: each theorem's own premises. -/
import Derived.Test.YtdpapnfjpefhkaaGreatCRow
import Derived.Test.YtdpapnfjpefhkaaGreatCCtrm
namespace Go.Proofs.YtdpapnfjpefhkaaGreat.Ch
open Go.RowKit
set_option linter.unusedVariables false
set_option maxRecDepth 100000
theorem inf30 : (Tryz.prog.info? 103).map (fun i => (i.zero, i.size, i.bytes)) = some (some (.agg #[.int .i64 0, .int .i64 0, .int .i64 0]), 3, 24) := by kernel_rfl
theorem grow_blk {w w' : World} {e : TypeId} {base sz n : Nat} {v : Value} {xs : List Value} (ho : w.ownsRow base e sz v n xs) (hg : w.grownBy w' v.ownBlock) {b : Nat} {cs : Array Value} {t : TypeId} {fr : Nat × Nat} (hb : w.heap[b]? = some (.cells cs t fr)) (ht : t ≠ e) : w'.heap[b]? = w.heap[b]? := hg.block b (lt_of_blk hb) fun eq => by
 rcases ho.2 with ⟨rfl, _⟩ | ⟨g, cap, cur, rfl, _, hc, _⟩
 · cases eq
 · cases eq
   exact tag_ne hb hc ht rfl
theorem LQ.grow {w w' : World} {s : Bool} {q : Nat} {R : Rs} {ns : Ns} {e : TypeId} {base sz n : Nat} {v : Value} {xs : List Value} (h : LQ w s q R ns) (ho : w.ownsRow base e sz v n xs) (he : e ≠ 185 ∧ e ≠ 221) (hg : w.grownBy w' v.ownBlock) : LQ w' s q R ns := h.keep fun b hk => by
 rcases hk with rfl | ⟨m, hm, rfl⟩
 · exact grow_blk ho hg h.hq (fun e => he.1 e.symm)
 · obtain ⟨_, hc⟩ := h.isn m hm
   exact grow_blk ho hg hc (fun e => he.2 e.symm)
def AllR (l : List Wt) (w : World) (e : Ending) (w' : World) : Prop := ∃ A c, e = .returned (.slice A l.length c) ∧ RdW w' A l.length l ∧ Below w.heap.size w w'
structure AllS (W : World) (s : Bool) (q : Nat) (R : Rs) (ns pre rest : Ns) (v : Value) (wr : World) : Prop where
 e : ns = pre ++ rest
 lq : LQ wr s q R ns
 row : wr.ownsRow W.heap.size 103 3 v pre.length (flW (pre.map (·.2)))
 bel : Below W.heap.size W wr
theorem AllS.fin {W wr : World} {s : Bool} {q : Nat} {R : Rs} {ns pre : Ns} {v : Value} (h : AllS W s q R ns pre [] v wr) : AllR (ns.map (·.2)) W (.returned v) wr := by
 obtain ⟨e, lq, row, bel⟩ := h
 rw [List.append_nil] at e
 subst e
 obtain ⟨A, c, rfl, _, _⟩ := own_cap row
 refine ⟨A, c, by rw [List.length_map], ?_, bel⟩
 rw [List.length_map]
 exact RdW.of_row (List.length_map ..) row
set_option maxHeartbeats 1000000 in
theorem all_any {w : World} {s : Bool} {q : Nat} {R : Rs} {ns : Ns} (h : LQ w s q R ns) (hl : ns.length ≤ 1000000) : Calls Tryz.prog 95 #[.pointer (some ⟨q, off s, none⟩)] w (AllR (ns.map (·.2)) w) := by
 obtain ⟨i0, hi, hz0, hz1, hz2⟩ := info_parts inf30
 have HL := Lib.hid h
 have HS : Hid (AllS w s q R ns [] ns (.slice none 0 0) w) := ⟨rfl, h, World.ownsRow_nil _ _ _ _, Below.refl _ _⟩
 clear h
 go_enter Tryz.func95, Tryz.ntmps95
 go_wp2_with fail
 refine (head_any HL.out).mono ?_
 rintro e w' ⟨rfl, rfl⟩
 go_wp2_with fail
 go_loopg [3, 4] ns.length (fun m v p wr => ∃ (pre rest : Ns), p = .pointer (adr (hd rest none)) ∧ rest.length = m ∧ Hid (AllS w s q R ns pre rest v wr))
 case atStart => exact ⟨[], ns, rfl, rfl, HS⟩
 case round =>
  obtain ⟨pre, rest, rfl, hm, hS⟩ := hrel
  clear HS HL
  cases rest with
  | nil =>
   rw [hd_nil, adr_none]
   go_wp2_with fail
   go_ret
   exact hS.out.fin
  | cons bx r =>
   obtain ⟨b, x⟩ := bx
   rw [hd_cons, adr_some]
   have hL : LQ wr s q R (pre ++ (b, x) :: r) := by rw [← hS.out.e]; exact hS.out.lq
   have hN := hL.mid.2.1
   have c0 := hN.c0
   have c1 := hN.c1
   have c2 := hN.c2
   have hlen : pre.length < 1000000 := by
    have h3 := congrArg List.length hS.out.e
    rw [List.length_append, List.length_cons] at h3
    omega
   have hsz := hS.out.bel.size
   have HM := Lib.hid hm
   clear hN hL hm
   go_wp2_with (at_builtin; go_loud (refine app_wp rfl (.tmp 13) (.tmp 18) 112 rfl w.heap.size 103 3 24 i0 (.agg #[.int .i64 0, .int .i64 0, .int .i64 0]) Tryz.underlying112 hi hz0 hz1 hz2 rfl (by decide) u3 pre.length (flW (pre.map (·.2))) rfl (hS.out.row.alloc _) _ (some ⟨wr.heap.size, 0, none⟩) 1 1 (flW [x]) rfl (Rd.one wr x _ rfl) (flW_one _) (by unfold maxLen; omega) (by omega) (by simp; omega) ?_; intro v1 w1 ho1 hg1; have hb1 := below_app (hS.out.bel.alloc hsz _) (Nat.le_refl _) (by simp; omega) (hS.out.row.alloc _) hg1; have hL1 : LQ w1 s q R (pre ++ (b, x) :: r) := LQ.grow (LQ.later (by rw [← hS.out.e]; exact hS.out.lq) (below_al _ _)) (hS.out.row.alloc _) (by decide) hg1; have c4 := hL1.mid.2.1.c4; have HS1 : Hid (AllS w s q R ns (pre ++ [(b, x)]) r v1 w1) := ⟨by rw [hS.out.e]; simp, (by rw [hS.out.e]; exact hL1), (by rw [List.length_append, List.map_append, flW_app]; exact ho1), hb1⟩; clear hL1 ho1 hg1 hb1))
   go_roundg r.length
   case measure => have := HM.out; simp at this; omega
   case rel => exact ⟨pre ++ [(b, x)], r, rfl, rfl, HS1⟩
section
variable {w : World} {c : Nat} {F : Nat → Prop} {s : CS}
theorem ch_all (h : CH w F c s) (b : Bool) (hn : (s.q b).length ≤ 1000000) : Calls Tryz.prog 95 #[.pointer (some ⟨c, off b, none⟩)] w (AllR (s.q b) w) := by
 obtain ⟨ro, ns, ms, hF, h⟩ := h
 rw [← h.len b]
 exact all_any (h.lq b) (by rw [pk_len h]; exact hn)
def meet (t : Int) (l : List Wt) : Bool := l.any fun x => !isT t x
theorem meets_any (t : Int) (b : Bool) (h : CH w F c s) (hn : (s.q (!b)).length ≤ 1000000) : Calls Tryz.prog 70 #[.pointer (some ⟨c, 0, none⟩), .int .i64 t, .bool b] w fun e w' => e = .returned (.bool (meet t (s.q (!b)))) ∧ Below w.heap.size w w' := by
 have HL := Lib.hid (ch_line h (!b))
 have HA := Lib.hid (ch_all h (!b) hn)
 clear h
 generalize s.q (!b) = l at *
 go_enter Tryz.func70, Tryz.ntmps70
 go_wp2_with fail
 refine HL.out.mono ?_
 rintro e w' ⟨rfl, rfl⟩
 go_wp2_with fail
 refine HA.out.mono ?_
 rintro e w1 ⟨A, n, rfl, h1, h2⟩
 have H1 := Lib.hid h1
 have H2 := Lib.hid h2
 clear h1 h2 HA HL
 go_wp2_with fail
 go_loopw [15] (fun i wr => ∃ k : Nat, k ≤ l.length ∧ i = .int .i64 k ∧ (∀ x ∈ l.take k, isT t x = true) ∧ Hid (Below w1.heap.size w1 wr)) (fun i _ => l.length - (intOf i).toNat)
 case atStart => exact ⟨0, by omega, rfl, by simp, Below.refl _ _⟩
 case round =>
  obtain ⟨k, hk, rfl, hall, hB⟩ := hrel
  by_cases hlt : k < l.length
  · have hW := H1.out.later hB.out
    obtain ⟨bb, o, rfl, hb, hc⟩ := hW.cells (by omega)
    obtain ⟨c0, c1, c2⟩ := hc k (l[k]'hlt) (List.getElem?_eq_getElem hlt)
    have hx : l[k]? = some (l[k]'hlt) := List.getElem?_eq_getElem hlt
    have HT : Hid (l.take (k + 1) = l.take k ++ [l[k]'hlt]) := List.take_succ_eq_append_getElem hlt
    generalize l[k]'hlt = x at *
    obtain ⟨xt, xc, xv⟩ := x
    simp only at c0 c1 c2
    have q1 : (k : Int) < (l.length : Int) := by omega
    have q2 : (l.length : Int) ≤ 1000000 := by omega
    have HX := Lib.hid (List.mem_of_getElem? hx)
    have HB2 := hB.out.alloc hB.out.size (.cells #[.int .i64 xt, .int .i64 xc, .int .i64 xv] 103)
    clear hW hb hc hx hn
    by_cases d : xt = t
    · have d1 : (xt == t) = true := by simp [d]
      have HT2 : Hid (∀ x ∈ l.take (k + 1), isT t x = true) := by
       show ∀ _ ∈ _, _
       rw [HT.out]
       intro y hy
       rcases List.mem_append.1 hy with hy | hy
       · exact hall y hy
       · simp at hy; subst hy; simp [isT, d]
      clear hall HT d
      have HB3 := Lib.hid HB2
      clear HB2
      go_wp2_with fail
      go_roundw
      case rel => exact ⟨k + 1, by omega, by go_num, HT2.out, HB3⟩
      case measure => simp [intOf]; omega
    · have d1 : (xt == t) = false := by simp [d]
      have e : meet t l = true := by
       unfold meet
       rw [List.any_eq_true]
       exact ⟨_, HX.out, by simp [isT, d]⟩
      have HE := Lib.hid e
      have HB3 := Lib.hid HB2
      clear HB2 hall HT d e
      go_wp2_with fail
      go_ret
      exact ⟨ret_bool HE.out.symm, H2.out.trans (HB3.out.mono H2.out.size)⟩
  · obtain rfl : k = l.length := by omega
    have e : meet t l = false := by
     unfold meet
     rw [List.any_eq_false]
     intro x hx
     rw [List.take_length] at hall
     simp [hall x hx]
    have HE := Lib.hid e
    clear hall e hn
    go_wp2_with fail
    go_ret
    exact ⟨ret_bool HE.out.symm, H2.out.trans (hB.out.mono H2.out.size)⟩
end
end Go.Proofs.YtdpapnfjpefhkaaGreat.Ch
namespace Go.Proofs.YtdpapnfjpefhkaaGreat.Ch
open Go.RowKit
set_option linter.unusedVariables false
set_option maxRecDepth 100000
def wt (s : CS) (x : Wt) (b : Bool) : CS × Int :=
 if b = true ∧ s.kd ≠ 0 then (s, 7) else if s.cl = true then (s, 5) else if (fr s b || meet x.t (s.q (!b))) = true then (s, 1) else (s.sq b (s.q b ++ [x]), 0)
def WaR (F : Nat → Prop) (c : Nat) (g : CS × Int) (w : World) (e : Ending) (w' : World) : Prop := e = .returned (.int .i64 g.2) ∧ Go F c g.1 w w'
section
variable {w : World} {c : Nat} {F : Nat → Prop} {s : CS}
theorem wait_no (x : Wt) (b : Bool) (h : CH w F c s) (hn : (s.q (!b)).length ≤ 1000000) (hk : ¬ (b = true ∧ s.kd ≠ 0)) (hc : s.cl = false) (hm : (fr s b || meet x.t (s.q (!b))) = true) : Calls Tryz.prog 36 #[.pointer (some ⟨c, 0, none⟩), wG x, .bool b] w (WaR F c (s, 1) w) := by
 have c0 := (h.later (below_al w (.cells #[.int .i64 x.t, .int .i64 x.c, .int .i64 x.v] 103))).c0
 have c1 := (h.later (below_al w (.cells #[.int .i64 x.t, .int .i64 x.c, .int .i64 x.v] 103))).c1
 rw [hc] at c1
 have HC := Lib.hid (h.later (below_al w (.cells #[.int .i64 x.t, .int .i64 x.c, .int .i64 x.v] 103)))
 have HC0 := Lib.hid h
 have HN := Lib.hid hn
 have HK : Hid (∀ n, (w.alloc (.cells #[.int .i64 x.t, .int .i64 x.c, .int .i64 x.v] 103)).drewN n = (w.alloc (.cells #[.int .i64 x.t, .int .i64 x.c, .int .i64 x.v] 103)).drewN n) := fun _ => rfl
 clear h hn hc
 unfold wG
 cases b with
 | true =>
  have b1 : ((s.kd : Int) == 0) = true := by
   rw [beq_iff_eq]
   by_cases h0 : s.kd = 0
   · rw [h0]; rfl
   · exact absurd ⟨rfl, h0⟩ hk
  clear hk
  cases hf : fr s true with
  | true =>
   clear hm
   go_enter Tryz.func36, Tryz.ntmps36
   go_wp2_with fail
   refine (free_any true HC.out).mono ?_
   rintro e w' ⟨rfl, n, rfl⟩
   rw [hf]
   go_wp2_with fail
   go_ret
   exact ⟨rfl, (((Go.here HC0.out).later (below_al _ _)).draws rfl rfl rfl rfl)⟩
  | false =>
   rw [hf, Bool.false_or] at hm
   go_enter Tryz.func36, Tryz.ntmps36
   go_wp2_with fail
   refine (free_any true HC.out).mono ?_
   rintro e w' ⟨rfl, n, rfl⟩
   rw [hf]
   go_wp2_with fail
   refine (meets_any x.t true (HC.out.draw n) HN.out).mono ?_
   rintro e w2 ⟨rfl, hb⟩
   rw [hm]
   have HB := Lib.hid hb
   clear hb
   go_wp2_with fail
   go_ret
   exact ⟨rfl, (Go.here HC0.out).later ((below_drewN (below_al w (.cells #[.int .i64 x.t, .int .i64 x.c, .int .i64 x.v] 103)) n).trans (HB.out.mono (by simp)))⟩
 | false =>
  clear hk
  cases hf : fr s false with
  | true =>
   clear hm
   go_enter Tryz.func36, Tryz.ntmps36
   go_wp2_with fail
   refine (free_any false HC.out).mono ?_
   rintro e w' ⟨rfl, n, rfl⟩
   rw [hf]
   go_wp2_with fail
   go_ret
   exact ⟨rfl, (((Go.here HC0.out).later (below_al _ _)).draws rfl rfl rfl rfl)⟩
  | false =>
   rw [hf, Bool.false_or] at hm
   go_enter Tryz.func36, Tryz.ntmps36
   go_wp2_with fail
   refine (free_any false HC.out).mono ?_
   rintro e w' ⟨rfl, n, rfl⟩
   rw [hf]
   go_wp2_with fail
   refine (meets_any x.t false (HC.out.draw n) HN.out).mono ?_
   rintro e w2 ⟨rfl, hb⟩
   rw [hm]
   have HB := Lib.hid hb
   clear hb
   go_wp2_with fail
   go_ret
   exact ⟨rfl, (Go.here HC0.out).later ((below_drewN (below_al w (.cells #[.int .i64 x.t, .int .i64 x.c, .int .i64 x.v] 103)) n).trans (HB.out.mono (by simp)))⟩
theorem wait_kind (x : Wt) (h : CH w F c s) (hk : s.kd ≠ 0) : Calls Tryz.prog 36 #[.pointer (some ⟨c, 0, none⟩), wG x, .bool true] w (WaR F c (s, 7) w) := by
 have c0 := (h.later (below_al w (.cells #[.int .i64 x.t, .int .i64 x.c, .int .i64 x.v] 103))).c0
 have b1 : ((s.kd : Int) == 0) = false := by rw [beq_eq_false_iff_ne]; omega
 have HC0 := Lib.hid h
 clear h hk
 unfold wG
 go_enter Tryz.func36, Tryz.ntmps36
 go_wp2_with fail
 go_ret
 exact ⟨rfl, (Go.here HC0.out).later (below_al _ _)⟩
theorem wait_closed (x : Wt) (b : Bool) (h : CH w F c s) (hk : ¬ (b = true ∧ s.kd ≠ 0)) (hc : s.cl = true) : Calls Tryz.prog 36 #[.pointer (some ⟨c, 0, none⟩), wG x, .bool b] w (WaR F c (s, 5) w) := by
 have c0 := (h.later (below_al w (.cells #[.int .i64 x.t, .int .i64 x.c, .int .i64 x.v] 103))).c0
 have c1 := (h.later (below_al w (.cells #[.int .i64 x.t, .int .i64 x.c, .int .i64 x.v] 103))).c1
 rw [hc] at c1
 have HC0 := Lib.hid h
 clear h hc
 unfold wG
 cases b with
 | true =>
  have b1 : ((s.kd : Int) == 0) = true := by
   rw [beq_iff_eq]
   by_cases h0 : s.kd = 0
   · rw [h0]; rfl
   · exact absurd ⟨rfl, h0⟩ hk
  clear hk
  go_enter Tryz.func36, Tryz.ntmps36
  go_wp2_with fail
  go_ret
  exact ⟨rfl, (Go.here HC0.out).later (below_al _ _)⟩
 | false =>
  clear hk
  go_enter Tryz.func36, Tryz.ntmps36
  go_wp2_with fail
  go_ret
  exact ⟨rfl, (Go.here HC0.out).later (below_al _ _)⟩
set_option maxHeartbeats 2000000 in
theorem wait_yes (x : Wt) (b : Bool) (hx : Wf x.t) (h : CH w F c s) (hn : ∀ b, (s.q b).length ≤ 1000000) (hk : ¬ (b = true ∧ s.kd ≠ 0)) (hc : s.cl = false) (hf : fr s b = false) (hm : meet x.t (s.q (!b)) = false) : Calls Tryz.prog 36 #[.pointer (some ⟨c, 0, none⟩), wG x, .bool b] w (WaR F c (s.sq b (s.q b ++ [x]), 0) w) := by
 have c0 := (h.later (below_al w (.cells #[.int .i64 x.t, .int .i64 x.c, .int .i64 x.v] 103))).c0
 have c1 := (h.later (below_al w (.cells #[.int .i64 x.t, .int .i64 x.c, .int .i64 x.v] 103))).c1
 rw [hc] at c1
 have HC := Lib.hid (h.later (below_al w (.cells #[.int .i64 x.t, .int .i64 x.c, .int .i64 x.v] 103)))
 have HK : Hid ((w.alloc (.cells #[.int .i64 x.t, .int .i64 x.c, .int .i64 x.v] 103)).heap[w.heap.size]? = some (.cells #[.int .i64 x.t, .int .i64 x.c, .int .i64 x.v] 103 (0, 0))) := heap_alloc_new _ _
 have HN := Lib.hid hn
 clear h hn hc
 unfold wG
 cases b with
 | true =>
  have b1 : ((s.kd : Int) == 0) = true := by
   rw [beq_iff_eq]
   by_cases h0 : s.kd = 0
   · rw [h0]; rfl
   · exact absurd ⟨rfl, h0⟩ hk
  clear hk
  go_enter Tryz.func36, Tryz.ntmps36
  go_wp2_with fail
  refine (free_any true HC.out).mono ?_
  rintro e w' ⟨rfl, n, rfl⟩
  rw [hf]
  go_wp2_with fail
  refine (meets_any x.t true (HC.out.draw n) (HN.out false)).mono ?_
  rintro e w2 ⟨rfl, hb⟩
  rw [hm]
  have HC2 := Lib.hid ((HC.out.draw n).later hb)
  have HB : Hid (Below w.heap.size w w2) := (below_drewN (below_al w (.cells #[.int .i64 x.t, .int .i64 x.c, .int .i64 x.v] 103)) n).trans (hb.mono (by simp))
  have a := (hb.block w.heap.size (by simp)).trans HK.out
  have a0 := cell_of_row w2 w.heap.size 0 _ _ _ a
  have a1 := cell_of_row w2 w.heap.size 1 _ _ _ a
  have a2 := cell_of_row w2 w.heap.size 2 _ _ _ a
  simp only [List.getElem?_toArray, List.getElem?_cons_succ, List.getElem?_cons_zero] at a0 a1 a2
  have HL : Hid (∀ w3 : World, w3.heap = w2.heap → Calls Tryz.prog 71 #[.pointer (some ⟨c, 0, none⟩), .bool true] w3 fun e w' => e = .returned (.pointer (some ⟨c, 3, none⟩)) ∧ w3 = w') := fun w3 e => ch_line (HC2.out.keep fun _ _ => by rw [e]) true
  have HP : Hid (∀ w3 : World, w3.heap = w2.heap → w3.os = w2.os → w3.tape = w2.tape → w3.output = w2.output → Calls Tryz.prog 72 #[.pointer (some ⟨c, 3, none⟩), wG x] w3 fun e w' => (∃ k, e = .returned (.int .i64 k)) ∧ Go F c { s with ss := s.ss ++ [x] } w w') := by
   intro w3 e1 e2 e3 e4
   refine (ch_push x (HC2.out.keep (w' := w3) fun _ _ => by rw [e1]) true hx (HN.out true)).mono ?_
   rintro e w4 ⟨h1, g⟩
   exact ⟨h1, Go.from HB.out (Go.comp ((Tn.refl F w2).draws e1 e2 e3 e4) (fun b hb => .inl hb) g)⟩
  clear hb a hf hm HC HC2 HK HB b1 c0 c1
  unfold wG at HP
  go_wp2_with fail
  go_region_with (first
   | (go_at_call 71; go_loud (refine (HL.out _ (by rfl)).mono ?_; rintro e w3 ⟨rfl, rfl⟩))
   | (go_at_call 72; go_loud (refine (HP.out _ (by rfl) (by rfl) (by rfl) (by rfl)).mono ?_; rintro e w3 ⟨⟨k, rfl⟩, g⟩; have G := Lib.hid g; clear g)))
  all_goals
   go_wp2_with fail
   go_ret
   exact ⟨rfl, G.out.draws rfl rfl rfl rfl⟩
 | false =>
  clear hk
  go_enter Tryz.func36, Tryz.ntmps36
  go_wp2_with fail
  refine (free_any false HC.out).mono ?_
  rintro e w' ⟨rfl, n, rfl⟩
  rw [hf]
  go_wp2_with fail
  refine (meets_any x.t false (HC.out.draw n) (HN.out true)).mono ?_
  rintro e w2 ⟨rfl, hb⟩
  rw [hm]
  have HC2 := Lib.hid ((HC.out.draw n).later hb)
  have HB : Hid (Below w.heap.size w w2) := (below_drewN (below_al w (.cells #[.int .i64 x.t, .int .i64 x.c, .int .i64 x.v] 103)) n).trans (hb.mono (by simp))
  have a := (hb.block w.heap.size (by simp)).trans HK.out
  have a0 := cell_of_row w2 w.heap.size 0 _ _ _ a
  have a1 := cell_of_row w2 w.heap.size 1 _ _ _ a
  have a2 := cell_of_row w2 w.heap.size 2 _ _ _ a
  simp only [List.getElem?_toArray, List.getElem?_cons_succ, List.getElem?_cons_zero] at a0 a1 a2
  have HL : Hid (∀ w3 : World, w3.heap = w2.heap → Calls Tryz.prog 71 #[.pointer (some ⟨c, 0, none⟩), .bool false] w3 fun e w' => e = .returned (.pointer (some ⟨c, 6, none⟩)) ∧ w3 = w') := fun w3 e => ch_line (HC2.out.keep fun _ _ => by rw [e]) false
  have HP : Hid (∀ w3 : World, w3.heap = w2.heap → w3.os = w2.os → w3.tape = w2.tape → w3.output = w2.output → Calls Tryz.prog 72 #[.pointer (some ⟨c, 6, none⟩), wG x] w3 fun e w' => (∃ k, e = .returned (.int .i64 k)) ∧ Go F c { s with rs := s.rs ++ [x] } w w') := by
   intro w3 e1 e2 e3 e4
   refine (ch_push x (HC2.out.keep (w' := w3) fun _ _ => by rw [e1]) false hx (HN.out false)).mono ?_
   rintro e w4 ⟨h1, g⟩
   exact ⟨h1, Go.from HB.out (Go.comp ((Tn.refl F w2).draws e1 e2 e3 e4) (fun b hb => .inl hb) g)⟩
  clear hb a hf hm HC HC2 HK HB c0 c1
  unfold wG at HP
  go_wp2_with fail
  go_region_with (first
   | (go_at_call 71; go_loud (refine (HL.out _ (by rfl)).mono ?_; rintro e w3 ⟨rfl, rfl⟩))
   | (go_at_call 72; go_loud (refine (HP.out _ (by rfl) (by rfl) (by rfl) (by rfl)).mono ?_; rintro e w3 ⟨⟨k, rfl⟩, g⟩; have G := Lib.hid g; clear g)))
  all_goals
   go_wp2_with fail
   go_ret
   exact ⟨rfl, G.out.draws rfl rfl rfl rfl⟩
theorem wait_any (x : Wt) (b : Bool) (hx : Wf x.t) (h : CH w F c s) (hn : ∀ b, (s.q b).length ≤ 1000000) : Calls Tryz.prog 36 #[.pointer (some ⟨c, 0, none⟩), wG x, .bool b] w (WaR F c (wt s x b) w) := by
 unfold wt
 split
 · rename_i hk
   obtain ⟨rfl, hk⟩ := hk
   exact wait_kind x h hk
 · rename_i hk
   split
   · rename_i hc
     exact wait_closed x b h hk hc
   · rename_i hc
     have hc' : s.cl = false := by simpa using hc
     split
     · rename_i hm
       exact wait_no x b h (hn _) hk hc' hm
     · rename_i hm
       simp only [Bool.or_eq_true, not_or, Bool.not_eq_true] at hm
       exact wait_yes x b hx h hn hk hc' hm.1 hm.2
end
end Go.Proofs.YtdpapnfjpefhkaaGreat.Ch
namespace Go.Proofs.YtdpapnfjpefhkaaGreat.Ch
open Go.RowKit
set_option linter.unusedVariables false
set_option maxRecDepth 100000
def one (acc : List Wk) (x : Wt) (p : Bool) : List Wk := if x.t ∈ acc.map (·.t) then acc else acc ++ [⟨x.t, x.c, 0, false, p⟩]
def shp : List Wk → List Wt → Bool → List Wk
 | acc, [], _ => acc
 | acc, x :: r, p => shp (one acc x p) r p
def tot (s : CS) : List Wk := shp (shp [] s.rs false) s.ss true
def sS (s : CS) : Bool → List Wt → CS
 | false, l => { s with cl := true, rs := l }
 | true, l => { s with cl := true, ss := l, rs := [] }
def tE (s : CS) (acc : List Wk) : Bool → List Wt → List Wk
 | false, l => shp (shp acc l false) s.ss true
 | true, l => shp acc l true
def oB (s : CS) : Bool → Nat
 | false => s.ss.length
 | true => 0
theorem sS_q (s : CS) (sd : Bool) (l : List Wt) : (sS s sd l).q sd = l := by cases sd <;> rfl
theorem sS_sq (s : CS) (sd : Bool) (l l' : List Wt) : (sS s sd l).sq sd l' = sS s sd l' := by cases sd <;> rfl
theorem tE_cons (s : CS) (acc : List Wk) (sd : Bool) (x : Wt) (r : List Wt) : tE s acc sd (x :: r) = tE s (one acc x sd) sd r := by cases sd <;> rfl
structure PF (s : CS) (sd : Bool) (acc : List Wk) (l : List Wt) : Prop where
 e : tE s acc sd l = tot s
 b : acc.length + l.length + oB s sd ≤ s.rs.length + s.ss.length
theorem PF.skip {s : CS} {sd : Bool} {acc : List Wk} {x : Wt} {r : List Wt} (h : PF s sd acc (x :: r)) (hx : x.t ∈ acc.map (·.t)) : PF s sd acc r :=
 ⟨by have := h.e; rw [tE_cons] at this; unfold one at this; rwa [if_pos hx] at this, by have := h.b; simp at this; omega⟩
theorem PF.add {s : CS} {sd : Bool} {acc : List Wk} {x : Wt} {r : List Wt} (h : PF s sd acc (x :: r)) (hx : x.t ∉ acc.map (·.t)) : PF s sd (acc ++ [⟨x.t, x.c, 0, false, sd⟩]) r :=
 ⟨by have := h.e; rw [tE_cons] at this; unfold one at this; rwa [if_neg hx] at this, by have := h.b; simp at this ⊢; omega⟩
abbrev kL (x : Int) : Lit := .int .i64 x
theorem law : Maps.Keyed Tryz.prog 3 := Maps.int_keyed Tryz.underlying3
theorem keyI {x : Int} (h : Wf x) : keyOf Tryz.prog 3 (.int .i64 x) = some (kL x) := Maps.keyOf_int_mk Tryz.underlying3 h
theorem kL_ne {x y : Int} (h : x ≠ y) : kL x ≠ kL y := fun e => h (by injection e)
theorem kL_key (x : Int) : WideAt.IsKeyLit (kL x) := trivial
theorem zero108 (w : World) : (zeroValue 250).run Tryz.prog w = .ok (.agg #[]) w := by kernel_rfl
def Trn (w w' : World) (b : Nat) : Prop := w'.os = w.os ∧ w'.tape = w.tape ∧ w'.output = w.output ∧ w'.heap.size = w.heap.size ∧ ∀ k, k ≠ b → w'.heap[k]? = w.heap[k]?
theorem turned_block {w w' : World} {b : Nat} (h : w.mapTurned w' b) : Trn w w' b := by
 obtain ⟨es, clock, es', clock', hb, rfl⟩ := h
 exact ⟨rfl, rfl, rfl, by simp [ChangeMaps.setBlock], fun k hk => ChangeMaps.heap_setBlock_other hb _ hk⟩
def Wm (w : World) (b : Nat) (l : List Int) : Prop :=
 ∃ D : DataW Unit, w.ownsMap Tryz.prog 3 unitElem b l.length D ∧ Maps.size D = l.length ∧ ∀ x, Maps.has D (kL x) = decide (x ∈ l)
section
variable {w w' : World} {b : Nat} {l : List Int}
theorem own_exact {n : Nat} {D : DataW Unit} (h : w.ownsMap Tryz.prog 3 unitElem b n D) : w.ownsMap Tryz.prog 3 unitElem b (Maps.size D) D := by
 obtain ⟨es, clock, hb, F, _, rfl⟩ := h
 refine ⟨es, clock, hb, F, ?_, rfl⟩
 simp [Maps.size, length_sorted]
theorem Wm.blk (h : Wm w b l) : ∃ es clock, w.heap[b]? = some (.map es clock) := by obtain ⟨D, ⟨es, clock, h, _⟩, _⟩ := h; exact ⟨es, clock, h⟩
theorem Wm.lt (h : Wm w b l) : b < w.heap.size := by obtain ⟨es, clock, h⟩ := h.blk; exact lt_of_blk h
theorem Wm.ne (h : Wm w b l) {k : Nat} {cs : Array Value} {t : TypeId} {fr : Nat × Nat} (hk : w.heap[k]? = some (.cells cs t fr)) : k ≠ b := by
 rintro rfl; obtain ⟨es, clock, h⟩ := h.blk; rw [hk] at h; cases h
theorem Wm.keep (h : Wm w b l) (e : w'.heap[b]? = w.heap[b]?) : Wm w' b l := by
 obtain ⟨D, ⟨es, clock, h1, h2⟩, h3⟩ := h
 exact ⟨D, ⟨es, clock, by rw [e]; exact h1, h2⟩, h3⟩
theorem Wm.new (w : World) : Wm (w.alloc (.map #[] 0)) w.heap.size [] := ⟨_, World.ownsMap_made w Tryz.prog 3 unitElem, rfl, fun x => rfl⟩
theorem Wm.look (h : Wm w b l) {x : Int} (hx : Wf x) : (Instr.lookup 248 (.map (some b)) (.int .i64 x) true).run Tryz.prog w = .ok (.tuple #[.agg #[], .bool (decide (x ∈ l))]) w := by
 obtain ⟨D, h1, h2, h3⟩ := h
 obtain ⟨v, ps, hrun, hv⟩ := h1.look_ok law Tryz.underlying248 (zero108 w) unitElem_mk (keyI hx)
 obtain ⟨rfl, _⟩ := unitElem_inv hv
 rw [h3] at hrun
 exact hrun
theorem Wm.store (h : Wm w b l) {x : Int} (hx : Wf x) (hn : l.length < maxLen) (hm : x ∉ l) :
  ∃ w', (Instr.mapUpdate 248 (.map (some b)) (.int .i64 x) (.agg #[])).run Tryz.prog w = .ok () w' ∧ Trn w w' b ∧ Wm w' b (l ++ [x]) := by
 obtain ⟨D, h1, h2, h3⟩ := h
 obtain ⟨w', hrun, ho, ht⟩ := h1.store law Tryz.underlying248 hn (keyI hx) (unitElem_mk (H := Unit))
 have h5 := own_exact ho
 have h6 : Maps.size (D.put (kL x) (.agg [])) = (l ++ [x]).length := by
  rw [Maps.size_put (h1.tidy law), h3, decide_eq_false hm, if_neg (by simp), h2]; simp
 rw [h6] at h5
 refine ⟨w', hrun, turned_block ht, D.put (kL x) (.agg []), h5, h6, ?_⟩
 intro y
 by_cases e : y = x
 · subst e
   rw [Maps.has_put_same h1.isMap (kL_key _)]; simp
 · rw [Maps.has_put_other (kL_ne e), h3]; simp [e]
variable {ops : Array Oper} {rest : List Oper} {op : Oper} {a : Act} {Q : Exit → Act → World → Prop}
theorem wp_store {x : Int} (hg : op.guard = none) (m y z : Operand) (hop : op.op = Op.mapUpdate 248 m y z)
  (h : Wm w b l) (hx : Wf x) (hn : l.length < maxLen) (hmem : x ∉ l) (hm : a.eval m = .map (some b)) (hy : a.eval y = .int .i64 x) (hz : a.eval z = .agg #[])
  (hK : ∀ w', Trn w w' b → Wm w' b (l ++ [x]) → wpList Tryz.prog ops Q rest (a.put op.dst undef) w') : wpList Tryz.prog ops Q (op :: rest) a w := by
 refine wpList_plain hg fun K' hK' => ?_
 obtain ⟨w', hrun, r1, r2⟩ := h.store hx hn hmem
 unfold Oper.wp
 simp [execOp, hop, hm, hy, hz, hrun, Result.andThen]
 exact hK' _ _ (hK w' r1 r2)
end
def kV (x : Wk) : List Value := [.int .i64 x.t, .int .i64 x.c, .int .i64 x.v, .bool x.ok, .bool x.pn]
theorem kV_len (x : Wk) : (kV x).length = 5 := rfl
def flK (l : List Wk) : List Value := l.flatMap kV
theorem flK_app (a b : List Wk) : flK (a ++ b) = flK a ++ flK b := by unfold flK; rw [List.flatMap_append]
theorem flK_one (l : List Wk) : ∀ u ∈ flK l, u.oneCell' = true := by
 intro u hu
 unfold flK at hu
 obtain ⟨x, _, hx⟩ := List.mem_flatMap.1 hu
 simp [kV] at hx
 rcases hx with rfl | rfl | rfl | rfl | rfl <;> rfl
theorem own_keep {w w' : World} {base n sz : Nat} {e : TypeId} {v : Value} {xs : List Value} (h : w.ownsRow base e sz v n xs) (k : ∀ (b : Nat) (cs : Array Value), w.heap[b]? = some (.cells cs e (0, 0)) → w'.heap[b]? = w.heap[b]?) : w'.ownsRow base e sz v n xs := by
 refine ⟨h.1, ?_⟩
 rcases h.2 with hn | ⟨g, cap, cur, q1, q2, q3, q4⟩
 · exact .inl hn
 · exact .inr ⟨g, cap, cur, q1, q2, by rw [k g _ q3]; exact q3, q4⟩
theorem RdK.of_own {w : World} {base n : Nat} {v : Value} {l : List Wk} (hn : l.length = n) (h : w.ownsRow base 208 5 v n (flK l)) : ∃ A cap, v = .slice A n cap ∧ RdK w A n l := by
 rcases h.2 with ⟨rfl, h0⟩ | ⟨g, cap, cur, rfl, q2, q3, q4⟩
 · refine ⟨none, 0, by rw [h0], hn, fun hp => absurd hp (by omega)⟩
 · refine ⟨_, cap, rfl, hn, fun hp => ⟨g, _, rfl, q3, fun i x hx => ?_⟩⟩
   have hi : i < l.length := (List.getElem?_eq_some_iff.1 hx).1
   have hc : ∀ j u, j < 5 → (kV x)[j]? = some u → w.cell? ⟨g, i * 5 + j, none⟩ = some u := fun j u hj hu => by
    rw [h.cellAt (i * 5 + j) (by omega)]
    exact (flat_at kV 5 kV_len l i x hx j hj).trans hu
   exact ⟨hc 0 _ (by omega) rfl, hc 1 _ (by omega) rfl, hc 2 _ (by omega) rfl, hc 3 _ (by omega) rfl, hc 4 _ (by omega) rfl⟩
structure SX (W : World) (F : Nat → Prop) (c b : Nat) (v : Value) (acc : List Wk) (ks : List Int) (st : CS) (w : World) : Prop where
 go : Go F c st W w
 hb : W.heap.size ≤ b
 m : Wm w b ks
 row : w.ownsRow W.heap.size 208 5 v acc.length (flK acc)
section
variable {W w w' : World} {F : Nat → Prop} {c b : Nat} {v v' : Value} {acc acc' : List Wk} {ks ks' : List Int} {st st' : CS}
theorem SX.at (h : SX W F c b v acc ks st w) : ∃ F', CH w F' c st ∧ ∀ st' w', Go F' c st' w w' → SX W F c b v acc ks st' w' := by
 obtain ⟨F', hc, hs, t⟩ := h.go
 refine ⟨F', hc, fun st' w' g => ⟨Go.comp t hs g, h.hb, h.m.keep ?_, own_keep h.row ?_⟩⟩
 · exact g.other hc h.m.lt fun ⟨cs, t, h1, _⟩ => h.m.ne h1 rfl
 · exact fun k cs hk => g.other hc (lt_of_blk hk) (not_isc hk (by decide))
theorem SX.later (h : SX W F c b v acc ks st w) (hb : Below w.heap.size w w') : SX W F c b v acc ks st w' :=
 ⟨h.go.later hb, h.hb, h.m.keep (hb.block _ h.m.lt), own_keep h.row fun k cs hk => hb.block _ (lt_of_blk hk)⟩
theorem SX.alloc (h : SX W F c b v acc ks st w) (o : Obj) : SX W F c b v acc ks st (w.alloc o) := h.later (below_al w o)
theorem SX.store (h : SX W F c b v acc ks st w) (t : Trn w w' b) (m : Wm w' b ks') : SX W F c b v acc ks' st w' := by
 obtain ⟨F', hc, hs, tn⟩ := h.go
 obtain ⟨t1, t2, t3, t4, t5⟩ := t
 have hn : ∀ k, IsC w k → k ≠ b := fun k ⟨cs, t, hk, _⟩ => h.m.ne hk
 refine ⟨⟨F', hc.keep fun k hk => t5 k (hn k (hc.tag hk)), hs, tn.comp (F := F) (G := fun k => k = b) ⟨t1, t2, t3, Nat.le_of_eq t4.symm, fun k _ hk => t5 k hk⟩ (fun k hk => .inr (by have := h.hb; omega))⟩, h.hb, m, own_keep h.row fun k cs hk => t5 k (h.m.ne hk)⟩
theorem SX.grow (h : SX W F c b v acc ks st w) (hg : w.grownBy w' v.ownBlock) (row : w'.ownsRow W.heap.size 208 5 v' acc'.length (flK acc')) : SX W F c b v' acc' ks st w' := by
 obtain ⟨F', hc, hs, tn⟩ := h.go
 have hlt : ∀ k, v.ownBlock = some k → W.heap.size ≤ k ∧ ∃ cs, w.heap[k]? = some (.cells cs 208 (0, 0)) := fun k hk => by
  rcases h.row.2 with ⟨rfl, _⟩ | ⟨g, cap, cur, rfl, q2, q3, q4⟩
  · cases hk
  · cases hk; exact ⟨(h.row.lt _ rfl).1, _, q3⟩
 have hne : ∀ k, IsC w k → v.ownBlock ≠ some k := fun k hi e => by
  obtain ⟨_, cs, h1⟩ := hlt k e
  exact not_isc h1 (by decide) hi
 refine ⟨⟨F', hc.keep fun k hk => hg.block k (hc.lt hk) (fun e => hne k (hc.tag hk) e.symm), hs, ?_⟩, h.hb, h.m.keep (hg.block b h.m.lt fun e => ?_), row⟩
 · have hb := (Below.refl w.heap.size w)
   refine tn.comp (F := F) (G := fun k => v.ownBlock = some k) ⟨hg.os, hg.tape, hg.output, hg.size, fun k hk hn => hg.block k hk fun e => hn e.symm⟩ (fun k hk => .inr (hlt k hk).1)
 · obtain ⟨_, cs, h1⟩ := hlt b e.symm
   exact h.m.ne h1 rfl
end
end Go.Proofs.YtdpapnfjpefhkaaGreat.Ch
namespace Go.Proofs.YtdpapnfjpefhkaaGreat.Ch
open Go.RowKit
set_option linter.unusedVariables false
set_option maxRecDepth 100000
theorem ix0 (w : World) : (Instr.index 249 (.agg #[.bool false, .bool true]) (.int .i64 0)).run Tryz.prog w = .ok (.bool false) w := by kernel_rfl
theorem ix1 (w : World) : (Instr.index 249 (.agg #[.bool false, .bool true]) (.int .i64 1)).run Tryz.prog w = .ok (.bool true) w := by kernel_rfl
theorem inf45 : (Tryz.prog.info? 208).map (fun i => (i.zero, i.size, i.bytes)) = some (some (.agg #[.int .i64 0, .int .i64 0, .int .i64 0, .bool false, .bool false]), 5, 32) := by kernel_rfl
def hdW : List Wt → Wt
 | [] => ⟨0, 0, 0⟩
 | x :: _ => x
def ne : List Wt → Bool
 | [] => false
 | _ :: _ => true
theorem ne_nil : ne [] = false := rfl
theorem ne_cons (x : Wt) (r : List Wt) : ne (x :: r) = true := rfl
structure SI (W : World) (F : Nat → Prop) (c b : Nat) (s : CS) (sd : Bool) (v : Value) (acc : List Wk) (g : Nat) (l : List Wt) (w : World) : Prop where
 x : SX W F c b v acc (acc.map (·.t)) (sS s sd l.tail) w
 pf : PF s sd acc l
 hg : w.heap[g]? = some (.cells #[.int .i64 (hdW l).t, .int .i64 (hdW l).c, .int .i64 (hdW l).v] 103 (0, 0))
 wf : ∀ y ∈ l, Wf y.t
structure SO (W : World) (F : Nat → Prop) (c b : Nat) (s : CS) (sd : Bool) (v : Value) (acc : List Wk) (l : List Wt) (w : World) : Prop where
 x : SX W F c b v acc (acc.map (·.t)) (sS s sd l) w
 pf : PF s sd acc l
 wf : ∀ y ∈ l, Wf y.t
section
variable {W w w' : World} {F : Nat → Prop} {c b g : Nat} {s : CS} {sd : Bool} {v : Value} {acc : List Wk} {l : List Wt}
theorem ch_pop_any (h : SX W F c b v acc (acc.map (·.t)) (sS s sd l) w) (hn : l.length ≤ 1000000) : Calls Tryz.prog 110 #[.pointer (some ⟨c, off sd, none⟩)] w fun e w' => e = .returned (.tuple #[wG (hdW l), .bool (ne l)]) ∧ SX W F c b v acc (acc.map (·.t)) (sS s sd l.tail) w' ∧ ∀ (k : Nat) (cs : Array Value), w.heap[k]? = some (.cells cs 103 (0, 0)) → w'.heap[k]? = some (.cells cs 103 (0, 0)) := by
 obtain ⟨F', hc, back⟩ := h.at
 have hk : ∀ st' w', Go F' c st' w w' → ∀ (k : Nat) (cs : Array Value), w.heap[k]? = some (.cells cs 103 (0, 0)) → w'.heap[k]? = some (.cells cs 103 (0, 0)) := fun st' w' g k cs hk => (g.other hc (lt_of_blk hk) (not_isc hk (by decide))).trans hk
 cases l with
 | nil =>
  refine (ch_pop_none hc sd (sS_q s sd [])).mono ?_
  rintro e w' ⟨rfl, g⟩
  exact ⟨rfl, back _ _ g, hk _ _ g⟩
 | cons x r =>
  refine (ch_pop_some hc sd (sS_q s sd (x :: r)) (by simp at hn; omega)).mono ?_
  rintro e w' ⟨rfl, g⟩
  rw [sS_sq] at g
  exact ⟨rfl, back _ _ g, hk _ _ g⟩
theorem SX.set30 {ks : List Int} {st : CS} {cs : Array Value} {i : Nat} (h : SX W F c b v acc ks st w) (hg : w.heap[g]? = some (.cells cs 103 (0, 0))) (hW : W.heap.size ≤ g) (u : Value) : SX W F c b v acc ks st (w.setCell ⟨g, i, none⟩ u) := by
 obtain ⟨F', hc, hs, tn⟩ := h.go
 have k : ∀ k, k ≠ g → (w.setCell ⟨g, i, none⟩ u).heap[k]? = w.heap[k]? := fun k hk => Below.heap_setCell _ _ _ _ hk
 refine ⟨⟨F', hc.keep fun q hq => k q ?_, hs, tn.set (.inr hW) _⟩, h.hb, h.m.keep (k b (h.m.ne hg).symm), own_keep h.row fun q ds hq => k q (tag_ne hq hg (by decide))⟩
 rintro rfl; exact not_isc hg (by decide) (hc.tag hq)
theorem SX.add {st : CS} {v' : Value} {k : Wk} (h : SX W F c b v acc (acc.map (·.t) ++ [k.t]) st w) (hg : w.grownBy w' v.ownBlock) (ho : w'.ownsRow W.heap.size 208 5 v' (acc.length + 1) (flK acc ++ flK [k])) : SX W F c b v' (acc ++ [k]) ((acc ++ [k]).map (·.t)) st w' := by
 rw [List.map_append]
 exact h.grow hg (by rw [List.length_append, flK_app]; exact ho)
theorem SI.next {a0 a1 a2 : Value} {r : List Wt} (x : SX W F c b v acc (acc.map (·.t)) (sS s sd r.tail) w) (pf : PF s sd acc r) (wf : ∀ y ∈ r, Wf y.t) (hg : w.heap[g]? = some (.cells #[a0, a1, a2] 103 (0, 0))) (hW : W.heap.size ≤ g) :
  SI W F c b s sd v acc g r (((w.setCell ⟨g, 0, none⟩ (.int .i64 (hdW r).t)).setCell ⟨g, 1, none⟩ (.int .i64 (hdW r).c)).setCell ⟨g, 2, none⟩ (.int .i64 (hdW r).v)) := by
 have h1 := heap_setCell_same w g 0 _ _ (.int .i64 (hdW r).t) hg
 have h2 := heap_setCell_same _ g 1 _ _ (.int .i64 (hdW r).c) h1
 have h3 := heap_setCell_same _ g 2 _ _ (.int .i64 (hdW r).v) h2
 exact ⟨((x.set30 hg hW _).set30 h1 hW _).set30 h2 hW _, pf, h3, wf⟩
end
theorem shp_len : ∀ (l : List Wt) (acc : List Wk) (p : Bool), (shp acc l p).length ≤ acc.length + l.length
 | [], acc, p => by simp [shp]
 | x :: r, acc, p => by
  have := shp_len r (one acc x p) p
  have h2 : (one acc x p).length ≤ acc.length + 1 := by unfold one; split <;> simp
  simp only [shp, List.length_cons]
  omega
def done (s : CS) : CS := { s with cl := true, ss := [], rs := [] }
def ShR (F : Nat → Prop) (c : Nat) (s : CS) (w : World) (e : Ending) (w' : World) : Prop :=
 ∃ A cap, e = .returned (.slice A (tot s).length cap) ∧ RdK w' A (tot s).length (tot s) ∧ Go F c (done s) w w'
theorem Kd.one (w : World) (x : Wk) (N : Nat) (h : N = w.heap.size) : Rd (w.alloc (.cells (kA x) 208)) (w.alloc (.cells (kA x) 208)).heap.size (some ⟨N, 0, none⟩) 1 5 (flK [x]) := by
 subst h
 exact Rd.new w (kA x) 1 5 208 rfl
def oS (s : CS) : Nat → Bool × List Wt
 | 0 => (false, s.rs)
 | 1 => (true, s.ss)
 | _ => (true, [])
set_option maxHeartbeats 4000000 in
set_option maxRecDepth 100000 in
theorem shut_any {w : World} {F : Nat → Prop} {c : Nat} {s : CS} (h : CH w F c s) (hn : s.ss.length ≤ 1000000) (hm : s.rs.length ≤ 1000000) : Calls Tryz.prog 116 #[.pointer (some ⟨c, 0, none⟩)] w (ShR F c s w) := by
 obtain ⟨i0, hi, hz0, hz1, hz2⟩ := info_parts inf45
 have hwf1 := Lib.hid (h.wf true)
 have hwf2 := Lib.hid (h.wf false)
 have c1 := h.c1
 have f1 := h.fz 1
 have g1 : Go F c (sS s false s.rs) w (w.setCell ⟨c, 1, none⟩ (.bool true)) := by
  obtain ⟨ro, ns, ms, hF, hx⟩ := h
  exact ⟨_, ⟨ro, ns, ms, hF, hx.shut⟩, fun b hb => .inl hb, (Tn.refl F w).set (.inl ((hF c).2 (.inl rfl))) _⟩
 have HS0 : Hid (SO w F c w.heap.size s false (.slice none 0 0) [] s.rs ((w.setCell ⟨c, 1, none⟩ (.bool true)).alloc (.map #[] 0))) := by
  have hsz : (w.setCell ⟨c, 1, none⟩ (.bool true)).heap.size = w.heap.size := size_set _ _ _
  refine ⟨⟨g1.later (below_al _ _), Nat.le_refl _, ?_, World.ownsRow_nil _ _ _ _⟩, ⟨rfl, by simp [oB]⟩, hwf2.out⟩
  rw [← hsz]; exact Wm.new _
 have hcs := h.lt h.has
 try rw [World.setCell_alloc_past _ _ _ _ (by first | omega | (simp; omega))] at HS0
 clear h g1
 have hmm := @run_makeMap Tryz.prog
 have hx0 := ix0
 have hx1 := ix1
 go_enter Tryz.func116, Tryz.ntmps116
 go_wp2_with fail
 go_loopw [3, 17] (fun v i wr => ∃ (k : Nat) (acc : List Wk), k ≤ 2 ∧ i = .int .i64 k ∧ Hid (SO w F c w.heap.size s (oS s k).1 v acc (oS s k).2 wr)) (fun _ i _ => 2 - (intOf i).toNat)
 case atStart => exact ⟨0, [], by omega, rfl, HS0⟩
 case round =>
  obtain ⟨k, acc, hk, rfl, hS⟩ := hrel
  clear HS0
  obtain rfl | rfl | rfl : k = 0 ∨ k = 1 ∨ k = 2 := by omega
  · simp only [oS] at hS
    have hlL : Hid (s.rs.length ≤ 1000000) := hm
    have SX0 := Lib.hid hS.out
    obtain ⟨F', hc, hbk⟩ := SX0.out.x.at
    have HL := Lib.hid (ch_line hc false)
    clear hc hS hbk
    go_wp2_with fail
    refine HL.out.mono ?_
    rintro e w' ⟨rfl, rfl⟩
    clear HL
    go_wp2_with fail
    refine (ch_pop_any SX0.out.x hlL.out).mono ?_
    rintro e w2 ⟨rfl, x2, _⟩
    have SI0 : Hid (SI w F c w.heap.size s false u3 acc w2.heap.size s.rs (w2.alloc (.cells #[.int .i64 (hdW s.rs).t, .int .i64 (hdW s.rs).c, .int .i64 (hdW s.rs).v] 103))) := ⟨x2.alloc _, SX0.out.pf, heap_alloc_new _ _, SX0.out.wf⟩
    clear x2 SX0
    unfold wG
    go_wp2_with fail
    go_loopg [3, 8, 9] s.rs.length (fun m v p o wr => ∃ (acc : List Wk) (g : Nat) (l : List Wt), p = .pointer (some ⟨g, 0, none⟩) ∧ o = .bool (ne l) ∧ l.length = m ∧ l.length ≤ 1000000 ∧ Hid (SI w F c w.heap.size s false v acc g l wr))
    case atStart => exact ⟨acc, _, s.rs, rfl, rfl, rfl, hlL.out, SI0⟩
    case round =>
     clear SI0 hlL
     obtain ⟨acc1, g, l, rfl, rfl, hm1, hl1, hS⟩ := hrel
     cases l with
     | nil =>
      have HO : Hid (SO w F c w.heap.size s (oS s 1).1 u3 acc1 (oS s 1).2 wr) := ⟨hS.out.x, ⟨hS.out.pf.e, by have := hS.out.pf.b; simp [oB, oS] at this ⊢; omega⟩, hwf1.out⟩
      clear hS hm1
      rw [ne_nil]
      go_wp2_with fail
      go_roundw
      case rel => exact ⟨1, acc1, by omega, by go_num, HO⟩
      case measure => simp [intOf]
     | cons x r =>
      have hb := hS.out.hg
      have hW : Hid (w.heap.size ≤ wr.heap.size) := by obtain ⟨_, _, _, t⟩ := hS.out.x.go; exact t.size
      have c0 := cell_of_row wr g 0 _ _ _ hb
      have c1 := cell_of_row wr g 1 _ _ _ hb
      have c2 := cell_of_row wr g 2 _ _ _ hb
      simp only [List.getElem?_toArray, List.getElem?_cons_succ, List.getElem?_cons_zero, hdW] at c0 c1 c2
      have hgs := lt_of_blk hb
      have HWF := Lib.hid (hS.out.wf x (by simp))
      have hlk := (hS.out.x.m).look HWF.out
      have HM := Lib.hid hm1
      have HR : Hid (r.length ≤ 1000000) := by simp at hl1; show _ ≤ _; omega
      have HWR : Hid (∀ y ∈ r, Wf y.t) := fun y hy => hS.out.wf y (List.mem_cons_of_mem _ hy)
      rw [ne_cons]
      clear hm1 hl1
      by_cases hin : x.t ∈ acc1.map (·.t)
      · rw [decide_eq_true hin] at hlk
        have HP := Lib.hid (hS.out.pf.skip hin)
        have HX : Hid (SX w F c w.heap.size u3 acc1 (acc1.map (·.t)) (sS s false r) ((wr.alloc (.cells #[] 250)).alloc (.cells #[.int .i64 x.t, .int .i64 x.c, .int .i64 x.v] 103))) := ((show SX w F c w.heap.size u3 acc1 (acc1.map (·.t)) (sS s false r) wr from hS.out.x).alloc _).alloc _
        have HG : Hid (((wr.alloc (.cells #[] 250)).alloc (.cells #[.int .i64 x.t, .int .i64 x.c, .int .i64 x.v] 103)).heap[wr.heap.size + 1]? = some (.cells #[.int .i64 x.t, .int .i64 x.c, .int .i64 x.v] 103 (0, 0))) := by
         have := heap_alloc_new (wr.alloc (.cells #[] 250)) (.cells #[.int .i64 x.t, .int .i64 x.c, .int .i64 x.v] 103)
         rw [World.size_alloc] at this
         exact this
        clear hb hS hin
        go_wp2_with fail
        refine (ch_pop_any HX.out HR.out).mono ?_
        rintro e w3 ⟨rfl, x3, hk3⟩
        have hg3 := hk3 _ _ HG.out
        have d0 := cell_of_row w3 (wr.heap.size + 1) 0 _ _ _ hg3
        have d1 := cell_of_row w3 (wr.heap.size + 1) 1 _ _ _ hg3
        have d2 := cell_of_row w3 (wr.heap.size + 1) 2 _ _ _ hg3
        simp only [List.getElem?_toArray, List.getElem?_cons_succ, List.getElem?_cons_zero] at d0 d1 d2
        have e0 := frozen_of_row w3 (wr.heap.size + 1) 0 _ _ hg3
        have e1 := frozen_of_row w3 (wr.heap.size + 1) 1 _ _ hg3
        have e2 := frozen_of_row w3 (wr.heap.size + 1) 2 _ _ hg3
        have HI := Lib.hid (SI.next x3 HP.out HWR.out hg3 (Nat.le_succ_of_le hW.out))
        clear x3 hk3 hg3 HX HG HP hlk c0 c1 c2
        unfold wG
        go_wp2_with fail
        go_roundg r.length
        case measure => have := HM.out; simp at this; omega
        case rel => exact ⟨acc1, _, r, rfl, rfl, rfl, HR.out, HI⟩
      · rw [decide_eq_false hin] at hlk
        have HP := Lib.hid (hS.out.pf.add hin)
        have hbd := HP.out.b
        simp only [List.length_append, List.length_singleton] at hbd
        have hacc : Hid (acc1.length ≤ 2000000) := by show _ ≤ _; omega
        have HX : Hid (SX w F c w.heap.size u3 acc1 (acc1.map (·.t)) (sS s false r) (wr.alloc (.cells #[] 250))) := (show SX w F c w.heap.size u3 acc1 (acc1.map (·.t)) (sS s false r) wr from hS.out.x).alloc _
        have HG : Hid ((wr.alloc (.cells #[] 250)).heap[g]? = some (.cells #[.int .i64 x.t, .int .i64 x.c, .int .i64 x.v] 103 (0, 0))) := ((below_al wr (.cells #[] 250)).block g hgs).trans hb
        have HIN := Lib.hid hin
        have hbs := HX.out.m.lt
        clear hb hS hin hbd
        go_wp2_with (first
         | (at_mapUpdate; go_loud (refine wp_store rfl (.tmp 42) (.tmp 44) (.tmp 45) rfl HX.out.m HWF.out (by have := hacc.out; unfold maxLen; simp; omega) HIN.out rfl rfl (by first | rfl | (simp; done)) ?_; intro wS ht tm; have hgS : wS.heap[g]? = some (.cells #[.int .i64 x.t, .int .i64 x.c, .int .i64 x.v] 103 (0, 0)) := (ht.2.2.2.2 g (HX.out.m.ne HG.out)).trans HG.out; have s0 := cell_of_row wS g 0 _ _ _ hgS; have s1 := cell_of_row wS g 1 _ _ _ hgS; simp only [List.getElem?_toArray, List.getElem?_cons_succ, List.getElem?_cons_zero] at s0 s1; have hgl := lt_of_blk hgS; have HSS : Hid (wS.heap.size = wr.heap.size + 1) := (ht.2.2.2.1.trans (by simp)); have XS := Lib.hid (HX.out.store ht tm); have HGS := Lib.hid hgS; have HWS : Hid (w.heap.size ≤ wS.heap.size) := (by show _ ≤ _; rw [HSS.out]; exact Nat.le_succ_of_le hW.out); clear ht tm hgS hlk c0 c1 c2))
         | (at_builtin; go_loud (refine app_wp rfl (.tmp 46) (.tmp 53) 55 rfl w.heap.size 208 5 32 i0 (.agg #[.int .i64 0, .int .i64 0, .int .i64 0, .bool false, .bool false]) Tryz.underlying55 hi hz0 hz1 hz2 rfl (by decide) u3 acc1.length (flK acc1) rfl (XS.out.row.alloc _) _ (some ⟨wS.heap.size, 0, none⟩) 1 1 (flK [⟨x.t, x.c, 0, false, false⟩]) rfl (Kd.one wS ⟨x.t, x.c, 0, false, false⟩ _ rfl) (flK_one _) (by have := hacc.out; unfold maxLen; omega) (by have := hacc.out; omega) (by have := HWS.out; simp; omega) ?_; intro v1 w4 ho4 hg4; have hb4 : w4.heap[g]? = some (.cells #[.int .i64 x.t, .int .i64 x.c, .int .i64 x.v] 103 (0, 0)) := (grow_blk (XS.out.row.alloc _) hg4 (((below_al wS _).block g (lt_of_blk HGS.out)).trans HGS.out) (by decide)).trans (((below_al wS _).block g (lt_of_blk HGS.out)).trans HGS.out); have c0 := cell_of_row w4 g 0 _ _ _ hb4; have c1 := cell_of_row w4 g 1 _ _ _ hb4; have c2 := cell_of_row w4 g 2 _ _ _ hb4; simp only [List.getElem?_toArray, List.getElem?_cons_succ, List.getElem?_cons_zero] at c0 c1 c2; have hgl4 := lt_of_blk hb4; have XA := Lib.hid (SX.add (k := ⟨x.t, x.c, 0, false, false⟩) (XS.out.alloc _) hg4 ho4); have HW4 : Hid (w.heap.size ≤ w4.heap.size) := (by obtain ⟨_, _, _, t⟩ := XA.out.go; exact t.size); clear ho4 hg4 hb4 s0 s1 hgl)))
        have HX4 := Lib.hid (XA.out.alloc (.cells #[.int .i64 x.t, .int .i64 x.c, .int .i64 x.v] 103))
        have HG4 : Hid ((w4.alloc (.cells #[.int .i64 x.t, .int .i64 x.c, .int .i64 x.v] 103)).heap[w4.heap.size]? = some (.cells #[.int .i64 x.t, .int .i64 x.c, .int .i64 x.v] 103 (0, 0))) := heap_alloc_new _ _
        refine (ch_pop_any HX4.out HR.out).mono ?_
        rintro e w3 ⟨rfl, x3, hk3⟩
        have hg3 := hk3 _ _ HG4.out
        have d0 := cell_of_row w3 w4.heap.size 0 _ _ _ hg3
        have d1 := cell_of_row w3 w4.heap.size 1 _ _ _ hg3
        have d2 := cell_of_row w3 w4.heap.size 2 _ _ _ hg3
        simp only [List.getElem?_toArray, List.getElem?_cons_succ, List.getElem?_cons_zero] at d0 d1 d2
        have e0 := frozen_of_row w3 w4.heap.size 0 _ _ hg3
        have e1 := frozen_of_row w3 w4.heap.size 1 _ _ hg3
        have e2 := frozen_of_row w3 w4.heap.size 2 _ _ hg3
        have HI := Lib.hid (SI.next x3 HP.out HWR.out hg3 HW4.out)
        clear x3 hk3 hg3 HX4 HG4 HP XA XS HX HG HGS c0 c1 c2
        unfold wG
        go_wp2_with fail
        go_roundg r.length
        case measure => have := HM.out; simp at this; omega
        case rel => exact ⟨acc1 ++ [⟨x.t, x.c, 0, false, false⟩], _, r, rfl, rfl, rfl, HR.out, HI⟩
  · simp only [oS] at hS
    have hlL : Hid (s.ss.length ≤ 1000000) := hn
    have SX0 := Lib.hid hS.out
    obtain ⟨F', hc, hbk⟩ := SX0.out.x.at
    have HL := Lib.hid (ch_line hc true)
    clear hc hS hbk
    go_wp2_with fail
    refine HL.out.mono ?_
    rintro e w' ⟨rfl, rfl⟩
    clear HL
    go_wp2_with fail
    refine (ch_pop_any SX0.out.x hlL.out).mono ?_
    rintro e w2 ⟨rfl, x2, _⟩
    have SI0 : Hid (SI w F c w.heap.size s true u3 acc w2.heap.size s.ss (w2.alloc (.cells #[.int .i64 (hdW s.ss).t, .int .i64 (hdW s.ss).c, .int .i64 (hdW s.ss).v] 103))) := ⟨x2.alloc _, SX0.out.pf, heap_alloc_new _ _, SX0.out.wf⟩
    clear x2 SX0
    unfold wG
    go_wp2_with fail
    go_loopg [3, 8, 9] s.ss.length (fun m v p o wr => ∃ (acc : List Wk) (g : Nat) (l : List Wt), p = .pointer (some ⟨g, 0, none⟩) ∧ o = .bool (ne l) ∧ l.length = m ∧ l.length ≤ 1000000 ∧ Hid (SI w F c w.heap.size s true v acc g l wr))
    case atStart => exact ⟨acc, _, s.ss, rfl, rfl, rfl, hlL.out, SI0⟩
    case round =>
     clear SI0 hlL
     obtain ⟨acc1, g, l, rfl, rfl, hm1, hl1, hS⟩ := hrel
     cases l with
     | nil =>
      have HO : Hid (SO w F c w.heap.size s (oS s 2).1 u3 acc1 (oS s 2).2 wr) := ⟨hS.out.x, ⟨hS.out.pf.e, by have := hS.out.pf.b; simp [oB, oS] at this ⊢; omega⟩, (fun y hy => by simp [oS] at hy)⟩
      clear hS hm1
      rw [ne_nil]
      go_wp2_with fail
      go_roundw
      case rel => exact ⟨2, acc1, by omega, by go_num, HO⟩
      case measure => simp [intOf]
     | cons x r =>
      have hb := hS.out.hg
      have hW : Hid (w.heap.size ≤ wr.heap.size) := by obtain ⟨_, _, _, t⟩ := hS.out.x.go; exact t.size
      have c0 := cell_of_row wr g 0 _ _ _ hb
      have c1 := cell_of_row wr g 1 _ _ _ hb
      have c2 := cell_of_row wr g 2 _ _ _ hb
      simp only [List.getElem?_toArray, List.getElem?_cons_succ, List.getElem?_cons_zero, hdW] at c0 c1 c2
      have hgs := lt_of_blk hb
      have HWF := Lib.hid (hS.out.wf x (by simp))
      have hlk := (hS.out.x.m).look HWF.out
      have HM := Lib.hid hm1
      have HR : Hid (r.length ≤ 1000000) := by simp at hl1; show _ ≤ _; omega
      have HWR : Hid (∀ y ∈ r, Wf y.t) := fun y hy => hS.out.wf y (List.mem_cons_of_mem _ hy)
      rw [ne_cons]
      clear hm1 hl1
      by_cases hin : x.t ∈ acc1.map (·.t)
      · rw [decide_eq_true hin] at hlk
        have HP := Lib.hid (hS.out.pf.skip hin)
        have HX : Hid (SX w F c w.heap.size u3 acc1 (acc1.map (·.t)) (sS s true r) ((wr.alloc (.cells #[] 250)).alloc (.cells #[.int .i64 x.t, .int .i64 x.c, .int .i64 x.v] 103))) := ((show SX w F c w.heap.size u3 acc1 (acc1.map (·.t)) (sS s true r) wr from hS.out.x).alloc _).alloc _
        have HG : Hid (((wr.alloc (.cells #[] 250)).alloc (.cells #[.int .i64 x.t, .int .i64 x.c, .int .i64 x.v] 103)).heap[wr.heap.size + 1]? = some (.cells #[.int .i64 x.t, .int .i64 x.c, .int .i64 x.v] 103 (0, 0))) := by
         have := heap_alloc_new (wr.alloc (.cells #[] 250)) (.cells #[.int .i64 x.t, .int .i64 x.c, .int .i64 x.v] 103)
         rw [World.size_alloc] at this
         exact this
        clear hb hS hin
        go_wp2_with fail
        refine (ch_pop_any HX.out HR.out).mono ?_
        rintro e w3 ⟨rfl, x3, hk3⟩
        have hg3 := hk3 _ _ HG.out
        have d0 := cell_of_row w3 (wr.heap.size + 1) 0 _ _ _ hg3
        have d1 := cell_of_row w3 (wr.heap.size + 1) 1 _ _ _ hg3
        have d2 := cell_of_row w3 (wr.heap.size + 1) 2 _ _ _ hg3
        simp only [List.getElem?_toArray, List.getElem?_cons_succ, List.getElem?_cons_zero] at d0 d1 d2
        have e0 := frozen_of_row w3 (wr.heap.size + 1) 0 _ _ hg3
        have e1 := frozen_of_row w3 (wr.heap.size + 1) 1 _ _ hg3
        have e2 := frozen_of_row w3 (wr.heap.size + 1) 2 _ _ hg3
        have HI := Lib.hid (SI.next x3 HP.out HWR.out hg3 (Nat.le_succ_of_le hW.out))
        clear x3 hk3 hg3 HX HG HP hlk c0 c1 c2
        unfold wG
        go_wp2_with fail
        go_roundg r.length
        case measure => have := HM.out; simp at this; omega
        case rel => exact ⟨acc1, _, r, rfl, rfl, rfl, HR.out, HI⟩
      · rw [decide_eq_false hin] at hlk
        have HP := Lib.hid (hS.out.pf.add hin)
        have hbd := HP.out.b
        simp only [List.length_append, List.length_singleton] at hbd
        have hacc : Hid (acc1.length ≤ 2000000) := by show _ ≤ _; omega
        have HX : Hid (SX w F c w.heap.size u3 acc1 (acc1.map (·.t)) (sS s true r) (wr.alloc (.cells #[] 250))) := (show SX w F c w.heap.size u3 acc1 (acc1.map (·.t)) (sS s true r) wr from hS.out.x).alloc _
        have HG : Hid ((wr.alloc (.cells #[] 250)).heap[g]? = some (.cells #[.int .i64 x.t, .int .i64 x.c, .int .i64 x.v] 103 (0, 0))) := ((below_al wr (.cells #[] 250)).block g hgs).trans hb
        have HIN := Lib.hid hin
        have hbs := HX.out.m.lt
        clear hb hS hin hbd
        go_wp2_with (first
         | (at_mapUpdate; go_loud (refine wp_store rfl (.tmp 42) (.tmp 44) (.tmp 45) rfl HX.out.m HWF.out (by have := hacc.out; unfold maxLen; simp; omega) HIN.out rfl rfl (by first | rfl | (simp; done)) ?_; intro wS ht tm; have hgS : wS.heap[g]? = some (.cells #[.int .i64 x.t, .int .i64 x.c, .int .i64 x.v] 103 (0, 0)) := (ht.2.2.2.2 g (HX.out.m.ne HG.out)).trans HG.out; have s0 := cell_of_row wS g 0 _ _ _ hgS; have s1 := cell_of_row wS g 1 _ _ _ hgS; simp only [List.getElem?_toArray, List.getElem?_cons_succ, List.getElem?_cons_zero] at s0 s1; have hgl := lt_of_blk hgS; have HSS : Hid (wS.heap.size = wr.heap.size + 1) := (ht.2.2.2.1.trans (by simp)); have XS := Lib.hid (HX.out.store ht tm); have HGS := Lib.hid hgS; have HWS : Hid (w.heap.size ≤ wS.heap.size) := (by show _ ≤ _; rw [HSS.out]; exact Nat.le_succ_of_le hW.out); clear ht tm hgS hlk c0 c1 c2))
         | (at_builtin; go_loud (refine app_wp rfl (.tmp 46) (.tmp 53) 55 rfl w.heap.size 208 5 32 i0 (.agg #[.int .i64 0, .int .i64 0, .int .i64 0, .bool false, .bool false]) Tryz.underlying55 hi hz0 hz1 hz2 rfl (by decide) u3 acc1.length (flK acc1) rfl (XS.out.row.alloc _) _ (some ⟨wS.heap.size, 0, none⟩) 1 1 (flK [⟨x.t, x.c, 0, false, true⟩]) rfl (Kd.one wS ⟨x.t, x.c, 0, false, true⟩ _ rfl) (flK_one _) (by have := hacc.out; unfold maxLen; omega) (by have := hacc.out; omega) (by have := HWS.out; simp; omega) ?_; intro v1 w4 ho4 hg4; have hb4 : w4.heap[g]? = some (.cells #[.int .i64 x.t, .int .i64 x.c, .int .i64 x.v] 103 (0, 0)) := (grow_blk (XS.out.row.alloc _) hg4 (((below_al wS _).block g (lt_of_blk HGS.out)).trans HGS.out) (by decide)).trans (((below_al wS _).block g (lt_of_blk HGS.out)).trans HGS.out); have c0 := cell_of_row w4 g 0 _ _ _ hb4; have c1 := cell_of_row w4 g 1 _ _ _ hb4; have c2 := cell_of_row w4 g 2 _ _ _ hb4; simp only [List.getElem?_toArray, List.getElem?_cons_succ, List.getElem?_cons_zero] at c0 c1 c2; have hgl4 := lt_of_blk hb4; have XA := Lib.hid (SX.add (k := ⟨x.t, x.c, 0, false, true⟩) (XS.out.alloc _) hg4 ho4); have HW4 : Hid (w.heap.size ≤ w4.heap.size) := (by obtain ⟨_, _, _, t⟩ := XA.out.go; exact t.size); clear ho4 hg4 hb4 s0 s1 hgl)))
        have HX4 := Lib.hid (XA.out.alloc (.cells #[.int .i64 x.t, .int .i64 x.c, .int .i64 x.v] 103))
        have HG4 : Hid ((w4.alloc (.cells #[.int .i64 x.t, .int .i64 x.c, .int .i64 x.v] 103)).heap[w4.heap.size]? = some (.cells #[.int .i64 x.t, .int .i64 x.c, .int .i64 x.v] 103 (0, 0))) := heap_alloc_new _ _
        refine (ch_pop_any HX4.out HR.out).mono ?_
        rintro e w3 ⟨rfl, x3, hk3⟩
        have hg3 := hk3 _ _ HG4.out
        have d0 := cell_of_row w3 w4.heap.size 0 _ _ _ hg3
        have d1 := cell_of_row w3 w4.heap.size 1 _ _ _ hg3
        have d2 := cell_of_row w3 w4.heap.size 2 _ _ _ hg3
        simp only [List.getElem?_toArray, List.getElem?_cons_succ, List.getElem?_cons_zero] at d0 d1 d2
        have e0 := frozen_of_row w3 w4.heap.size 0 _ _ hg3
        have e1 := frozen_of_row w3 w4.heap.size 1 _ _ hg3
        have e2 := frozen_of_row w3 w4.heap.size 2 _ _ hg3
        have HI := Lib.hid (SI.next x3 HP.out HWR.out hg3 HW4.out)
        clear x3 hk3 hg3 HX4 HG4 HP XA XS HX HG HGS c0 c1 c2
        unfold wG
        go_wp2_with fail
        go_roundg r.length
        case measure => have := HM.out; simp at this; omega
        case rel => exact ⟨acc1 ++ [⟨x.t, x.c, 0, false, true⟩], _, r, rfl, rfl, rfl, HR.out, HI⟩
  · simp only [oS] at hS
    have hend : Hid (ShR F c s w (.returned u3) wr) := by
     obtain ⟨x, pf, _⟩ := hS.out
     have he : acc = tot s := pf.e
     subst he
     obtain ⟨A, cap, e, hr⟩ := RdK.of_own rfl x.row
     exact ⟨A, cap, by rw [e], hr, x.go⟩
    clear hS
    go_wp2_with fail
    go_ret
    exact hend.out
end Go.Proofs.YtdpapnfjpefhkaaGreat.Ch
namespace Go.Proofs.YtdpapnfjpefhkaaGreat.Ch
open Go.RowKit
set_option linter.unusedVariables false
set_option maxRecDepth 100000
section
variable {w : World} {c : Nat} {F : Nat → Prop} {s : CS}
theorem end_any (h : CH w F c s) (hk : s.kd = 2) (hc : s.cl = false) (hn : s.ss.length ≤ 1000000) (hm : s.rs.length ≤ 1000000) : Calls Tryz.prog 98 #[.pointer (some ⟨c, 0, none⟩)] w (ShR F c s w) := by
 have c0 := h.c0
 have c1 := h.c1
 rw [hk] at c0
 rw [hc] at c1
 have hg := Lib.hid (shut_any h hn hm)
 clear h
 go_enter Tryz.func98, Tryz.ntmps98
 go_wp2_with fail
 refine hg.out.mono ?_
 rintro e w' ⟨A, cap, rfl, hK, hG⟩
 have HP : Hid (RdK w' A (tot s).length (tot s) ∧ Go F c (done s) w w') := ⟨hK, hG⟩
 clear hK hG hg
 go_wp2
 go_ret
 exact ⟨A, cap, rfl, HP.out.1, HP.out.2⟩
end
theorem wait_nil (x : Wt) (b : Bool) (w : World) : Calls Tryz.prog 36 #[.pointer none, wG x, .bool b] w fun e w' => e = .returned (.int .i64 6) ∧ Below w.heap.size w w' := by
 unfold wG
 go_enter Tryz.func36, Tryz.ntmps36
 go_wp2
 go_ret
 exact ⟨rfl, below_al _ _⟩
end Go.Proofs.YtdpapnfjpefhkaaGreat.Ch
namespace Go.Proofs.YtdpapnfjpefhkaaGreat.Ch
open Go.RowKit
set_option linter.unusedVariables false
set_option maxRecDepth 100000
def Kp (w w' : World) : Prop := w.heap.size ≤ w'.heap.size ∧ ∀ k, k < w.heap.size → ¬ IsC w k → w'.heap[k]? = w.heap[k]?
theorem Kp.refl (w : World) : Kp w w := ⟨Nat.le_refl _, fun _ _ _ => rfl⟩
theorem Kp.of_below {w w' : World} (h : Below w.heap.size w w') : Kp w w' := ⟨h.size, fun k hk _ => h.block k hk⟩
theorem Kp.at {w w' : World} (h : Kp w w') {k : Nat} {cs : Array Value} {t : TypeId} {f : Nat × Nat} (hk : w.heap[k]? = some (.cells cs t f)) (ht : t ≠ 185 ∧ t ≠ 237 ∧ t ≠ 3 ∧ t ≠ 221) : w'.heap[k]? = some (.cells cs t f) :=
 (h.2 k (lt_of_blk hk) (not_isc hk ht)).trans hk
theorem RdK.kp {w w' : World} {A : Option Addr} {n : Nat} {l : List Wk} (h : RdK w A n l) (k : Kp w w') : RdK w' A n l := h.keep fun b cs e => k.2 b (lt_of_blk e) (not_isc e (by decide))
structure MS (W : World) (L : List (Nat × CS)) (w : World) : Prop where
 bel : Below W.heap.size W w
 ch : ∃ F : Nat → Nat → Prop, (∀ i c s, L[i]? = some (c, s) → CH w (F i) c s) ∧ (∀ i b, F i b → W.heap.size ≤ b ∧ i < L.length) ∧ ∀ i j b, F i b → F j b → i = j
section
variable {W w w' : World} {L : List (Nat × CS)} {i c : Nat} {s s' : CS}
theorem MS.nil (W : World) : MS W [] W := ⟨Below.refl _ _, fun _ _ => False, fun i c s h => by simp at h, fun _ _ h => h.elim, fun _ _ _ h => h.elim⟩
theorem MS.at (h : MS W L w) (hi : L[i]? = some (c, s)) : ∃ F, CH w F c s ∧ ∀ s' w', Go F c s' w w' → MS W (L.set i (c, s')) w' ∧ Kp w w' := by
 obtain ⟨hb, F, h1, h2, h3⟩ := h
 have hc := h1 i c s hi
 have hil : i < L.length := (List.getElem?_eq_some_iff.1 hi).1
 refine ⟨F i, hc, fun s' w' g => ⟨⟨hb.trans (g.below hb.size fun b hf => (h2 i b hf).1), ?_⟩, g.tn.size, fun k hk hn => g.other hc hk hn⟩⟩
 obtain ⟨F', hc', hs, t⟩ := g
 refine ⟨fun j => if j = i then F' else F j, fun j d u hj => ?_, fun j b hf => ?_, fun j k b hj hk => ?_⟩
 · by_cases e : j = i
   · subst e
     rw [List.getElem?_set_self hil] at hj
     cases hj
     simpa using hc'
   · rw [List.getElem?_set_ne (fun h => e h.symm)] at hj
     simp only [if_neg e]
     have hd := h1 j d u hj
     exact hd.keep fun b hf => t.block b (hd.lt hf) fun hf' => e (h3 j i b hf hf')
 · rw [List.length_set]
   by_cases e : j = i
   · subst e
     simp only at hf
     rcases hs b hf with hf | hf
     · exact h2 j b hf
     · exact ⟨by have := hb.size; omega, hil⟩
   · simp only [if_neg e] at hf
     exact h2 j b hf
 · have key : ∀ j k, j ≠ i → k = i → F j b → F' b → False := fun j k e e2 hj hk => by
    have hjl := (h2 j b hj).2
    have hd := h1 j (L[j]).1 (L[j]).2 (by rw [List.getElem?_eq_getElem hjl])
    rcases hs b hk with hf | hf
    · exact e (h3 j i b hj hf)
    · have := hd.lt hj; omega
   by_cases e : j = i
   · by_cases e2 : k = i
     · rw [e, e2]
     · simp only [if_pos e] at hj; simp only [if_neg e2] at hk
       exact (key k j e2 e hk hj).elim
   · by_cases e2 : k = i
     · simp only [if_neg e] at hj; simp only [if_pos e2] at hk
       exact (key j k e e2 hj hk).elim
     · simp only [if_neg e] at hj; simp only [if_neg e2] at hk
       exact h3 j k b hj hk
theorem MS.later (h : MS W L w) (hb : Below w.heap.size w w') : MS W L w' := by
 obtain ⟨h0, F, h1, h2, h3⟩ := h
 exact ⟨h0.trans (hb.mono h0.size), F, fun i c s hi => (h1 i c s hi).later hb, h2, h3⟩
theorem MS.alloc (h : MS W L w) (o : Obj) : MS W L (w.alloc o) := h.later (below_al w o)
theorem MS.draws (h : MS W L w) (hh : w'.heap = w.heap) (h1 : w'.os = w.os) (h2 : w'.tape = w.tape) (h3 : w'.output = w.output) : MS W L w' :=
 h.later ⟨h1, h2, h3, by rw [hh]; exact Nat.le_refl _, fun k _ => by rw [hh]⟩
theorem MS.drewN (h : MS W L w) (n : Nat) : MS W L (w.drewN n) := h.draws rfl rfl rfl rfl
variable {ws : List Wk} {d : Bool} {n : Nat}
end
end Go.Proofs.YtdpapnfjpefhkaaGreat.Ch
