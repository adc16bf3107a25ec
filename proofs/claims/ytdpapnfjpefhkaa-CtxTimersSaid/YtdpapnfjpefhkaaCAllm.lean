/- All tells all in order, in a row of its own: Waiting; the laws' own helpers Waits and Round. Conditions: each theorem's own premises.
Wait puts a task behind those who wait. Conditions: each theorem's own premises.
shut closes and wakes all who wait, each task once: Close, End. Conditions: each theorem's own premises. -/
import Derived.Test.YtdpapnfjpefhkaaCGvm
namespace Go.Proofs.Ytdpapnfjpefhkaa.Ch
open Go.RowKit
set_option linter.unusedVariables false
set_option maxRecDepth 100000

theorem inf30 : (Try.prog.info? 65).map (fun i => (i.zero, i.size, i.bytes)) = some (some (.agg #[.int .i64 0, .int .i64 0, .int .i64 0]), 3, 24) := by kernel_rfl
theorem grow_blk {w w' : World} {e : TypeId} {base sz n : Nat} {v : Value} {xs : List Value} (ho : w.ownsRow base e sz v n xs) (hg : w.grownBy w' v.ownBlock) {b : Nat} {cs : Array Value} {t : TypeId} {fr : Nat × Nat} (hb : w.heap[b]? = some (.cells cs t fr)) (ht : t ≠ e) : w'.heap[b]? = w.heap[b]? := hg.block b (lt_of_blk hb) fun eq => by
  rcases ho.2 with ⟨rfl, _⟩ | ⟨g, cap, cur, rfl, _, hc, _⟩
  · cases eq
  · cases eq
    exact tag_ne hb hc ht rfl
theorem LQ.grow {w w' : World} {s : Bool} {q : Nat} {R : Rs} {ns : Ns} {e : TypeId} {base sz n : Nat} {v : Value} {xs : List Value} (h : LQ w s q R ns) (ho : w.ownsRow base e sz v n xs) (he : e ≠ 128 ∧ e ≠ 161) (hg : w.grownBy w' v.ownBlock) : LQ w' s q R ns := h.keep fun b hk => by
  rcases hk with rfl | ⟨m, hm, rfl⟩
  · exact grow_blk ho hg h.hq (fun e => he.1 e.symm)
  · obtain ⟨_, hc⟩ := h.isn m hm
    exact grow_blk ho hg hc (fun e => he.2 e.symm)
def AllR (l : List Wt) (w : World) (e : Ending) (w' : World) : Prop := ∃ A c, e = .returned (.slice A l.length c) ∧ RdW w' A l.length l ∧ Below w.heap.size w w'
structure AllS (W : World) (s : Bool) (q : Nat) (R : Rs) (ns pre rest : Ns) (v : Value) (wr : World) : Prop where
  e : ns = pre ++ rest
  lq : LQ wr s q R ns
  row : wr.ownsRow W.heap.size 65 3 v pre.length (flW (pre.map (·.2)))
  bel : Below W.heap.size W wr
theorem AllS.fin {W wr : World} {s : Bool} {q : Nat} {R : Rs} {ns pre : Ns} {v : Value} (h : AllS W s q R ns pre [] v wr) : AllR (ns.map (·.2)) W (.returned v) wr := by
  obtain ⟨e, lq, row, bel⟩ := h
  rw [List.append_nil] at e
  subst e
  obtain ⟨A, c, rfl, _, _⟩ := own_cap row
  refine ⟨A, c, by rw [List.length_map], ?_, bel⟩
  rw [List.length_map]
  exact RdW.of_row (List.length_map ..) row
set_option maxHeartbeats 1000000 in
theorem all_any {w : World} {s : Bool} {q : Nat} {R : Rs} {ns : Ns} (h : LQ w s q R ns) (hl : ns.length ≤ 1000000) : Calls Try.prog 49 #[.pointer (some ⟨q, off s, none⟩)] w (AllR (ns.map (·.2)) w) := by
  obtain ⟨i0, hi, hz0, hz1, hz2⟩ := info_parts inf30
  have HL := Lib.hid h
  have HS : Hid (AllS w s q R ns [] ns (.slice none 0 0) w) := ⟨rfl, h, World.ownsRow_nil _ _ _ _, Below.refl _ _⟩
  clear h
  go_enter Try.func49, Try.ntmps49
  go_wp2_with fail
  refine (head_any HL.out).mono ?_
  rintro e w' ⟨rfl, rfl⟩
  go_wp2_with fail
  go_loopg [3, 4] ns.length (fun m v p wr => ∃ (pre rest : Ns), p = .pointer (adr (hd rest none)) ∧ rest.length = m ∧ Hid (AllS w s q R ns pre rest v wr))
  case atStart => exact ⟨[], ns, rfl, rfl, HS⟩
  case round =>
    obtain ⟨pre, rest, rfl, hm, hS⟩ := hrel
    clear HS HL
    cases rest with
    | nil =>
      rw [hd_nil, adr_none]
      go_wp2_with fail
      go_ret
      exact hS.out.fin
    | cons bx r =>
      obtain ⟨b, x⟩ := bx
      rw [hd_cons, adr_some]
      have hL : LQ wr s q R (pre ++ (b, x) :: r) := by rw [← hS.out.e]; exact hS.out.lq
      have hN := hL.mid.2.1
      have c0 := hN.c0
      have c1 := hN.c1
      have c2 := hN.c2
      have hlen : pre.length < 1000000 := by
        have h3 := congrArg List.length hS.out.e
        rw [List.length_append, List.length_cons] at h3
        omega
      have hsz := hS.out.bel.size
      have HM := Lib.hid hm
      clear hN hL hm
      go_wp2_with (at_builtin; go_loud (refine app_wp rfl (.tmp 13) (.tmp 18) 68 rfl w.heap.size 65 3 24 i0 (.agg #[.int .i64 0, .int .i64 0, .int .i64 0]) Try.underlying68 hi hz0 hz1 hz2 rfl (by decide) u3 pre.length (flW (pre.map (·.2))) rfl (hS.out.row.alloc _) _ (some ⟨wr.heap.size, 0, none⟩) 1 1 (flW [x]) rfl (Rd.one wr x _ rfl) (flW_one _) (by unfold maxLen; omega) (by omega) (by simp; omega) ?_; intro v1 w1 ho1 hg1; have hb1 := below_app (hS.out.bel.alloc hsz _) (Nat.le_refl _) (by simp; omega) (hS.out.row.alloc _) hg1; have hL1 : LQ w1 s q R (pre ++ (b, x) :: r) := LQ.grow (LQ.later (by rw [← hS.out.e]; exact hS.out.lq) (below_al _ _)) (hS.out.row.alloc _) (by decide) hg1; have c4 := hL1.mid.2.1.c4; have HS1 : Hid (AllS w s q R ns (pre ++ [(b, x)]) r v1 w1) := ⟨by rw [hS.out.e]; simp, (by rw [hS.out.e]; exact hL1), (by rw [List.length_append, List.map_append, flW_app]; exact ho1), hb1⟩; clear hL1 ho1 hg1 hb1))
      go_roundg r.length
      case measure => have := HM.out; simp at this; omega
      case rel => exact ⟨pre ++ [(b, x)], r, rfl, rfl, HS1⟩
section
variable {w : World} {c : Nat} {F : Nat → Prop} {s : CS}
theorem ch_all (h : CH w F c s) (b : Bool) (hn : (s.q b).length ≤ 1000000) : Calls Try.prog 49 #[.pointer (some ⟨c, off b, none⟩)] w (AllR (s.q b) w) := by
  obtain ⟨ro, ns, ms, hF, h⟩ := h
  rw [← h.len b]
  exact all_any (h.lq b) (by rw [pk_len h]; exact hn)
theorem waiting_any (b : Bool) (h : CH w F c s) (hn : (s.q b).length ≤ 1000000) : Calls Try.prog 28 #[.pointer (some ⟨c, 0, none⟩), .bool b] w (AllR (s.q b) w) := by
  have HC := Lib.hid h
  have HN := Lib.hid hn
  clear h hn
  go_enter Try.func28, Try.ntmps28
  go_wp2_with fail
  refine (ch_line HC.out b).mono ?_
  rintro e w' ⟨rfl, rfl⟩
  go_wp2_with fail
  refine (ch_all HC.out b HN.out).mono ?_
  rintro e w' ⟨A, n, rfl, h1, h2⟩
  have H1 := Lib.hid h1
  have H2 := Lib.hid h2
  clear h1 h2
  go_wp2
  go_ret
  exact ⟨A, n, rfl, H1.out, H2.out⟩
/-- Does another task wait on the other side? -/
def meet (t : Int) (l : List Wt) : Bool := l.any fun x => !isT t x
theorem meets_any (t : Int) (b : Bool) (h : CH w F c s) (hn : (s.q (!b)).length ≤ 1000000) : Calls Try.prog 46 #[.pointer (some ⟨c, 0, none⟩), .int .i64 t, .bool b] w fun e w' => e = .returned (.bool (meet t (s.q (!b)))) ∧ Below w.heap.size w w' := by
  have HL := Lib.hid (ch_line h (!b))
  have HA := Lib.hid (ch_all h (!b) hn)
  clear h
  generalize s.q (!b) = l at *
  go_enter Try.func46, Try.ntmps46
  go_wp2_with fail
  refine HL.out.mono ?_
  rintro e w' ⟨rfl, rfl⟩
  go_wp2_with fail
  refine HA.out.mono ?_
  rintro e w1 ⟨A, n, rfl, h1, h2⟩
  have H1 := Lib.hid h1
  have H2 := Lib.hid h2
  clear h1 h2 HA HL
  go_wp2_with fail
  go_loopw [15] (fun i wr => ∃ k : Nat, k ≤ l.length ∧ i = .int .i64 k ∧ (∀ x ∈ l.take k, isT t x = true) ∧ Hid (Below w1.heap.size w1 wr)) (fun i _ => l.length - (intOf i).toNat)
  case atStart => exact ⟨0, by omega, rfl, by simp, Below.refl _ _⟩
  case round =>
    obtain ⟨k, hk, rfl, hall, hB⟩ := hrel
    by_cases hlt : k < l.length
    · have hW := H1.out.later hB.out
      obtain ⟨bb, o, rfl, hb, hc⟩ := hW.cells (by omega)
      obtain ⟨c0, c1, c2⟩ := hc k (l[k]'hlt) (List.getElem?_eq_getElem hlt)
      have hx : l[k]? = some (l[k]'hlt) := List.getElem?_eq_getElem hlt
      have HT : Hid (l.take (k + 1) = l.take k ++ [l[k]'hlt]) := List.take_succ_eq_append_getElem hlt
      generalize l[k]'hlt = x at *
      obtain ⟨xt, xc, xv⟩ := x
      simp only at c0 c1 c2
      have q1 : (k : Int) < (l.length : Int) := by omega
      have q2 : (l.length : Int) ≤ 1000000 := by omega
      have HX := Lib.hid (List.mem_of_getElem? hx)
      have HB2 := hB.out.alloc hB.out.size (.cells #[.int .i64 xt, .int .i64 xc, .int .i64 xv] 65)
      clear hW hb hc hx hn
      by_cases d : xt = t
      · have d1 : (xt == t) = true := by simp [d]
        have HT2 : Hid (∀ x ∈ l.take (k + 1), isT t x = true) := by
          show ∀ _ ∈ _, _
          rw [HT.out]
          intro y hy
          rcases List.mem_append.1 hy with hy | hy
          · exact hall y hy
          · simp at hy; subst hy; simp [isT, d]
        clear hall HT d
        have HB3 := Lib.hid HB2
        clear HB2
        go_wp2_with fail
        go_roundw
        case rel => exact ⟨k + 1, by omega, by go_num, HT2.out, HB3⟩
        case measure => simp [intOf]; omega
      · have d1 : (xt == t) = false := by simp [d]
        have e : meet t l = true := by
          unfold meet
          rw [List.any_eq_true]
          exact ⟨_, HX.out, by simp [isT, d]⟩
        have HE := Lib.hid e
        have HB3 := Lib.hid HB2
        clear HB2 hall HT d e
        go_wp2_with fail
        go_ret
        exact ⟨ret_bool HE.out.symm, H2.out.trans (HB3.out.mono H2.out.size)⟩
    · obtain rfl : k = l.length := by omega
      have e : meet t l = false := by
        unfold meet
        rw [List.any_eq_false]
        intro x hx
        rw [List.take_length] at hall
        simp [hall x hx]
      have HE := Lib.hid e
      clear hall e hn
      go_wp2_with fail
      go_ret
      exact ⟨ret_bool HE.out.symm, H2.out.trans (hB.out.mono H2.out.size)⟩
end
theorem tm_mod (n c : Int) : n.tmod c % c = n % c := by
  have h := Int.add_mul_emod_self_left (n.tmod c) c (n.tdiv c)
  rw [Int.tmod_add_mul_tdiv] at h
  exact h.symm
theorem round_any (k : Int) (n : Int) (w : World) (h0 : 0 < n) (h1 : n ≤ 1000000) : Calls Try.prog 13 #[.int .i64 k, .int .i64 n] w fun e w' => e = .returned (.int .i64 (k % n)) ∧ w = w' := by
  have e1 := Int.lt_tmod_of_pos k h0
  have e2 := Int.tmod_lt_of_pos k h0
  have e3 : (n == 0) = false := by rw [beq_eq_false_iff_ne]; omega
  have E : Hid ((k.tmod n + n) % n = k % n) := by
    show _ = _
    rw [Int.add_emod_right, tm_mod]
  go_enter Try.func13, Try.ntmps13
  go_wp2
  go_ret
  exact ⟨ret_int E.out, rfl⟩
end Go.Proofs.Ytdpapnfjpefhkaa.Ch
namespace Go.Proofs.Ytdpapnfjpefhkaa.Ch
open Go.RowKit
set_option linter.unusedVariables false
set_option maxRecDepth 100000

/-- Who waits, and what it is told. -/
def wt (s : CS) (x : Wt) (b : Bool) : CS × Int :=
  if b = true ∧ s.kd ≠ 0 then (s, 7) else if s.cl = true then (s, 5) else if (fr s b || meet x.t (s.q (!b))) = true then (s, 1) else (s.sq b (s.q b ++ [x]), 0)
def WaR (F : Nat → Prop) (c : Nat) (g : CS × Int) (w : World) (e : Ending) (w' : World) : Prop := e = .returned (.int .i64 g.2) ∧ Go F c g.1 w w'
section
variable {w : World} {c : Nat} {F : Nat → Prop} {s : CS}
theorem wait_no (x : Wt) (b : Bool) (h : CH w F c s) (hn : (s.q (!b)).length ≤ 1000000) (hk : ¬ (b = true ∧ s.kd ≠ 0)) (hc : s.cl = false) (hm : (fr s b || meet x.t (s.q (!b))) = true) : Calls Try.prog 27 #[.pointer (some ⟨c, 0, none⟩), wG x, .bool b] w (WaR F c (s, 1) w) := by
  have c0 := (h.later (below_al w (.cells #[.int .i64 x.t, .int .i64 x.c, .int .i64 x.v] 65))).c0
  have c1 := (h.later (below_al w (.cells #[.int .i64 x.t, .int .i64 x.c, .int .i64 x.v] 65))).c1
  rw [hc] at c1
  have HC := Lib.hid (h.later (below_al w (.cells #[.int .i64 x.t, .int .i64 x.c, .int .i64 x.v] 65)))
  have HC0 := Lib.hid h
  have HN := Lib.hid hn
  have HK : Hid (∀ n, (w.alloc (.cells #[.int .i64 x.t, .int .i64 x.c, .int .i64 x.v] 65)).drewN n = (w.alloc (.cells #[.int .i64 x.t, .int .i64 x.c, .int .i64 x.v] 65)).drewN n) := fun _ => rfl
  clear h hn hc
  unfold wG
  cases b with
  | true =>
    have b1 : ((s.kd : Int) == 0) = true := by
      rw [beq_iff_eq]
      by_cases h0 : s.kd = 0
      · rw [h0]; rfl
      · exact absurd ⟨rfl, h0⟩ hk
    clear hk
    cases hf : fr s true with
    | true =>
      clear hm
      go_enter Try.func27, Try.ntmps27
      go_wp2_with fail
      refine (free_any true HC.out).mono ?_
      rintro e w' ⟨rfl, n, rfl⟩
      rw [hf]
      go_wp2_with fail
      go_ret
      exact ⟨rfl, (((Go.here HC0.out).later (below_al _ _)).draws rfl rfl rfl rfl)⟩
    | false =>
      rw [hf, Bool.false_or] at hm
      go_enter Try.func27, Try.ntmps27
      go_wp2_with fail
      refine (free_any true HC.out).mono ?_
      rintro e w' ⟨rfl, n, rfl⟩
      rw [hf]
      go_wp2_with fail
      refine (meets_any x.t true (HC.out.draw n) HN.out).mono ?_
      rintro e w2 ⟨rfl, hb⟩
      rw [hm]
      have HB := Lib.hid hb
      clear hb
      go_wp2_with fail
      go_ret
      exact ⟨rfl, (Go.here HC0.out).later ((below_drewN (below_al w (.cells #[.int .i64 x.t, .int .i64 x.c, .int .i64 x.v] 65)) n).trans (HB.out.mono (by simp)))⟩
  | false =>
    clear hk
    cases hf : fr s false with
    | true =>
      clear hm
      go_enter Try.func27, Try.ntmps27
      go_wp2_with fail
      refine (free_any false HC.out).mono ?_
      rintro e w' ⟨rfl, n, rfl⟩
      rw [hf]
      go_wp2_with fail
      go_ret
      exact ⟨rfl, (((Go.here HC0.out).later (below_al _ _)).draws rfl rfl rfl rfl)⟩
    | false =>
      rw [hf, Bool.false_or] at hm
      go_enter Try.func27, Try.ntmps27
      go_wp2_with fail
      refine (free_any false HC.out).mono ?_
      rintro e w' ⟨rfl, n, rfl⟩
      rw [hf]
      go_wp2_with fail
      refine (meets_any x.t false (HC.out.draw n) HN.out).mono ?_
      rintro e w2 ⟨rfl, hb⟩
      rw [hm]
      have HB := Lib.hid hb
      clear hb
      go_wp2_with fail
      go_ret
      exact ⟨rfl, (Go.here HC0.out).later ((below_drewN (below_al w (.cells #[.int .i64 x.t, .int .i64 x.c, .int .i64 x.v] 65)) n).trans (HB.out.mono (by simp)))⟩
theorem wait_kind (x : Wt) (h : CH w F c s) (hk : s.kd ≠ 0) : Calls Try.prog 27 #[.pointer (some ⟨c, 0, none⟩), wG x, .bool true] w (WaR F c (s, 7) w) := by
  have c0 := (h.later (below_al w (.cells #[.int .i64 x.t, .int .i64 x.c, .int .i64 x.v] 65))).c0
  have b1 : ((s.kd : Int) == 0) = false := by rw [beq_eq_false_iff_ne]; omega
  have HC0 := Lib.hid h
  clear h hk
  unfold wG
  go_enter Try.func27, Try.ntmps27
  go_wp2_with fail
  go_ret
  exact ⟨rfl, (Go.here HC0.out).later (below_al _ _)⟩
theorem wait_closed (x : Wt) (b : Bool) (h : CH w F c s) (hk : ¬ (b = true ∧ s.kd ≠ 0)) (hc : s.cl = true) : Calls Try.prog 27 #[.pointer (some ⟨c, 0, none⟩), wG x, .bool b] w (WaR F c (s, 5) w) := by
  have c0 := (h.later (below_al w (.cells #[.int .i64 x.t, .int .i64 x.c, .int .i64 x.v] 65))).c0
  have c1 := (h.later (below_al w (.cells #[.int .i64 x.t, .int .i64 x.c, .int .i64 x.v] 65))).c1
  rw [hc] at c1
  have HC0 := Lib.hid h
  clear h hc
  unfold wG
  cases b with
  | true =>
    have b1 : ((s.kd : Int) == 0) = true := by
      rw [beq_iff_eq]
      by_cases h0 : s.kd = 0
      · rw [h0]; rfl
      · exact absurd ⟨rfl, h0⟩ hk
    clear hk
    go_enter Try.func27, Try.ntmps27
    go_wp2_with fail
    go_ret
    exact ⟨rfl, (Go.here HC0.out).later (below_al _ _)⟩
  | false =>
    clear hk
    go_enter Try.func27, Try.ntmps27
    go_wp2_with fail
    go_ret
    exact ⟨rfl, (Go.here HC0.out).later (below_al _ _)⟩
set_option maxHeartbeats 2000000 in
theorem wait_yes (x : Wt) (b : Bool) (hx : Wf x.t) (h : CH w F c s) (hn : ∀ b, (s.q b).length ≤ 1000000) (hk : ¬ (b = true ∧ s.kd ≠ 0)) (hc : s.cl = false) (hf : fr s b = false) (hm : meet x.t (s.q (!b)) = false) : Calls Try.prog 27 #[.pointer (some ⟨c, 0, none⟩), wG x, .bool b] w (WaR F c (s.sq b (s.q b ++ [x]), 0) w) := by
  have c0 := (h.later (below_al w (.cells #[.int .i64 x.t, .int .i64 x.c, .int .i64 x.v] 65))).c0
  have c1 := (h.later (below_al w (.cells #[.int .i64 x.t, .int .i64 x.c, .int .i64 x.v] 65))).c1
  rw [hc] at c1
  have HC := Lib.hid (h.later (below_al w (.cells #[.int .i64 x.t, .int .i64 x.c, .int .i64 x.v] 65)))
  have HK : Hid ((w.alloc (.cells #[.int .i64 x.t, .int .i64 x.c, .int .i64 x.v] 65)).heap[w.heap.size]? = some (.cells #[.int .i64 x.t, .int .i64 x.c, .int .i64 x.v] 65 (0, 0))) := heap_alloc_new _ _
  have HN := Lib.hid hn
  clear h hn hc
  unfold wG
  cases b with
  | true =>
    have b1 : ((s.kd : Int) == 0) = true := by
      rw [beq_iff_eq]
      by_cases h0 : s.kd = 0
      · rw [h0]; rfl
      · exact absurd ⟨rfl, h0⟩ hk
    clear hk
    go_enter Try.func27, Try.ntmps27
    go_wp2_with fail
    refine (free_any true HC.out).mono ?_
    rintro e w' ⟨rfl, n, rfl⟩
    rw [hf]
    go_wp2_with fail
    refine (meets_any x.t true (HC.out.draw n) (HN.out false)).mono ?_
    rintro e w2 ⟨rfl, hb⟩
    rw [hm]
    have HC2 := Lib.hid ((HC.out.draw n).later hb)
    have HB : Hid (Below w.heap.size w w2) := (below_drewN (below_al w (.cells #[.int .i64 x.t, .int .i64 x.c, .int .i64 x.v] 65)) n).trans (hb.mono (by simp))
    have a := (hb.block w.heap.size (by simp)).trans HK.out
    have a0 := cell_of_row w2 w.heap.size 0 _ _ _ a
    have a1 := cell_of_row w2 w.heap.size 1 _ _ _ a
    have a2 := cell_of_row w2 w.heap.size 2 _ _ _ a
    simp only [List.getElem?_toArray, List.getElem?_cons_succ, List.getElem?_cons_zero] at a0 a1 a2
    have HL : Hid (∀ w3 : World, w3.heap = w2.heap → Calls Try.prog 47 #[.pointer (some ⟨c, 0, none⟩), .bool true] w3 fun e w' => e = .returned (.pointer (some ⟨c, 3, none⟩)) ∧ w3 = w') := fun w3 e => ch_line (HC2.out.keep fun _ _ => by rw [e]) true
    have HP : Hid (∀ w3 : World, w3.heap = w2.heap → w3.os = w2.os → w3.tape = w2.tape → w3.output = w2.output → Calls Try.prog 48 #[.pointer (some ⟨c, 3, none⟩), wG x] w3 fun e w' => (∃ k, e = .returned (.int .i64 k)) ∧ Go F c { s with ss := s.ss ++ [x] } w w') := by
      intro w3 e1 e2 e3 e4
      refine (ch_push x (HC2.out.keep (w' := w3) fun _ _ => by rw [e1]) true hx (HN.out true)).mono ?_
      rintro e w4 ⟨h1, g⟩
      exact ⟨h1, Go.from HB.out (Go.comp ((Tn.refl F w2).draws e1 e2 e3 e4) (fun b hb => .inl hb) g)⟩
    clear hb a hf hm HC HC2 HK HB b1 c0 c1
    unfold wG at HP
    go_wp2_with fail
    go_region_with (first
      | (go_at_call 47; go_loud (refine (HL.out _ (by rfl)).mono ?_; rintro e w3 ⟨rfl, rfl⟩))
      | (go_at_call 48; go_loud (refine (HP.out _ (by rfl) (by rfl) (by rfl) (by rfl)).mono ?_; rintro e w3 ⟨⟨k, rfl⟩, g⟩; have G := Lib.hid g; clear g)))
    all_goals
      go_wp2_with fail
      go_ret
      exact ⟨rfl, G.out.draws rfl rfl rfl rfl⟩
  | false =>
    clear hk
    go_enter Try.func27, Try.ntmps27
    go_wp2_with fail
    refine (free_any false HC.out).mono ?_
    rintro e w' ⟨rfl, n, rfl⟩
    rw [hf]
    go_wp2_with fail
    refine (meets_any x.t false (HC.out.draw n) (HN.out true)).mono ?_
    rintro e w2 ⟨rfl, hb⟩
    rw [hm]
    have HC2 := Lib.hid ((HC.out.draw n).later hb)
    have HB : Hid (Below w.heap.size w w2) := (below_drewN (below_al w (.cells #[.int .i64 x.t, .int .i64 x.c, .int .i64 x.v] 65)) n).trans (hb.mono (by simp))
    have a := (hb.block w.heap.size (by simp)).trans HK.out
    have a0 := cell_of_row w2 w.heap.size 0 _ _ _ a
    have a1 := cell_of_row w2 w.heap.size 1 _ _ _ a
    have a2 := cell_of_row w2 w.heap.size 2 _ _ _ a
    simp only [List.getElem?_toArray, List.getElem?_cons_succ, List.getElem?_cons_zero] at a0 a1 a2
    have HL : Hid (∀ w3 : World, w3.heap = w2.heap → Calls Try.prog 47 #[.pointer (some ⟨c, 0, none⟩), .bool false] w3 fun e w' => e = .returned (.pointer (some ⟨c, 6, none⟩)) ∧ w3 = w') := fun w3 e => ch_line (HC2.out.keep fun _ _ => by rw [e]) false
    have HP : Hid (∀ w3 : World, w3.heap = w2.heap → w3.os = w2.os → w3.tape = w2.tape → w3.output = w2.output → Calls Try.prog 48 #[.pointer (some ⟨c, 6, none⟩), wG x] w3 fun e w' => (∃ k, e = .returned (.int .i64 k)) ∧ Go F c { s with rs := s.rs ++ [x] } w w') := by
      intro w3 e1 e2 e3 e4
      refine (ch_push x (HC2.out.keep (w' := w3) fun _ _ => by rw [e1]) false hx (HN.out false)).mono ?_
      rintro e w4 ⟨h1, g⟩
      exact ⟨h1, Go.from HB.out (Go.comp ((Tn.refl F w2).draws e1 e2 e3 e4) (fun b hb => .inl hb) g)⟩
    clear hb a hf hm HC HC2 HK HB c0 c1
    unfold wG at HP
    go_wp2_with fail
    go_region_with (first
      | (go_at_call 47; go_loud (refine (HL.out _ (by rfl)).mono ?_; rintro e w3 ⟨rfl, rfl⟩))
      | (go_at_call 48; go_loud (refine (HP.out _ (by rfl) (by rfl) (by rfl) (by rfl)).mono ?_; rintro e w3 ⟨⟨k, rfl⟩, g⟩; have G := Lib.hid g; clear g)))
    all_goals
      go_wp2_with fail
      go_ret
      exact ⟨rfl, G.out.draws rfl rfl rfl rfl⟩
theorem wait_any (x : Wt) (b : Bool) (hx : Wf x.t) (h : CH w F c s) (hn : ∀ b, (s.q b).length ≤ 1000000) : Calls Try.prog 27 #[.pointer (some ⟨c, 0, none⟩), wG x, .bool b] w (WaR F c (wt s x b) w) := by
  unfold wt
  split
  · rename_i hk
    obtain ⟨rfl, hk⟩ := hk
    exact wait_kind x h hk
  · rename_i hk
    split
    · rename_i hc
      exact wait_closed x b h hk hc
    · rename_i hc
      have hc' : s.cl = false := by simpa using hc
      split
      · rename_i hm
        exact wait_no x b h (hn _) hk hc' hm
      · rename_i hm
        simp only [Bool.or_eq_true, not_or, Bool.not_eq_true] at hm
        exact wait_yes x b hx h hn hk hc' hm.1 hm.2
end
end Go.Proofs.Ytdpapnfjpefhkaa.Ch
namespace Go.Proofs.Ytdpapnfjpefhkaa.Ch
open Go.RowKit
set_option linter.unusedVariables false
set_option maxRecDepth 100000

/-! Who is woken. -/
def one (acc : List Wk) (x : Wt) (p : Bool) : List Wk := if x.t ∈ acc.map (·.t) then acc else acc ++ [⟨x.t, x.c, 0, false, p⟩]
def shp : List Wk → List Wt → Bool → List Wk
  | acc, [], _ => acc
  | acc, x :: r, p => shp (one acc x p) r p
def tot (s : CS) : List Wk := shp (shp [] s.rs false) s.ss true
def sS (s : CS) : Bool → List Wt → CS
  | false, l => { s with cl := true, rs := l }
  | true, l => { s with cl := true, ss := l, rs := [] }
def tE (s : CS) (acc : List Wk) : Bool → List Wt → List Wk
  | false, l => shp (shp acc l false) s.ss true
  | true, l => shp acc l true
def oB (s : CS) : Bool → Nat
  | false => s.ss.length
  | true => 0
theorem sS_q (s : CS) (sd : Bool) (l : List Wt) : (sS s sd l).q sd = l := by cases sd <;> rfl
theorem sS_sq (s : CS) (sd : Bool) (l l' : List Wt) : (sS s sd l).sq sd l' = sS s sd l' := by cases sd <;> rfl
theorem tE_cons (s : CS) (acc : List Wk) (sd : Bool) (x : Wt) (r : List Wt) : tE s acc sd (x :: r) = tE s (one acc x sd) sd r := by cases sd <;> rfl
/-- What is told so far, and what is left. -/
structure PF (s : CS) (sd : Bool) (acc : List Wk) (l : List Wt) : Prop where
  e : tE s acc sd l = tot s
  b : acc.length + l.length + oB s sd ≤ s.rs.length + s.ss.length
theorem PF.skip {s : CS} {sd : Bool} {acc : List Wk} {x : Wt} {r : List Wt} (h : PF s sd acc (x :: r)) (hx : x.t ∈ acc.map (·.t)) : PF s sd acc r :=
  ⟨by have := h.e; rw [tE_cons] at this; unfold one at this; rwa [if_pos hx] at this, by have := h.b; simp at this; omega⟩
theorem PF.add {s : CS} {sd : Bool} {acc : List Wk} {x : Wt} {r : List Wt} (h : PF s sd acc (x :: r)) (hx : x.t ∉ acc.map (·.t)) : PF s sd (acc ++ [⟨x.t, x.c, 0, false, sd⟩]) r :=
  ⟨by have := h.e; rw [tE_cons] at this; unfold one at this; rwa [if_neg hx] at this, by have := h.b; simp at this ⊢; omega⟩

/-! A set of tasks. -/
abbrev kL (x : Int) : Lit := .int .i64 x
theorem law : Maps.Keyed Try.prog 3 := Maps.int_keyed Try.underlying3
theorem keyI {x : Int} (h : Wf x) : keyOf Try.prog 3 (.int .i64 x) = some (kL x) := Maps.keyOf_int_mk Try.underlying3 h
theorem kL_ne {x y : Int} (h : x ≠ y) : kL x ≠ kL y := fun e => h (by injection e)
theorem kL_key (x : Int) : WideAt.IsKeyLit (kL x) := trivial
theorem zero108 (w : World) : (zeroValue 201).run Try.prog w = .ok (.agg #[]) w := by kernel_rfl
/-- Nothing but block b has turned. -/
def Trn (w w' : World) (b : Nat) : Prop := w'.os = w.os ∧ w'.tape = w.tape ∧ w'.output = w.output ∧ w'.heap.size = w.heap.size ∧ ∀ k, k ≠ b → w'.heap[k]? = w.heap[k]?
theorem turned_block {w w' : World} {b : Nat} (h : w.mapTurned w' b) : Trn w w' b := by
  obtain ⟨es, clock, es', clock', hb, rfl⟩ := h
  exact ⟨rfl, rfl, rfl, by simp [ChangeMaps.setBlock], fun k hk => ChangeMaps.heap_setBlock_other hb _ hk⟩
def Wm (w : World) (b : Nat) (l : List Int) : Prop :=
  ∃ D : DataW Unit, w.ownsMap Try.prog 3 unitElem b l.length D ∧ Maps.size D = l.length ∧ ∀ x, Maps.has D (kL x) = decide (x ∈ l)
section
variable {w w' : World} {b : Nat} {l : List Int}
theorem own_exact {n : Nat} {D : DataW Unit} (h : w.ownsMap Try.prog 3 unitElem b n D) : w.ownsMap Try.prog 3 unitElem b (Maps.size D) D := by
  obtain ⟨es, clock, hb, F, _, rfl⟩ := h
  refine ⟨es, clock, hb, F, ?_, rfl⟩
  simp [Maps.size, length_sorted]
theorem Wm.blk (h : Wm w b l) : ∃ es clock, w.heap[b]? = some (.map es clock) := by obtain ⟨D, ⟨es, clock, h, _⟩, _⟩ := h; exact ⟨es, clock, h⟩
theorem Wm.lt (h : Wm w b l) : b < w.heap.size := by obtain ⟨es, clock, h⟩ := h.blk; exact lt_of_blk h
theorem Wm.ne (h : Wm w b l) {k : Nat} {cs : Array Value} {t : TypeId} {fr : Nat × Nat} (hk : w.heap[k]? = some (.cells cs t fr)) : k ≠ b := by
  rintro rfl; obtain ⟨es, clock, h⟩ := h.blk; rw [hk] at h; cases h
theorem Wm.keep (h : Wm w b l) (e : w'.heap[b]? = w.heap[b]?) : Wm w' b l := by
  obtain ⟨D, ⟨es, clock, h1, h2⟩, h3⟩ := h
  exact ⟨D, ⟨es, clock, by rw [e]; exact h1, h2⟩, h3⟩
theorem Wm.new (w : World) : Wm (w.alloc (.map #[] 0)) w.heap.size [] := ⟨_, World.ownsMap_made w Try.prog 3 unitElem, rfl, fun x => rfl⟩
theorem Wm.look (h : Wm w b l) {x : Int} (hx : Wf x) : (Instr.lookup 199 (.map (some b)) (.int .i64 x) true).run Try.prog w = .ok (.tuple #[.agg #[], .bool (decide (x ∈ l))]) w := by
  obtain ⟨D, h1, h2, h3⟩ := h
  obtain ⟨v, ps, hrun, hv⟩ := h1.look_ok law Try.underlying199 (zero108 w) unitElem_mk (keyI hx)
  obtain ⟨rfl, _⟩ := unitElem_inv hv
  rw [h3] at hrun
  exact hrun
theorem Wm.store (h : Wm w b l) {x : Int} (hx : Wf x) (hn : l.length < maxLen) (hm : x ∉ l) :
    ∃ w', (Instr.mapUpdate 199 (.map (some b)) (.int .i64 x) (.agg #[])).run Try.prog w = .ok () w' ∧ Trn w w' b ∧ Wm w' b (l ++ [x]) := by
  obtain ⟨D, h1, h2, h3⟩ := h
  obtain ⟨w', hrun, ho, ht⟩ := h1.store law Try.underlying199 hn (keyI hx) (unitElem_mk (H := Unit))
  have h5 := own_exact ho
  have h6 : Maps.size (D.put (kL x) (.agg [])) = (l ++ [x]).length := by
    rw [Maps.size_put (h1.tidy law), h3, decide_eq_false hm, if_neg (by simp), h2]; simp
  rw [h6] at h5
  refine ⟨w', hrun, turned_block ht, D.put (kL x) (.agg []), h5, h6, ?_⟩
  intro y
  by_cases e : y = x
  · subst e
    rw [Maps.has_put_same h1.isMap (kL_key _)]; simp
  · rw [Maps.has_put_other (kL_ne e), h3]; simp [e]
variable {ops : Array Oper} {rest : List Oper} {op : Oper} {a : Act} {Q : Exit → Act → World → Prop}
theorem wp_store {x : Int} (hg : op.guard = none) (m y z : Operand) (hop : op.op = Op.mapUpdate 199 m y z)
    (h : Wm w b l) (hx : Wf x) (hn : l.length < maxLen) (hmem : x ∉ l) (hm : a.eval m = .map (some b)) (hy : a.eval y = .int .i64 x) (hz : a.eval z = .agg #[])
    (hK : ∀ w', Trn w w' b → Wm w' b (l ++ [x]) → wpList Try.prog ops Q rest (a.put op.dst undef) w') : wpList Try.prog ops Q (op :: rest) a w := by
  refine wpList_plain hg fun K' hK' => ?_
  obtain ⟨w', hrun, r1, r2⟩ := h.store hx hn hmem
  unfold Oper.wp
  simp [execOp, hop, hm, hy, hz, hrun, Result.andThen]
  exact hK' _ _ (hK w' r1 r2)
end

/-! The state while all are woken. -/
def kV (x : Wk) : List Value := [.int .i64 x.t, .int .i64 x.c, .int .i64 x.v, .bool x.ok, .bool x.pn]
theorem kV_len (x : Wk) : (kV x).length = 5 := rfl
def flK (l : List Wk) : List Value := l.flatMap kV
theorem flK_app (a b : List Wk) : flK (a ++ b) = flK a ++ flK b := by unfold flK; rw [List.flatMap_append]
theorem flK_one (l : List Wk) : ∀ u ∈ flK l, u.oneCell' = true := by
  intro u hu
  unfold flK at hu
  obtain ⟨x, _, hx⟩ := List.mem_flatMap.1 hu
  simp [kV] at hx
  rcases hx with rfl | rfl | rfl | rfl | rfl <;> rfl
theorem own_keep {w w' : World} {base n sz : Nat} {e : TypeId} {v : Value} {xs : List Value} (h : w.ownsRow base e sz v n xs) (k : ∀ (b : Nat) (cs : Array Value), w.heap[b]? = some (.cells cs e (0, 0)) → w'.heap[b]? = w.heap[b]?) : w'.ownsRow base e sz v n xs := by
  refine ⟨h.1, ?_⟩
  rcases h.2 with hn | ⟨g, cap, cur, q1, q2, q3, q4⟩
  · exact .inl hn
  · exact .inr ⟨g, cap, cur, q1, q2, by rw [k g _ q3]; exact q3, q4⟩
theorem RdK.of_own {w : World} {base n : Nat} {v : Value} {l : List Wk} (hn : l.length = n) (h : w.ownsRow base 67 5 v n (flK l)) : ∃ A cap, v = .slice A n cap ∧ RdK w A n l := by
  rcases h.2 with ⟨rfl, h0⟩ | ⟨g, cap, cur, rfl, q2, q3, q4⟩
  · refine ⟨none, 0, by rw [h0], hn, fun hp => absurd hp (by omega)⟩
  · refine ⟨_, cap, rfl, hn, fun hp => ⟨g, _, rfl, q3, fun i x hx => ?_⟩⟩
    have hi : i < l.length := (List.getElem?_eq_some_iff.1 hx).1
    have hc : ∀ j u, j < 5 → (kV x)[j]? = some u → w.cell? ⟨g, i * 5 + j, none⟩ = some u := fun j u hj hu => by
      rw [h.cellAt (i * 5 + j) (by omega)]
      exact (flat_at kV 5 kV_len l i x hx j hj).trans hu
    exact ⟨hc 0 _ (by omega) rfl, hc 1 _ (by omega) rfl, hc 2 _ (by omega) rfl, hc 3 _ (by omega) rfl, hc 4 _ (by omega) rfl⟩

structure SX (W : World) (F : Nat → Prop) (c b : Nat) (v : Value) (acc : List Wk) (ks : List Int) (st : CS) (w : World) : Prop where
  go : Go F c st W w
  hb : W.heap.size ≤ b
  m : Wm w b ks
  row : w.ownsRow W.heap.size 67 5 v acc.length (flK acc)
section
variable {W w w' : World} {F : Nat → Prop} {c b : Nat} {v v' : Value} {acc acc' : List Wk} {ks ks' : List Int} {st st' : CS}
theorem SX.at (h : SX W F c b v acc ks st w) : ∃ F', CH w F' c st ∧ ∀ st' w', Go F' c st' w w' → SX W F c b v acc ks st' w' := by
  obtain ⟨F', hc, hs, t⟩ := h.go
  refine ⟨F', hc, fun st' w' g => ⟨Go.comp t hs g, h.hb, h.m.keep ?_, own_keep h.row ?_⟩⟩
  · exact g.other hc h.m.lt fun ⟨cs, t, h1, _⟩ => h.m.ne h1 rfl
  · exact fun k cs hk => g.other hc (lt_of_blk hk) (not_isc hk (by decide))
theorem SX.later (h : SX W F c b v acc ks st w) (hb : Below w.heap.size w w') : SX W F c b v acc ks st w' :=
  ⟨h.go.later hb, h.hb, h.m.keep (hb.block _ h.m.lt), own_keep h.row fun k cs hk => hb.block _ (lt_of_blk hk)⟩
theorem SX.alloc (h : SX W F c b v acc ks st w) (o : Obj) : SX W F c b v acc ks st (w.alloc o) := h.later (below_al w o)
theorem SX.store (h : SX W F c b v acc ks st w) (t : Trn w w' b) (m : Wm w' b ks') : SX W F c b v acc ks' st w' := by
  obtain ⟨F', hc, hs, tn⟩ := h.go
  obtain ⟨t1, t2, t3, t4, t5⟩ := t
  have hn : ∀ k, IsC w k → k ≠ b := fun k ⟨cs, t, hk, _⟩ => h.m.ne hk
  refine ⟨⟨F', hc.keep fun k hk => t5 k (hn k (hc.tag hk)), hs, tn.comp (F := F) (G := fun k => k = b) ⟨t1, t2, t3, Nat.le_of_eq t4.symm, fun k _ hk => t5 k hk⟩ (fun k hk => .inr (by have := h.hb; omega))⟩, h.hb, m, own_keep h.row fun k cs hk => t5 k (h.m.ne hk)⟩
theorem SX.grow (h : SX W F c b v acc ks st w) (hg : w.grownBy w' v.ownBlock) (row : w'.ownsRow W.heap.size 67 5 v' acc'.length (flK acc')) : SX W F c b v' acc' ks st w' := by
  obtain ⟨F', hc, hs, tn⟩ := h.go
  have hlt : ∀ k, v.ownBlock = some k → W.heap.size ≤ k ∧ ∃ cs, w.heap[k]? = some (.cells cs 67 (0, 0)) := fun k hk => by
    rcases h.row.2 with ⟨rfl, _⟩ | ⟨g, cap, cur, rfl, q2, q3, q4⟩
    · cases hk
    · cases hk; exact ⟨(h.row.lt _ rfl).1, _, q3⟩
  have hne : ∀ k, IsC w k → v.ownBlock ≠ some k := fun k hi e => by
    obtain ⟨_, cs, h1⟩ := hlt k e
    exact not_isc h1 (by decide) hi
  refine ⟨⟨F', hc.keep fun k hk => hg.block k (hc.lt hk) (fun e => hne k (hc.tag hk) e.symm), hs, ?_⟩, h.hb, h.m.keep (hg.block b h.m.lt fun e => ?_), row⟩
  · have hb := (Below.refl w.heap.size w)
    refine tn.comp (F := F) (G := fun k => v.ownBlock = some k) ⟨hg.os, hg.tape, hg.output, hg.size, fun k hk hn => hg.block k hk fun e => hn e.symm⟩ (fun k hk => .inr (hlt k hk).1)
  · obtain ⟨_, cs, h1⟩ := hlt b e.symm
    exact h.m.ne h1 rfl
end
end Go.Proofs.Ytdpapnfjpefhkaa.Ch
