/- All tells all in order, in a row of its own: Waiting; the laws' own helpers Waits and Round. Conditions: each theorem's own premises. -/
import Derived.Test.YtmadcnpkaijllaaCRow
import Derived.Test.YtmadcnpkaijllaaCCtr
namespace Go.Proofs.Ytmadcnpkaijllaa.Ch
open Go.RowKit
set_option linter.unusedVariables false
set_option maxRecDepth 100000

theorem inf30 : (Try.prog.info? 60).map (fun i => (i.zero, i.size, i.bytes)) = some (some (.agg #[.int .i64 0, .int .i64 0, .int .i64 0]), 3, 24) := by kernel_rfl
theorem grow_blk {w w' : World} {e : TypeId} {base sz n : Nat} {v : Value} {xs : List Value} (ho : w.ownsRow base e sz v n xs) (hg : w.grownBy w' v.ownBlock) {b : Nat} {cs : Array Value} {t : TypeId} {fr : Nat × Nat} (hb : w.heap[b]? = some (.cells cs t fr)) (ht : t ≠ e) : w'.heap[b]? = w.heap[b]? := hg.block b (lt_of_blk hb) fun eq => by
  rcases ho.2 with ⟨rfl, _⟩ | ⟨g, cap, cur, rfl, _, hc, _⟩
  · cases eq
  · cases eq
    exact tag_ne hb hc ht rfl
theorem LQ.grow {w w' : World} {s : Bool} {q : Nat} {R : Rs} {ns : Ns} {e : TypeId} {base sz n : Nat} {v : Value} {xs : List Value} (h : LQ w s q R ns) (ho : w.ownsRow base e sz v n xs) (he : e ≠ 89 ∧ e ≠ 115) (hg : w.grownBy w' v.ownBlock) : LQ w' s q R ns := h.keep fun b hk => by
  rcases hk with rfl | ⟨m, hm, rfl⟩
  · exact grow_blk ho hg h.hq (fun e => he.1 e.symm)
  · obtain ⟨_, hc⟩ := h.isn m hm
    exact grow_blk ho hg hc (fun e => he.2 e.symm)
def AllR (l : List Wt) (w : World) (e : Ending) (w' : World) : Prop := ∃ A c, e = .returned (.slice A l.length c) ∧ RdW w' A l.length l ∧ Below w.heap.size w w'
structure AllS (W : World) (s : Bool) (q : Nat) (R : Rs) (ns pre rest : Ns) (v : Value) (wr : World) : Prop where
  e : ns = pre ++ rest
  lq : LQ wr s q R ns
  row : wr.ownsRow W.heap.size 60 3 v pre.length (flW (pre.map (·.2)))
  bel : Below W.heap.size W wr
theorem AllS.fin {W wr : World} {s : Bool} {q : Nat} {R : Rs} {ns pre : Ns} {v : Value} (h : AllS W s q R ns pre [] v wr) : AllR (ns.map (·.2)) W (.returned v) wr := by
  obtain ⟨e, lq, row, bel⟩ := h
  rw [List.append_nil] at e
  subst e
  obtain ⟨A, c, rfl, _, _⟩ := own_cap row
  refine ⟨A, c, by rw [List.length_map], ?_, bel⟩
  rw [List.length_map]
  exact RdW.of_row (List.length_map ..) row
set_option maxHeartbeats 1000000 in
theorem all_any {w : World} {s : Bool} {q : Nat} {R : Rs} {ns : Ns} (h : LQ w s q R ns) (hl : ns.length ≤ 1000000) : Calls Try.prog 52 #[.pointer (some ⟨q, off s, none⟩)] w (AllR (ns.map (·.2)) w) := by
  obtain ⟨i0, hi, hz0, hz1, hz2⟩ := info_parts inf30
  have HL := Lib.hid h
  have HS : Hid (AllS w s q R ns [] ns (.slice none 0 0) w) := ⟨rfl, h, World.ownsRow_nil _ _ _ _, Below.refl _ _⟩
  clear h
  go_enter Try.func52, Try.ntmps52
  go_wp2_with fail
  refine (head_any HL.out).mono ?_
  rintro e w' ⟨rfl, rfl⟩
  go_wp2_with fail
  go_loopg [3, 4] ns.length (fun m v p wr => ∃ (pre rest : Ns), p = .pointer (adr (hd rest none)) ∧ rest.length = m ∧ Hid (AllS w s q R ns pre rest v wr))
  case atStart => exact ⟨[], ns, rfl, rfl, HS⟩
  case round =>
    obtain ⟨pre, rest, rfl, hm, hS⟩ := hrel
    clear HS HL
    cases rest with
    | nil =>
      rw [hd_nil, adr_none]
      go_wp2_with fail
      go_ret
      exact hS.out.fin
    | cons bx r =>
      obtain ⟨b, x⟩ := bx
      rw [hd_cons, adr_some]
      have hL : LQ wr s q R (pre ++ (b, x) :: r) := by rw [← hS.out.e]; exact hS.out.lq
      have hN := hL.mid.2.1
      have c0 := hN.c0
      have c1 := hN.c1
      have c2 := hN.c2
      have hlen : pre.length < 1000000 := by
        have h3 := congrArg List.length hS.out.e
        rw [List.length_append, List.length_cons] at h3
        omega
      have hsz := hS.out.bel.size
      have HM := Lib.hid hm
      clear hN hL hm
      go_wp2_with (at_builtin; go_loud (refine app_wp rfl (.tmp 13) (.tmp 18) 63 rfl w.heap.size 60 3 24 i0 (.agg #[.int .i64 0, .int .i64 0, .int .i64 0]) Try.underlying63 hi hz0 hz1 hz2 rfl (by decide) u3 pre.length (flW (pre.map (·.2))) rfl (hS.out.row.alloc _) _ (some ⟨wr.heap.size, 0, none⟩) 1 1 (flW [x]) rfl (Rd.one wr x _ rfl) (flW_one _) (by unfold maxLen; omega) (by omega) (by simp; omega) ?_; intro v1 w1 ho1 hg1; have hb1 := below_app (hS.out.bel.alloc hsz _) (Nat.le_refl _) (by simp; omega) (hS.out.row.alloc _) hg1; have hL1 : LQ w1 s q R (pre ++ (b, x) :: r) := LQ.grow (LQ.later (by rw [← hS.out.e]; exact hS.out.lq) (below_al _ _)) (hS.out.row.alloc _) (by decide) hg1; have c4 := hL1.mid.2.1.c4; have HS1 : Hid (AllS w s q R ns (pre ++ [(b, x)]) r v1 w1) := ⟨by rw [hS.out.e]; simp, (by rw [hS.out.e]; exact hL1), (by rw [List.length_append, List.map_append, flW_app]; exact ho1), hb1⟩; clear hL1 ho1 hg1 hb1))
      go_roundg r.length
      case measure => have := HM.out; simp at this; omega
      case rel => exact ⟨pre ++ [(b, x)], r, rfl, rfl, HS1⟩
section
variable {w : World} {c : Nat} {F : Nat → Prop} {s : CS}
theorem ch_all (h : CH w F c s) (b : Bool) (hn : (s.q b).length ≤ 1000000) : Calls Try.prog 52 #[.pointer (some ⟨c, off b, none⟩)] w (AllR (s.q b) w) := by
  obtain ⟨ro, ns, ms, hF, h⟩ := h
  rw [← h.len b]
  exact all_any (h.lq b) (by rw [pk_len h]; exact hn)
theorem waiting_any (b : Bool) (h : CH w F c s) (hn : (s.q b).length ≤ 1000000) : Calls Try.prog 30 #[.pointer (some ⟨c, 0, none⟩), .bool b] w (AllR (s.q b) w) := by
  have HC := Lib.hid h
  have HN := Lib.hid hn
  clear h hn
  go_enter Try.func30, Try.ntmps30
  go_wp2_with fail
  refine (ch_line HC.out b).mono ?_
  rintro e w' ⟨rfl, rfl⟩
  go_wp2_with fail
  refine (ch_all HC.out b HN.out).mono ?_
  rintro e w' ⟨A, n, rfl, h1, h2⟩
  have H1 := Lib.hid h1
  have H2 := Lib.hid h2
  clear h1 h2
  go_wp2
  go_ret
  exact ⟨A, n, rfl, H1.out, H2.out⟩
/-- Does another task wait on the other side? -/
def meet (t : Int) (l : List Wt) : Bool := l.any fun x => !isT t x
theorem meets_any (t : Int) (b : Bool) (h : CH w F c s) (hn : (s.q (!b)).length ≤ 1000000) : Calls Try.prog 50 #[.pointer (some ⟨c, 0, none⟩), .int .i64 t, .bool b] w fun e w' => e = .returned (.bool (meet t (s.q (!b)))) ∧ Below w.heap.size w w' := by
  have HL := Lib.hid (ch_line h (!b))
  have HA := Lib.hid (ch_all h (!b) hn)
  clear h
  generalize s.q (!b) = l at *
  go_enter Try.func50, Try.ntmps50
  go_wp2_with fail
  refine HL.out.mono ?_
  rintro e w' ⟨rfl, rfl⟩
  go_wp2_with fail
  refine HA.out.mono ?_
  rintro e w1 ⟨A, n, rfl, h1, h2⟩
  have H1 := Lib.hid h1
  have H2 := Lib.hid h2
  clear h1 h2 HA HL
  go_wp2_with fail
  go_loopw [15] (fun i wr => ∃ k : Nat, k ≤ l.length ∧ i = .int .i64 k ∧ (∀ x ∈ l.take k, isT t x = true) ∧ Hid (Below w1.heap.size w1 wr)) (fun i _ => l.length - (intOf i).toNat)
  case atStart => exact ⟨0, by omega, rfl, by simp, Below.refl _ _⟩
  case round =>
    obtain ⟨k, hk, rfl, hall, hB⟩ := hrel
    by_cases hlt : k < l.length
    · have hW := H1.out.later hB.out
      obtain ⟨bb, o, rfl, hb, hc⟩ := hW.cells (by omega)
      obtain ⟨c0, c1, c2⟩ := hc k (l[k]'hlt) (List.getElem?_eq_getElem hlt)
      have hx : l[k]? = some (l[k]'hlt) := List.getElem?_eq_getElem hlt
      have HT : Hid (l.take (k + 1) = l.take k ++ [l[k]'hlt]) := List.take_succ_eq_append_getElem hlt
      generalize l[k]'hlt = x at *
      obtain ⟨xt, xc, xv⟩ := x
      simp only at c0 c1 c2
      have q1 : (k : Int) < (l.length : Int) := by omega
      have q2 : (l.length : Int) ≤ 1000000 := by omega
      have HX := Lib.hid (List.mem_of_getElem? hx)
      have HB2 := hB.out.alloc hB.out.size (.cells #[.int .i64 xt, .int .i64 xc, .int .i64 xv] 60)
      clear hW hb hc hx hn
      by_cases d : xt = t
      · have d1 : (xt == t) = true := by simp [d]
        have HT2 : Hid (∀ x ∈ l.take (k + 1), isT t x = true) := by
          show ∀ _ ∈ _, _
          rw [HT.out]
          intro y hy
          rcases List.mem_append.1 hy with hy | hy
          · exact hall y hy
          · simp at hy; subst hy; simp [isT, d]
        clear hall HT d
        have HB3 := Lib.hid HB2
        clear HB2
        go_wp2_with fail
        go_roundw
        case rel => exact ⟨k + 1, by omega, by go_num, HT2.out, HB3⟩
        case measure => simp [intOf]; omega
      · have d1 : (xt == t) = false := by simp [d]
        have e : meet t l = true := by
          unfold meet
          rw [List.any_eq_true]
          exact ⟨_, HX.out, by simp [isT, d]⟩
        have HE := Lib.hid e
        have HB3 := Lib.hid HB2
        clear HB2 hall HT d e
        go_wp2_with fail
        go_ret
        exact ⟨ret_bool HE.out.symm, H2.out.trans (HB3.out.mono H2.out.size)⟩
    · obtain rfl : k = l.length := by omega
      have e : meet t l = false := by
        unfold meet
        rw [List.any_eq_false]
        intro x hx
        rw [List.take_length] at hall
        simp [hall x hx]
      have HE := Lib.hid e
      clear hall e hn
      go_wp2_with fail
      go_ret
      exact ⟨ret_bool HE.out.symm, H2.out.trans (hB.out.mono H2.out.size)⟩
end
theorem tm_mod (n c : Int) : n.tmod c % c = n % c := by
  have h := Int.add_mul_emod_self_left (n.tmod c) c (n.tdiv c)
  rw [Int.tmod_add_mul_tdiv] at h
  exact h.symm
theorem round_any (k : Int) (n : Int) (w : World) (h0 : 0 < n) (h1 : n ≤ 1000000) : Calls Try.prog 14 #[.int .i64 k, .int .i64 n] w fun e w' => e = .returned (.int .i64 (k % n)) ∧ w = w' := by
  have e1 := Int.lt_tmod_of_pos k h0
  have e2 := Int.tmod_lt_of_pos k h0
  have e3 : (n == 0) = false := by rw [beq_eq_false_iff_ne]; omega
  have E : Hid ((k.tmod n + n) % n = k % n) := by
    show _ = _
    rw [Int.add_emod_right, tm_mod]
  go_enter Try.func14, Try.ntmps14
  go_wp2
  go_ret
  exact ⟨ret_int E.out, rfl⟩
end Go.Proofs.Ytmadcnpkaijllaa.Ch
