/- All tells all in order, in a row of its own; the laws' own helpers Waits and Round. Conditions: each theorem's own premises. -/
import Derived.Test.YtdmdmaolbbjboaaRow
namespace Go.Proofs.Ytdmdmaolbbjboaa
open Go.RowKit
set_option linter.unusedVariables false

theorem inf28 : (Try.prog.info? 28).map (fun i => (i.zero, i.size, i.bytes)) = some (some (.agg #[.int .i64 0, .int .i64 0, .int .i64 0]), 3, 24) := by kernel_rfl
theorem grow_isq {w w' : World} {e : TypeId} {base sz n : Nat} {v : Value} {xs : List Value} (ho : w.ownsRow base e sz v n xs) (he : e ≠ 48 ∧ e ≠ 50) (hg : w.grownBy w' v.ownBlock) : ∀ b, IsQ w b → w'.heap[b]? = w.heap[b]? := fun b hq => hg.block b (isq_lt hq) fun eq => by
  rcases ho.2 with ⟨rfl, _⟩ | ⟨g, cap, cur, rfl, _, hc, _⟩
  · cases eq
  · cases eq
    exact not_isq hc he hq
theorem LQ.grow {w w' : World} {B q : Nat} {ns : Ns} {e : TypeId} {base sz n : Nat} {v : Value} {xs : List Value} (h : LQ w B q ns) (ho : w.ownsRow base e sz v n xs) (he : e ≠ 48 ∧ e ≠ 50) (hg : w.grownBy w' v.ownBlock) : LQ w' B q ns := h.keep fun b _ hq => grow_isq ho he hg b hq
def AllR (l : List Wt) (w : World) (e : Ending) (w' : World) : Prop := ∃ A c, e = .returned (.slice A l.length c) ∧ RdW w' A l.length l ∧ Below w.heap.size w w'
structure AllS (W : World) (B q : Nat) (ns pre rest : Ns) (v : Value) (wr : World) : Prop where
  e : ns = pre ++ rest
  lq : LQ wr B q ns
  row : wr.ownsRow W.heap.size 28 3 v pre.length (flW (pre.map (·.2)))
  bel : Below W.heap.size W wr
theorem AllS.fin {W wr : World} {B q : Nat} {ns pre : Ns} {v : Value} (h : AllS W B q ns pre [] v wr) : AllR (ns.map (·.2)) W (.returned v) wr := by
  obtain ⟨e, lq, row, bel⟩ := h
  rw [List.append_nil] at e
  subst e
  obtain ⟨A, c, rfl, _, _⟩ := own_cap row
  refine ⟨A, c, by rw [List.length_map], ?_, bel⟩
  rw [List.length_map]
  exact RdW.of_row (List.length_map ..) row
set_option maxHeartbeats 1000000 in
theorem all_any {w : World} {B q : Nat} {l : List Wt} (h : QL w B q l) (hl : l.length ≤ 1000000) : Calls Try.prog 14 #[.pointer (some ⟨q, 0, none⟩)] w (AllR l w) := by
  obtain ⟨ns, h, rfl⟩ := h
  rw [List.length_map] at hl
  obtain ⟨i0, hi, hz0, hz1, hz2⟩ := info_parts inf28
  have HL := Lib.hid h
  have HS : Hid (AllS w B q ns [] ns (.slice none 0 0) w) := ⟨rfl, h, World.ownsRow_nil _ _ _ _, Below.refl _ _⟩
  clear h
  go_enter Try.func14, Try.ntmps14
  go_wp2_with fail
  refine (head_any HL.out).mono ?_
  rintro e w' ⟨rfl, rfl⟩
  go_wp2_with fail
  go_loopg [3, 4] ns.length (fun m v p wr => ∃ (pre rest : Ns), p = .pointer (adr (hd rest none)) ∧ rest.length = m ∧ Hid (AllS w B q ns pre rest v wr))
  case atStart => exact ⟨[], ns, rfl, rfl, HS⟩
  case round =>
    obtain ⟨pre, rest, rfl, hm, hS⟩ := hrel
    clear HS HL
    cases rest with
    | nil =>
      rw [hd_nil, adr_none]
      go_wp2_with fail
      go_ret
      exact hS.out.fin
    | cons bx r =>
      obtain ⟨b, x⟩ := bx
      rw [hd_cons, adr_some]
      have hL : LQ wr B q (pre ++ (b, x) :: r) := by rw [← hS.out.e]; exact hS.out.lq
      have hN := hL.mid.2.1
      have c0 := hN.c0
      have c1 := hN.c1
      have c2 := hN.c2
      have hlen : pre.length < 1000000 := by
        have h3 := congrArg List.length hS.out.e
        rw [List.length_append, List.length_cons] at h3
        omega
      have hsz := hS.out.bel.size
      have HM := Lib.hid hm
      clear hN hL hm
      go_wp2_with (at_builtin; go_loud (refine app_wp rfl (.tmp 13) (.tmp 18) 26 rfl w.heap.size 28 3 24 i0 (.agg #[.int .i64 0, .int .i64 0, .int .i64 0]) Try.underlying26 hi hz0 hz1 hz2 rfl (by decide) u3 pre.length (flW (pre.map (·.2))) rfl (hS.out.row.alloc _) _ (some ⟨wr.heap.size, 0, none⟩) 1 1 (flW [x]) rfl (Rd.one wr x _ rfl) (flW_one _) (by unfold maxLen; omega) (by omega) (by simp; omega) ?_; intro v1 w1 ho1 hg1; have hb1 := below_app (hS.out.bel.alloc hsz _) (Nat.le_refl _) (by simp; omega) (hS.out.row.alloc _) hg1; have hL1 : LQ w1 B q (pre ++ (b, x) :: r) := LQ.grow (LQ.later (by rw [← hS.out.e]; exact hS.out.lq) (below_al _ _)) (hS.out.row.alloc _) (by decide) hg1; have c4 := hL1.mid.2.1.c4; have HS1 : Hid (AllS w B q ns (pre ++ [(b, x)]) r v1 w1) := ⟨by rw [hS.out.e]; simp, (by rw [hS.out.e]; exact hL1), (by rw [List.length_append, List.map_append, flW_app]; exact ho1), hb1⟩; clear hL1 ho1 hg1 hb1))
      go_roundg r.length
      case measure => have := HM.out; simp at this; omega
      case rel => exact ⟨pre ++ [(b, x)], r, rfl, rfl, HS1⟩

theorem waits_yes (A A' : Option Addr) (n c c' : Nat) (l : List Wt) (w : World) (h : RdW w A n l) (h' : RdW w A' n l) (hn : n ≤ 9223372036854775807) :
    Calls Try.prog 13 #[.slice A n c, .slice A' n c'] w fun e w' => e = .returned (.bool true) ∧ ∃ m, w' = w.drewN m := by
  replace h := Lib.hid h
  replace h' := Lib.hid h'
  go_enter Try.func13, Try.ntmps13
  go_wp2
  go_loopw [5] (fun i wr => ∃ k : Nat, k ≤ n ∧ i = .int .i64 k ∧ ∃ m, wr = w.drewN m) (fun i _ => n - (intOf i).toNat)
  case atStart => exact ⟨0, by omega, rfl, 0, rfl⟩
  case round =>
    obtain ⟨k, hk, rfl, m, rfl⟩ := hrel
    by_cases hlt : k < n
    · obtain ⟨b, off, rfl, hb, hc⟩ := h.out.cells (by omega)
      obtain ⟨b', off', rfl, hb', hc'⟩ := h'.out.cells (by omega)
      have hky : k < l.length := by rw [h.out.1]; exact hlt
      obtain ⟨c0, c1, c2⟩ := hc k (l[k]'hky) (List.getElem?_eq_getElem hky)
      obtain ⟨d0, d1, d2⟩ := hc' k (l[k]'hky) (List.getElem?_eq_getElem hky)
      generalize l[k]'hky = x at *
      obtain ⟨xt, xc, xv⟩ := x
      simp only at c0 c1 c2 d0 d1 d2
      have q1 : (k : Int) < (n : Int) := by omega
      clear hc hc' hky
      go_wp2_with fail
      go_quiet (fail)
      go_wp2_with fail
      go_roundw
      case rel => exact ⟨k + 1, by omega, by go_num, _, rfl⟩
      case measure => simp [intOf]; omega
    · go_wp2_with fail
      go_ret
      exact ⟨rfl, _, rfl⟩

theorem tm_mod (n c : Int) : n.tmod c % c = n % c := by
  have h := Int.add_mul_emod_self_left (n.tmod c) c (n.tdiv c)
  rw [Int.tmod_add_mul_tdiv] at h
  exact h.symm
theorem round_any (k : Int) (n : Int) (w : World) (h0 : 0 < n) (h1 : n ≤ 1000000) : Calls Try.prog 16 #[.int .i64 k, .int .i64 n] w fun e w' => e = .returned (.int .i64 (k % n)) ∧ w = w' := by
  have e1 := Int.lt_tmod_of_pos k h0
  have e2 := Int.tmod_lt_of_pos k h0
  have e3 : (n == 0) = false := by rw [beq_eq_false_iff_ne]; omega
  have E : Hid ((k.tmod n + n) % n = k % n) := by
    show _ = _
    rw [Int.add_emod_right, tm_mod]
  go_enter Try.func16, Try.ntmps16
  go_wp2
  go_ret
  exact ⟨ret_int E.out, rfl⟩
end Go.Proofs.Ytdmdmaolbbjboaa
