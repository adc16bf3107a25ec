/- The laws' own helpers: same, bytes, odd, Round; and Pick and Check. Conditions: each theorem's own premises. -/
import Derived.Test.YtfjphbljdijceaaDec
import Derived.Laws.BytesArg
namespace Go.Proofs.Ytfjphbljdijceaa
open Go.RowKit
set_option linter.unusedVariables false

theorem below_drewN {B : Nat} {a w : World} (h : Below B a w) (n : Nat) : Below B a (w.drewN n) := ⟨h.os, h.tape, h.output, h.size, h.block⟩
theorem str_run (w : World) (B : Nat) (A : Option Addr) (n c : Nat) (l : List Int) (h : RdB w B A n l) : (convert 24 9 (.slice A n c)).run Try.prog w = .ok (.string (strOfNums l)) w := by
  rcases Nat.eq_zero_or_pos n with h0 | h0
  · subst h0
    have hl : l = [] := List.eq_nil_of_length_eq_zero h.1
    subst hl
    rw [run_convert_bytes_string w 24 9 5 A 0 c Try.underlying24 Try.underlying5 Try.underlying9]
    cases A with
    | none => simp [Conv.bytesToString]; rfl
    | some a =>
      have hl : (loadCells a 0).run Try.prog w = .ok (([] : List Int).map (Value.int .u8)).toArray w := by
        have := run_loadCells_list (P := Try.prog) w a [] (fun j v hj => by simp at hj)
        simpa using this
      rw [run_bytesToString w a 0 c [] hl]
      rfl
  · obtain ⟨b, off, rfl, hb, hc⟩ := h.2.2 h0
    exact run_convert_bytes_arg (P := Try.prog) w 24 5 Try.underlying24 Try.underlying5 b off n c l h.1 (fun i hi => hc i _ (by rw [List.getD_eq_getElem?_getD, List.getElem?_eq_getElem (by rw [h.1]; exact hi)]; rfl)) 9 Try.underlying9

theorem bytes_yes (A A' : Option Addr) (n n' c c' B B' : Nat) (l : List Int) (w : World) (h : RdB w B A n l) (h' : RdB w B' A' n' l) :
    Calls Try.prog 14 #[.slice A n c, .slice A' n' c'] w fun e w' => e = .returned (.bool true) ∧ w = w' := by
  have h1 := str_run w B A n c l h
  have h2 := str_run w B' A' n' c' l h'
  clear h h'
  go_enter Try.func14, Try.ntmps14
  go_wp2
  go_ret
  exact ⟨rfl, rfl⟩

theorem tm_mod (n c : Int) : n.tmod c % c = n % c := by
  have h := Int.add_mul_emod_self_left (n.tmod c) c (n.tdiv c)
  rw [Int.tmod_add_mul_tdiv] at h
  exact h.symm
theorem tm_neg {n c : Int} (h0 : 0 < c) (h : n.tmod c < 0) : n.tmod c + c = n % c := by
  have e1 := Int.lt_tmod_of_pos n h0
  rw [← tm_mod, ← Int.add_emod_right, Int.emod_eq_of_lt (by omega) (by omega)]
theorem tm_pos {n c : Int} (h0 : 0 < c) (h : 0 ≤ n.tmod c) : n.tmod c = n % c := by
  have e2 := Int.tmod_lt_of_pos n h0
  rw [← tm_mod, Int.emod_eq_of_lt h e2]
theorem ret_int {k : IntKind} {a b : Int} (h : a = b) : Ending.returned (.int k a) = .returned (.int k b) := by rw [h]
theorem round_any (k : Int) (n : Int) (w : World) (h0 : 0 < n) (h1 : n ≤ 1000000) : Calls Try.prog 13 #[.int .i64 k, .int .i64 n] w fun e w' => e = .returned (.int .i64 (k % n)) ∧ w = w' := by
  have e1 := Int.lt_tmod_of_pos k h0
  have e2 := Int.tmod_lt_of_pos k h0
  have e3 : (n == 0) = false := by rw [beq_eq_false_iff_ne]; omega
  have E : Hid ((k.tmod n + n) % n = k % n) := by
    show _ = _
    rw [Int.add_emod_right, tm_mod]
  go_enter Try.func13, Try.ntmps13
  go_wp2
  go_ret
  exact ⟨ret_int E.out, rfl⟩
theorem pick_low (n c : Int) (w : World) (h : c < 1) : Calls Try.prog 15 #[.int .i64 n, .int .i64 c] w fun e w' => e = .returned (.int .i64 0) ∧ w = w' := by
  go_enter Try.func15, Try.ntmps15
  go_wp2
  go_ret
  exact ⟨rfl, rfl⟩
theorem pick_any (n c : Int) (w : World) (h : 1 ≤ c) (hc : c ≤ 9223372036854775807) : Calls Try.prog 15 #[.int .i64 n, .int .i64 c] w fun e w' => e = .returned (.int .i64 (n % c)) ∧ w = w' := by
  have e1 := Int.lt_tmod_of_pos n (show 0 < c by omega)
  have e2 := Int.tmod_lt_of_pos n (show 0 < c by omega)
  have e3 : (c == 0) = false := by rw [beq_eq_false_iff_ne]; omega
  by_cases h0 : n.tmod c < 0
  · go_enter Try.func15, Try.ntmps15
    go_wp2
    go_ret
    exact ⟨ret_int (tm_neg (by omega) h0), rfl⟩
  · go_enter Try.func15, Try.ntmps15
    go_wp2
    go_ret
    exact ⟨ret_int (tm_pos (by omega) h0), rfl⟩
theorem check_run (n d : Int) (w : World) : Calls Try.prog 16 #[.agg #[.int .i64 1, .int .i64 n, .int .i64 d]] w fun e w' => e = .returned (.int .i64 0) ∧ Below w.heap.size w w' := by
  go_enter Try.func16, Try.ntmps16
  go_wp2_with fail
  refine (has_yes (k := 1) (n := n) (d := d) (.inl rfl) _).mono ?_
  rintro e w1 ⟨rfl, hb1⟩
  have d0 : w1.cell? ⟨w.heap.size, 0, none⟩ = some (.int .i64 1) := (cell_blk (hb1.block _ (by simp)) _).trans (by simp)
  have d1 : w1.cell? ⟨w.heap.size, 1, none⟩ = some (.int .i64 n) := (cell_blk (hb1.block _ (by simp)) _).trans (by simp)
  have HB := Lib.hid ((below_al w (.cells #[.int .i64 1, .int .i64 n, .int .i64 d] 35)).trans (hb1.mono (by simp)))
  clear hb1
  go_wp2_with fail
  go_ret
  exact ⟨rfl, HB.out⟩
theorem check_adv (n : Int) (w : World) (h : 0 ≤ n) : Calls Try.prog 16 #[.agg #[.int .i64 2, .int .i64 n, .int .i64 0]] w fun e w' => e = .returned (.int .i64 0) ∧ Below w.heap.size w w' := by
  go_enter Try.func16, Try.ntmps16
  go_wp2_with fail
  refine (has_yes (k := 2) (n := n) (d := 0) (.inr ⟨rfl, rfl⟩) _).mono ?_
  rintro e w1 ⟨rfl, hb1⟩
  have d0 : w1.cell? ⟨w.heap.size, 0, none⟩ = some (.int .i64 2) := (cell_blk (hb1.block _ (by simp)) _).trans (by simp)
  have d1 : w1.cell? ⟨w.heap.size, 1, none⟩ = some (.int .i64 n) := (cell_blk (hb1.block _ (by simp)) _).trans (by simp)
  have HB := Lib.hid ((below_al w (.cells #[.int .i64 2, .int .i64 n, .int .i64 0] 35)).trans (hb1.mono (by simp)))
  clear hb1
  go_wp2_with fail
  go_ret
  exact ⟨rfl, HB.out⟩
theorem check_neg (n : Int) (w : World) (h : n < 0) : Calls Try.prog 16 #[.agg #[.int .i64 2, .int .i64 n, .int .i64 0]] w fun e w' => e = .returned (.int .i64 1) ∧ Below w.heap.size w w' := by
  go_enter Try.func16, Try.ntmps16
  go_wp2_with fail
  refine (has_yes (k := 2) (n := n) (d := 0) (.inr ⟨rfl, rfl⟩) _).mono ?_
  rintro e w1 ⟨rfl, hb1⟩
  have d0 : w1.cell? ⟨w.heap.size, 0, none⟩ = some (.int .i64 2) := (cell_blk (hb1.block _ (by simp)) _).trans (by simp)
  have d1 : w1.cell? ⟨w.heap.size, 1, none⟩ = some (.int .i64 n) := (cell_blk (hb1.block _ (by simp)) _).trans (by simp)
  have HB := Lib.hid ((below_al w (.cells #[.int .i64 2, .int .i64 n, .int .i64 0] 35)).trans (hb1.mono (by simp)))
  clear hb1
  go_wp2_with fail
  go_ret
  exact ⟨rfl, HB.out⟩
theorem same_yes (A A' : Option Addr) (n c c' : Nat) (l : List En) (w : World) (h : Hid (RdE w A n l)) (h' : Hid (RdE w A' n l)) (hn : n ≤ 9223372036854775807) :
    Calls Try.prog 12 #[.slice A n c, .slice A' n c'] w (BoolR true w) := by
  go_enter Try.func12, Try.ntmps12
  go_wp2
  go_loopw [5] (fun i wr => ∃ k : Nat, k ≤ n ∧ i = .int .i64 k ∧ Hid (Below w.heap.size w wr)) (fun i _ => n - (intOf i).toNat)
  case atStart => exact ⟨0, by omega, rfl, Below.refl _ _⟩
  case round =>
    obtain ⟨k, hk, rfl, hS⟩ := hrel
    by_cases hlt : k < n
    · obtain ⟨b, off, rfl, hb, hc⟩ := h.out.cells (by omega)
      obtain ⟨b', off', rfl, hb', hc'⟩ := h'.out.cells (by omega)
      have hky : k < l.length := by rw [h.out.1]; exact hlt
      obtain ⟨c0, c1, c2⟩ := hc k (l[k]'hky) (List.getElem?_eq_getElem hky)
      obtain ⟨d0, d1, d2⟩ := hc' k (l[k]'hky) (List.getElem?_eq_getElem hky)
      rw [← cell_blk (hS.out.block b hb)] at c0 c1 c2
      rw [← cell_blk (hS.out.block b' hb')] at d0 d1 d2
      generalize l[k]'hky = x at *
      obtain ⟨ek, en, ed⟩ := x
      simp only at c0 c1 c2 d0 d1 d2
      have q1 : (k : Int) < (n : Int) := by omega
      clear hc hc' hky
      go_wp2_with fail
      go_quiet (fail)
      go_wp2_with fail
      go_roundw
      case rel => exact ⟨k + 1, by omega, by go_num, below_drewN hS.out _⟩
      case measure => simp [intOf]; omega
    · go_wp2_with fail
      go_ret
      exact ⟨rfl, hS.out⟩
theorem odd_no (A : Option Addr) (n c : Nat) (l : List En) (w : World) (h : Hid (RdE w A n l)) (ho : Hid (allOk l)) (hn : n ≤ 9223372036854775807) : Calls Try.prog 17 #[.slice A n c] w fun e w' => e = .returned (.bool false) ∧ w = w' := by
  go_enter Try.func17, Try.ntmps17
  go_wp2
  go_loop [3] (fun i => ∃ k : Nat, k ≤ n ∧ i = .int .i64 k) (fun i => n - (intOf i).toNat)
  case atStart => exact ⟨0, by omega, rfl⟩
  case round =>
    obtain ⟨k, hk, rfl⟩ := hrel
    by_cases hlt : k < n
    · obtain ⟨b, off, rfl, hb, hc⟩ := h.out.cells (by omega)
      have hky : k < l.length := by rw [h.out.1]; exact hlt
      obtain ⟨c0, c1, c2⟩ := hc k (l[k]'hky) (List.getElem?_eq_getElem hky)
      have hx := ho.out _ (List.getElem_mem hky)
      generalize l[k]'hky = x at *
      obtain ⟨ek, en, ed⟩ := x
      simp only at c0 c1 c2
      clear hc hky
      rcases hx with hx | ⟨hx, hd⟩
      · simp only at hx
        subst hx
        go_wp2
        go_round
        case rel => exact ⟨k + 1, by omega, by go_num⟩
        case measure => simp [intOf]; omega
      · simp only at hx hd
        subst hx; subst hd
        go_wp2
        go_round
        case rel => exact ⟨k + 1, by omega, by go_num⟩
        case measure => simp [intOf]; omega
    · go_wp2
      go_ret
      exact ⟨rfl, rfl⟩
end Go.Proofs.Ytfjphbljdijceaa
