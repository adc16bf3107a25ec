/- Times that are held, as the program and as the document reckon them; numbers going round; which operations concern one task alone. No condition. -/
import Derived.Test.YtgojnhbmelnpnaaDoorBlk
namespace Go.Proofs.YtgojnhbmelnpnaaDoor.Pg
open Go.RowKit
set_option linter.unusedVariables false
set_option maxRecDepth 100000

theorem ret_int {k : IntKind} {a b : Int} (h : a = b) : Ending.returned (.int k a) = .returned (.int k b) := by rw [h]
theorem hold_any (x : Int) (w : World) : Calls Tryd.prog 24 #[.int .i64 x] w fun e w' => e = .returned (.int .i64 (hd x)) ∧ w = w' := by
  go_enter Tryd.func24, Tryd.ntmps24
  go_wp2
  all_goals (go_ret; exact ⟨ret_int (by unfold hd; omega), rfl⟩)
theorem held_any (x : Int) (w : World) : Calls Tryd.prog 19 #[.int .i64 x] w fun e w' => e = .returned (.int .i64 (hd x)) ∧ w = w' := by
  go_enter Tryd.func19, Tryd.ntmps19
  go_wp2
  all_goals (go_ret; exact ⟨ret_int (by unfold hd; omega), rfl⟩)
theorem add_any (t d : Int) (w : World) : Calls Tryd.prog 21 #[.int .i64 t, .int .i64 d] w fun e w' => e = .returned (.int .i64 (ad t d)) ∧ w = w' := by
  have h1 := hd_lo t
  have h2 := hd_hi t
  have h3 := hd_lo d
  have h4 := hd_hi d
  go_enter Tryd.func21, Tryd.ntmps21
  go_wp2_with (go_at_call 24; refine (hold_any _ _).mono ?_; rintro e w' ⟨rfl, rfl⟩)
  all_goals (go_ret; exact ⟨ret_int (by rw [ad_eq]; omega), rfl⟩)
theorem radd_any (t d : Int) (w : World) : Calls Tryd.prog 14 #[.int .i64 t, .int .i64 d] w fun e w' => e = .returned (.int .i64 (ad t d)) ∧ w = w' := by
  have h1 := hd_lo t
  have h2 := hd_hi t
  have h3 := hd_lo d
  have h4 := hd_hi d
  go_enter Tryd.func14, Tryd.ntmps14
  go_wp2_with (go_at_call 19; refine (held_any _ _).mono ?_; rintro e w' ⟨rfl, rfl⟩)
  all_goals (go_ret; exact ⟨ret_int (by rw [ad_eq]; omega), rfl⟩)
/-- Going round. -/
def pk (n : Int) (m : Nat) : Nat := (n % (m : Int)).toNat
theorem pk_lt (n : Int) {m : Nat} (h : 0 < m) : pk n m < m := by
  have h1 := Int.emod_lt_of_pos n (show (0 : Int) < (m : Int) by omega)
  have h2 := Int.emod_nonneg n (show (m : Int) ≠ 0 by omega)
  unfold pk; omega
theorem round_pk (n : Int) (m : Nat) (w : World) (h0 : 0 < m) (hm : m ≤ 1000) : Calls Tryd.prog 13 #[.int .i64 n, .int .i64 (m : Int)] w fun e w' => e = .returned (.int .i64 (pk n m : Int)) ∧ w = w' := by
  have b1 : (0 : Int) < (m : Int) := by omega
  have b2 : (m : Int) ≤ 1000 := by omega
  have t1 : n.tmod m < m := Int.tmod_lt_of_pos _ (by omega)
  have t2 : -(m : Int) < n.tmod m := by
    have := Int.tmod_lt_of_pos (-n) (show (0 : Int) < m by omega)
    rw [Int.neg_tmod] at this; omega
  have HE : Hid (Ending.returned (.int .i64 ((n.tmod m + m) % m)) = .returned (.int .i64 (pk n m : Int))) := by
    have h1 : (n.tmod m) % m = n % m := by rw [Int.tmod_def, Int.sub_mul_emod_self_left]
    have h2 := Int.emod_nonneg n (show (m : Int) ≠ 0 by omega)
    show _ = _
    rw [Int.add_emod_right, h1]
    unfold pk
    rw [Int.toNat_of_nonneg h2]
  go_enter Tryd.func13, Tryd.ntmps13
  go_wp2
  go_ret
  exact ⟨HE.out, rfl⟩
def SayB (b : Bool) (w : World) (e : Ending) (w' : World) : Prop := e = .returned (.bool b) ∧ w = w'
theorem mine_any (op : Int) (w : World) : Calls Tryd.prog 11 #[.int .i64 op] w (SayB (mineB op) w) := by
  by_cases h : 1 ≤ op ∧ op ≤ 7 ∨ op = 16
  · have HM : Hid (mineB op = true) := decide_eq_true h
    rcases h with ⟨h1, h2⟩ | h
    · have h3 : op = 1 ∨ op = 2 ∨ op = 3 ∨ op = 4 ∨ op = 5 ∨ op = 6 ∨ op = 7 := by omega
      clear h1 h2
      rcases h3 with rfl | rfl | rfl | rfl | rfl | rfl | rfl <;>
      · go_enter Tryd.func11, Tryd.ntmps11
        go_wp2
        go_ret
        exact ⟨ret_bool HM.out.symm, rfl⟩
    · subst h
      go_enter Tryd.func11, Tryd.ntmps11
      go_wp2
      go_ret
      exact ⟨ret_bool HM.out.symm, rfl⟩
  · have HM : Hid (mineB op = false) := decide_eq_false h
    have g1 : (op == 1) = false := by simp; omega
    have g2 : (op == 2) = false := by simp; omega
    have g3 : (op == 3) = false := by simp; omega
    have g4 : (op == 4) = false := by simp; omega
    have g5 : (op == 5) = false := by simp; omega
    have g6 : (op == 6) = false := by simp; omega
    have g7 : (op == 7) = false := by simp; omega
    have g16 : (op == 16) = false := by simp; omega
    clear h
    go_enter Tryd.func11, Tryd.ntmps11
    go_wp2
    go_ret
    exact ⟨ret_bool HM.out.symm, rfl⟩
theorem rmine_any (op : Int) (w : World) : Calls Tryd.prog 12 #[.int .i64 op] w (SayB (mineB op) w) := by
  by_cases h0 : 1 ≤ op
  · by_cases h1 : op ≤ 7
    · have HM : Hid (mineB op = true) := decide_eq_true (.inl ⟨h0, h1⟩)
      go_enter Tryd.func12, Tryd.ntmps12
      go_wp2
      go_ret
      exact ⟨ret_bool HM.out.symm, rfl⟩
    · have HM : Hid (mineB op = (op == 16)) := by
        show _ = _
        unfold mineB
        rw [Bool.eq_iff_iff]; simp; omega
      cases h2 : op == 16 with
      | true =>
        go_enter Tryd.func12, Tryd.ntmps12
        go_wp2
        go_ret
        exact ⟨ret_bool (HM.out.trans h2).symm, rfl⟩
      | false =>
        go_enter Tryd.func12, Tryd.ntmps12
        go_wp2
        go_ret
        exact ⟨ret_bool (HM.out.trans h2).symm, rfl⟩
  · have HM : Hid (mineB op = false) := by show _ = _; unfold mineB; simp; omega
    have h2 : (op == 16) = false := by simp; omega
    go_enter Tryd.func12, Tryd.ntmps12
    go_wp2
    go_ret
    exact ⟨ret_bool HM.out.symm, rfl⟩
theorem mine_yes {op : Int} (h : mineB op = true) (w : World) : Calls Tryd.prog 11 #[.int .i64 op] w (SayB true w) := by
  have := mine_any op w; rwa [h] at this
theorem mine_no {op : Int} (h : mineB op = false) (w : World) : Calls Tryd.prog 11 #[.int .i64 op] w (SayB false w) := by
  have := mine_any op w; rwa [h] at this
theorem rmine_yes {op : Int} (h : mineB op = true) (w : World) : Calls Tryd.prog 12 #[.int .i64 op] w (SayB true w) := by
  have := rmine_any op w; rwa [h] at this
theorem rmine_no {op : Int} (h : mineB op = false) (w : World) : Calls Tryd.prog 12 #[.int .i64 op] w (SayB false w) := by
  have := rmine_any op w; rwa [h] at this
end Go.Proofs.YtgojnhbmelnpnaaDoor.Pg
