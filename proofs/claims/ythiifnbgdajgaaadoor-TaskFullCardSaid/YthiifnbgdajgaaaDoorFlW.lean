/- So many tasks there may be, and none more. Conditions: the table of operations lies in its variable. -/
import Derived.Test.YthiifnbgdajgaaaDoorAwk
namespace Go.Proofs.YthiifnbgdajgaaaDoor
open Go.RowKit
set_option linter.unusedVariables false
set_option maxRecDepth 100000

abbrev gF (k : Nat) : Nat → Int := fun j => if j = 0 then (k : Int) else if j = 1 then 1 else 0
theorem wo_one (k : Nat) : wo ([] ++ [(k : Int)]) k = [] := by simp [wo]
set_option maxHeartbeats 8000000 in
theorem full_true (q : Nat) (hq : q ≤ 10) (W : World) (hF : Hid (Pg.FT W)) : Calls Tryd.prog 6 #[.int .i64 (q : Int), .bool true] W (BoolR true W) := by
  have c1 : ¬ (q : Int) < 0 := by omega
  have c2 : ¬ 10 < (q : Int) := by omega
  have c3 : (q : Int) ≤ 10 := by omega
  go_enter Tryd.func6, Tryd.ntmps6
  go_wp2_with fail
  refine (new_ls (Below.refl _ _)).mono ?_
  rintro e w1 ⟨t, rfl, S1⟩
  go_wp2_with fail
  go_loopw [6] (fun i wr => ∃ (k : Nat) (S : List T0) (L : List Int), k ≤ 64 + q ∧ i = .int .i64 (k : Int) ∧ Hid (S.length = min k 64) ∧ Hid (L.length = 0) ∧ Hid (LS W t S L [] wr)) (fun i _ => 64 + q - (intOf i).toNat)
  case atStart => exact ⟨0, [], [], by omega, rfl, rfl, rfl, S1⟩
  case round =>
    clear S1
    obtain ⟨k, S, L, hk, rfl, hS, hL, S2⟩ := hrel
    have k1 : (0 : Int) ≤ (k : Int) := by omega
    have k2 : (k : Int) ≤ 74 := by omega
    have k3 : IntKind.i64.wrap (64 + (q : Int)) = 64 + (q : Int) := by rw [IntKind.wrap_i64]; omega
    by_cases hlt : k < 64 + q
    · have hlc : (k : Int) < 64 + (q : Int) := by omega
      obtain ⟨r, hr⟩ : ∃ r : Int, (k : Int).tmod 5 = r := ⟨_, rfl⟩
      have hr0 : 0 ≤ r := by rw [← hr]; exact Int.tmod_nonneg _ (by omega)
      by_cases h64 : k < 64
      · have h64c : (k : Int) < 64 := by omega
        have hSl : Hid (S.length = k) := by have := hS.out; show _ = _; omega
        go_wp2_with fail
        refine (start_ls (prog := r) (g := gF k) S2.out hr0 (by rw [hSl.out]; exact h64) (by rw [hL.out]; omega)).mono ?_
        rintro e w2 ⟨he, S3⟩
        rw [hSl.out] at he S3
        subst he
        clear S2
        have hy : Hid ((S ++ [yNew r (gF k)])[k]? = some (yNew r (gF k))) := by show _ = _; rw [← hSl.out]; simp
        go_wp2_with fail
        refine (get_ls (k := k) S3.out hy.out).mono ?_
        rintro e w3 ⟨A3, c3', rfl, S4⟩
        clear S3
        go_wp2_with (refine wp_stN rfl (.tmp 9) (.tmp 69) rfl rfl rfl rfl i47 (tU_one ..) ?_; have S5 := Lib.hid (S4.out.block 47 (tW (yNew r (gF k)) A3 c3')); generalize w3.alloc (.cells (tW (yNew r (gF k)) A3 c3') 47) = w4 at *; generalize w3.heap.size = N at *; have BX : Hid (Bk w4 N 47 (tW (yNew r (gF k)) A3 c3')) := S5.out.ownB (i := 0) rfl; have x0 : w4.cell? ⟨N, 0, none⟩ = some (.int .i64 r) := BX.out.cell 0; have x1 : w4.cell? ⟨N, 1, none⟩ = some (.int .i64 0) := BX.out.cell 1; have x2 : w4.cell? ⟨N, 2, none⟩ = some (.int .i64 0) := BX.out.cell 2; have x4 : w4.cell? ⟨N, 4, none⟩ = some (.int .i64 (k : Int)) := BX.out.cell 4; have x5 : w4.cell? ⟨N, 5, none⟩ = some (.int .i64 1) := BX.out.cell 5; have x6 : w4.cell? ⟨N, 6, none⟩ = some (.int .i64 0) := BX.out.cell 6; have x7 : w4.cell? ⟨N, 7, none⟩ = some (.int .i64 0) := BX.out.cell 7; have x8 : w4.cell? ⟨N, 8, none⟩ = some (.int .i64 0) := BX.out.cell 8; have x9 : w4.cell? ⟨N, 9, none⟩ = some (.int .i64 0) := BX.out.cell 9; have x10 : w4.cell? ⟨N, 10, none⟩ = some (.int .i64 0) := BX.out.cell 10; have x11 : w4.cell? ⟨N, 11, none⟩ = some (.int .i64 0) := BX.out.cell 11; have heq := eq8 (k : Int) 1 0 0 0 0 0 0 w4)
        refine (end_ls (k := k) (how := 0) S5.out hy.out (show (0 : Int) ≠ 2 by decide) (by rw [List.length_append, hL.out]; simp)).mono ?_
        rintro e w5 ⟨rfl, S6⟩
        have hL0 : L = [] := List.eq_nil_of_length_eq_zero hL.out
        subst hL0
        rw [wo_one] at S6
        have S7 := Lib.hid (S6.out.sub (rs' := []) (List.nil_sublist _))
        have hS7 : Hid (((S ++ [yNew r (gF k)]).set k (yEnd (yNew r (gF k)) 0)).length = min (k + 1) 64) := by show _ = _; rw [List.length_set, List.length_append, hSl.out]; simp; omega
        clear S5 S6 S4 BX x0 x1 x2 x4 x5 x6 x7 x8 x9 x10 x11 heq
        go_wp2_with fail
        go_roundw
        case rel => exact ⟨k + 1, _, [], by omega, by go_num, hS7, rfl, S7⟩
        case measure => simp [intOf]; omega
      · have h64c : ¬ (k : Int) < 64 := by omega
        have hSl : Hid (S.length = 64) := by have := hS.out; show _ = _; omega
        have hS7 : Hid (S.length = min (k + 1) 64) := by have := hS.out; show _ = _; omega
        have hL7 : Hid (L.length = 0) := by have := hL.out; show _ = _; omega
        go_wp2_with fail
        refine (full_ls (prog := r) (g := gF k) S2.out hr0 hSl.out).mono ?_
        rintro e w2 ⟨rfl, S3⟩
        clear S2
        go_wp2_with fail
        go_roundw
        case rel => exact ⟨k + 1, S, L, by omega, by go_num, hS7, hL7, S3⟩
        case measure => simp [intOf]; omega
    · have hlc : ¬ (k : Int) < 64 + (q : Int) := by omega
      have hSl : Hid (S.length = 64) := by have := hS.out; show _ = _; omega
      have hLl : Hid (L.length = 0) := by have := hL.out; show _ = _; omega
      go_wp2_with fail
      refine (len_ls S2.out).mono ?_
      rintro e w' ⟨rfl, rfl⟩
      rw [hSl.out]
      go_wp2_with fail
      refine (ready_ls S2.out (by rw [hLl.out]; decide)).mono ?_
      rintro e w2 ⟨A, c, rfl, R2, S3⟩
      rw [hLl.out]
      go_wp2_with fail
      refine (awake_any w2 (S3.out.ft hF.out)).mono ?_
      rintro e w3 ⟨rfl, b3⟩
      have HB := Lib.hid (S3.out.later b3).bel
      go_wp2_with fail
      go_ret
      exact ⟨rfl, HB.out⟩
set_option maxHeartbeats 8000000 in
theorem full_false (q : Nat) (hq : q ≤ 10) (W : World) (hF : Hid (Pg.FT W)) : Calls Tryd.prog 6 #[.int .i64 (q : Int), .bool false] W (BoolR true W) := by
  have c1 : ¬ (q : Int) < 0 := by omega
  have c2 : ¬ 10 < (q : Int) := by omega
  have c3 : (q : Int) ≤ 10 := by omega
  go_enter Tryd.func6, Tryd.ntmps6
  go_wp2_with fail
  refine (new_ls (Below.refl _ _)).mono ?_
  rintro e w1 ⟨t, rfl, S1⟩
  go_wp2_with fail
  go_loopw [6] (fun i wr => ∃ (k : Nat) (S : List T0) (L : List Int), k ≤ 64 + q ∧ i = .int .i64 (k : Int) ∧ Hid (S.length = min k 64) ∧ Hid (L.length = min k 64) ∧ Hid (LS W t S L [] wr)) (fun i _ => 64 + q - (intOf i).toNat)
  case atStart => exact ⟨0, [], [], by omega, rfl, rfl, rfl, S1⟩
  case round =>
    clear S1
    obtain ⟨k, S, L, hk, rfl, hS, hL, S2⟩ := hrel
    have k1 : (0 : Int) ≤ (k : Int) := by omega
    have k2 : (k : Int) ≤ 74 := by omega
    have k3 : IntKind.i64.wrap (64 + (q : Int)) = 64 + (q : Int) := by rw [IntKind.wrap_i64]; omega
    by_cases hlt : k < 64 + q
    · have hlc : (k : Int) < 64 + (q : Int) := by omega
      obtain ⟨r, hr⟩ : ∃ r : Int, (k : Int).tmod 5 = r := ⟨_, rfl⟩
      have hr0 : 0 ≤ r := by rw [← hr]; exact Int.tmod_nonneg _ (by omega)
      by_cases h64 : k < 64
      · have h64c : (k : Int) < 64 := by omega
        have hSl : Hid (S.length = k) := by have := hS.out; show _ = _; omega
        go_wp2_with fail
        refine (start_ls (prog := r) (g := gF k) S2.out hr0 (by rw [hSl.out]; exact h64) (by rw [hL.out]; omega)).mono ?_
        rintro e w2 ⟨he, S3⟩
        rw [hSl.out] at he S3
        subst he
        clear S2
        have hy : Hid ((S ++ [yNew r (gF k)])[k]? = some (yNew r (gF k))) := by show _ = _; rw [← hSl.out]; simp
        go_wp2_with fail
        refine (get_ls (k := k) S3.out hy.out).mono ?_
        rintro e w3 ⟨A3, c3', rfl, S4⟩
        clear S3
        go_wp2_with (refine wp_stN rfl (.tmp 9) (.tmp 69) rfl rfl rfl rfl i47 (tU_one ..) ?_; have S5 := Lib.hid (S4.out.block 47 (tW (yNew r (gF k)) A3 c3')); generalize w3.alloc (.cells (tW (yNew r (gF k)) A3 c3') 47) = w4 at *; generalize w3.heap.size = N at *; have BX : Hid (Bk w4 N 47 (tW (yNew r (gF k)) A3 c3')) := S5.out.ownB (i := 0) rfl; have x0 : w4.cell? ⟨N, 0, none⟩ = some (.int .i64 r) := BX.out.cell 0; have x1 : w4.cell? ⟨N, 1, none⟩ = some (.int .i64 0) := BX.out.cell 1; have x2 : w4.cell? ⟨N, 2, none⟩ = some (.int .i64 0) := BX.out.cell 2; have x4 : w4.cell? ⟨N, 4, none⟩ = some (.int .i64 (k : Int)) := BX.out.cell 4; have x5 : w4.cell? ⟨N, 5, none⟩ = some (.int .i64 1) := BX.out.cell 5; have x6 : w4.cell? ⟨N, 6, none⟩ = some (.int .i64 0) := BX.out.cell 6; have x7 : w4.cell? ⟨N, 7, none⟩ = some (.int .i64 0) := BX.out.cell 7; have x8 : w4.cell? ⟨N, 8, none⟩ = some (.int .i64 0) := BX.out.cell 8; have x9 : w4.cell? ⟨N, 9, none⟩ = some (.int .i64 0) := BX.out.cell 9; have x10 : w4.cell? ⟨N, 10, none⟩ = some (.int .i64 0) := BX.out.cell 10; have x11 : w4.cell? ⟨N, 11, none⟩ = some (.int .i64 0) := BX.out.cell 11; have heq := eq8 (k : Int) 1 0 0 0 0 0 0 w4)
        have S7 := Lib.hid (S5.out.sub (rs' := []) (List.nil_sublist _))
        have hS7 : Hid ((S ++ [yNew r (gF k)]).length = min (k + 1) 64) := by show _ = _; rw [List.length_append, hSl.out]; simp; omega
        have hL7 : Hid ((L ++ [(k : Int)]).length = min (k + 1) 64) := by show _ = _; rw [List.length_append, hL.out]; simp; omega
        go_roundw
        case rel => exact ⟨k + 1, _, _, by omega, by go_num, hS7, hL7, S7⟩
        case measure => simp [intOf]; omega
      · have h64c : ¬ (k : Int) < 64 := by omega
        have hSl : Hid (S.length = 64) := by have := hS.out; show _ = _; omega
        have hS7 : Hid (S.length = min (k + 1) 64) := by have := hS.out; show _ = _; omega
        have hL7 : Hid (L.length = min (k + 1) 64) := by have := hL.out; show _ = _; omega
        go_wp2_with fail
        refine (full_ls (prog := r) (g := gF k) S2.out hr0 hSl.out).mono ?_
        rintro e w2 ⟨rfl, S3⟩
        clear S2
        go_wp2_with fail
        go_roundw
        case rel => exact ⟨k + 1, S, L, by omega, by go_num, hS7, hL7, S3⟩
        case measure => simp [intOf]; omega
    · have hlc : ¬ (k : Int) < 64 + (q : Int) := by omega
      have hSl : Hid (S.length = 64) := by have := hS.out; show _ = _; omega
      have hLl : Hid (L.length = 64) := by have := hL.out; show _ = _; omega
      go_wp2_with fail
      refine (len_ls S2.out).mono ?_
      rintro e w' ⟨rfl, rfl⟩
      rw [hSl.out]
      go_wp2_with fail
      refine (ready_ls S2.out (by rw [hLl.out]; decide)).mono ?_
      rintro e w2 ⟨A, c, rfl, R2, S3⟩
      rw [hLl.out]
      go_wp2_with fail
      refine (awake_any w2 (S3.out.ft hF.out)).mono ?_
      rintro e w3 ⟨rfl, b3⟩
      have HB := Lib.hid (S3.out.later b3).bel
      go_wp2_with fail
      go_ret
      exact ⟨rfl, HB.out⟩
set_option maxHeartbeats 2000000 in
theorem full_walk (a0 : Int) (b : Bool) (W : World) (hF : Hid (Pg.FT W)) : Calls Tryd.prog 6 #[.int .i64 a0, .bool b] W (BoolR true W) := by
  by_cases c1 : a0 < 0
  · go_enter Tryd.func6, Tryd.ntmps6
    go_wp2_with fail
    refine (awake_any W hF).mono ?_
    rintro e w2 ⟨rfl, b2⟩
    go_wp2_with fail
    go_ret
    exact ⟨rfl, b2⟩
  by_cases c2 : 10 < a0
  · go_enter Tryd.func6, Tryd.ntmps6
    go_wp2_with fail
    refine (awake_any W hF).mono ?_
    rintro e w2 ⟨rfl, b2⟩
    go_wp2_with fail
    go_ret
    exact ⟨rfl, b2⟩
  obtain ⟨q, rfl⟩ := Int.eq_ofNat_of_zero_le (show 0 ≤ a0 by omega)
  cases b with
  | true => exact full_true q (by omega) W hF
  | false => exact full_false q (by omega) W hF
end Go.Proofs.YthiifnbgdajgaaaDoor
