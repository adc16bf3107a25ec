/- A task that ended does nothing any more. Conditions: the table of operations lies in its variable. -/
import Derived.Test.YthiifnbgdajgaaaDoorAwk
namespace Go.Proofs.YthiifnbgdajgaaaDoor
open Go.RowKit
set_option linter.unusedVariables false
set_option maxRecDepth 100000

abbrev gE (k : Nat) : Nat → Int := fun j => if j = 0 then (k : Int) else 0
def sE (n : Nat) : List T0 := (List.range n).map fun i : Nat => yNew (i : Int) (gE i)
def lE (n : Nat) : List Int := (List.range n).map fun i : Nat => (i : Int)
theorem sE_len (n : Nat) : (sE n).length = n := by simp [sE]
theorem lE_len (n : Nat) : (lE n).length = n := by simp [lE]
theorem sE_more (n : Nat) : sE n ++ [yNew (n : Int) (gE n)] = sE (n + 1) := by simp [sE, List.range_succ]
theorem lE_more (n : Nat) : lE n ++ [(n : Int)] = lE (n + 1) := by simp [lE, List.range_succ]
theorem sE_at {n r : Nat} (h : r < n) : (sE n)[r]? = some (yNew (r : Int) (gE r)) := by simp [sE, h]
theorem lE_nd (n : Nat) : (lE n).Nodup := by
  unfold lE
  rw [List.nodup_iff_pairwise_ne, List.pairwise_map]
  exact (List.nodup_iff_pairwise_ne.1 (List.nodup_range)).imp fun h e => h (by omega)
theorem lE_wo {n r : Nat} (h : r < n) : (wo (lE n) r).length + 1 = n := by
  have hp : (lE n)[r]? = some (r : Int) := by simp [lE, h]
  unfold wo
  rw [fl_cut (lE_nd n) hp, cut_len hp, lE_len]
theorem wo_wo (L : List Int) (r : Nat) : wo (wo L r) r = wo L r := by simp [wo, List.filter_filter]
theorem wo_le (L : List Int) (r : Nat) : (wo L r).length ≤ L.length := List.length_filter_le _ _
theorem chk_send : Pg.checkB [tI (yI 10 1 2 0) none 0] 16 = true := by decide +kernel
set_option maxHeartbeats 8000000 in
theorem ends_true (n : Nat) (h1 : 1 ≤ n) (h2 : n ≤ 20) (at_ how : Int) (W : World) (hF : Hid (Pg.FT W)) : Calls Tryd.prog 5 #[.int .i64 (n : Int), .int .i64 at_, .int .i64 how, .bool true] W (BoolR true W) := by
  have c1 : ¬ (n : Int) < 1 := by omega
  have c2 : ¬ 20 < (n : Int) := by omega
  have c3 : (n : Int) ≤ 20 := by omega
  go_enter Tryd.func5, Tryd.ntmps5
  go_wp2_with fail
  refine (new_ls (Below.refl _ _)).mono ?_
  rintro e w1 ⟨t, rfl, S1⟩
  go_wp2_with fail
  go_loopw [10] (fun i wr => ∃ k : Nat, k ≤ n ∧ i = .int .i64 (k : Int) ∧ Hid (LS W t (sE k) (lE k) [] wr)) (fun i _ => n - (intOf i).toNat)
  case atStart => exact ⟨0, by omega, rfl, S1⟩
  case round =>
    clear S1
    obtain ⟨k, hk, rfl, S2⟩ := hrel
    have k1 : (0 : Int) ≤ (k : Int) := by omega
    have k2 : (k : Int) ≤ 20 := by omega
    by_cases hlt : k < n
    · have hlc : (k : Int) < (n : Int) := by omega
      go_wp2_with fail
      refine (start_ls (prog := (k : Int)) (g := gE k) S2.out k1 (by rw [sE_len]; omega) (by rw [lE_len]; omega)).mono ?_
      rintro e w2 ⟨he, S3⟩
      rw [sE_len, sE_more, lE_more] at S3
      rw [sE_len] at he
      subst he
      clear S2
      go_wp2_with fail
      go_roundw
      case rel => exact ⟨k + 1, by omega, by go_num, S3⟩
      case measure => simp [intOf]; omega
    · obtain rfl : k = n := by omega
      have hlc : ¬ (k : Int) < (k : Int) := by omega
      go_wp2_with fail
      refine (round_any at_ k wr (by omega) (by omega)).mono ?_
      rintro e w' ⟨r, hr, rfl, rfl⟩
      have hs : Hid ((sE k)[r]? = some (yNew (r : Int) (gE r))) := sE_at hr
      have hrl : Hid (r < (sE k).length) := by show _ < _; rw [sE_len]; exact hr
      have r1 : (r : Int) ≤ 20 := by omega
      have r2 : (0 : Int) ≤ (r : Int) := by omega
      have hN1 : IntKind.i64.wrap ((k : Int) - 1) = (k : Int) - 1 := by rw [IntKind.wrap_i64]; omega
      have hwl : Hid ((wo (lE k) r).length + 1 = k) := lE_wo hr
      go_wp2_with fail
      have S3 := Lib.hid (S2.out.block 34 (iR (yI 10 1 2 0) none 0))
      have F3 := Lib.hid (S3.out.ft hF.out)
      refine (park_ls (k := r) (y := yI 10 1 2 0) (As := none) (cap := 0) S3.out hs.out rfl (by rw [lE_len]; omega) F3.out (.inl rfl) chk_send (.inl rfl) (Pg.RdC.nil _ _) (Nat.zero_le _) (Nat.zero_le _) (by omega)).mono ?_
      rintro e w3 ⟨rfl, S4⟩
      clear S3 F3
      generalize wr.heap.size = N at *
      have hs4 : Hid (((sE k).set r (yPark (yNew (r : Int) (gE r)) (yI 10 1 2 0)))[r]? = some (yPark (yNew (r : Int) (gE r)) (yI 10 1 2 0))) := by show _ = _; rw [List.getElem?_set_self hrl.out]
      go_wp2_with fail
      refine (end_ls (k := r) (how := how) S4.out hs4.out (show (1 : Int) ≠ 2 by decide) (by have := wo_le (lE k) r; rw [lE_len] at this; omega)).mono ?_
      rintro e w4 ⟨rfl, S5⟩
      rw [List.set_set, wo_wo] at S5
      clear S4 hs4
      replace S5 : Hid (LS W t ((sE k).set r (yEnd (yNew (r : Int) (gE r)) how)) (wo (lE k) r) [rB N 34 (iR (yI 10 1 2 0) none 0)] w4) := S5
      have hs5 : Hid (((sE k).set r (yEnd (yNew (r : Int) (gE r)) how))[r]? = some (yEnd (yNew (r : Int) (gE r)) how)) := by show _ = _; rw [List.getElem?_set_self hrl.out]
      generalize (sE k).set r (yEnd (yNew (r : Int) (gE r)) how) = Z at *
      generalize wo (lE k) r = Y at *
      go_wp2_with fail
      have S6 : Hid (LS W t Z Y [rB N 34 (iR (yI 10 1 2 0) none 0)] w4.drew) := S5.out.drew
      have hR6 : w4.drew.rangeAt N 0 (iR (yI 10 1 2 0) none 0).toList := (S6.out.ownB (i := 0) rfl).range
      refine but_startQ 1000 (fun w' => w'.rangeAt N 0 (iR (yI 10 1 2 0) none 0).toList) (by kernel_rfl) (by as_aux_lemma => kernel_rfl) ?_
      intro hTidy
      have hHeld := hR6
      change AnyBut _ _ _ _ _ _ 21 _ _ _
      refine tkQ 0 rfl hTidy hHeld ?_
      refine tkQ 1 rfl hTidy hHeld ?_
      refine tkQ 2 rfl hTidy hHeld ?_
      refine tkQ 4 rfl hTidy hHeld ?_
      refine tkQ 5 rfl hTidy hHeld ?_
      refine tkL 6 (ty := 34) (.tmp 14) (iR (yI 10 1 2 0) none 0) rfl hTidy hHeld rfl rfl (fun w h => h) Tryd.underlying34 rfl i34 ?_
      refine tkQ 8 rfl hTidy hHeld ?_
      refine tkQ 9 rfl hTidy hHeld ?_
      refine tkQ 10 rfl hTidy hHeld ?_
      refine tkQ 12 rfl hTidy hHeld ?_
      refine tkQ 13 rfl hTidy hHeld ?_
      refine tkQ 14 rfl hTidy hHeld ?_
      refine tkQ 15 rfl hTidy hHeld ?_
      try simp only [List.getElem_toArray, List.getElem_cons_succ, List.getElem_cons_zero, Act.put, List.setIfInBounds_toArray, List.set_cons_zero, List.set_cons_succ]
      refine but_one (i := 3) (by kernel_rfl) rfl ?_
      intro K hK
      go_simp
      go_at_call 18
      refine (putno_ls (pc := 3) (k := r) S6.out hs5.out (show (2 : Int) ≠ 0 by decide)).mono ?_
      rintro e w5 ⟨rfl, S7⟩
      clear S6
      (try dsimp only)
      have hHeld2 := (S7.out.ownB (i := 0) rfl).range
      refine hK _ _ (fun _ => hHeld2) ?_
      clear hK K hHeld
      have hHeld := hHeld2
      clear hHeld2
      try simp only [List.getElem_toArray, List.getElem_cons_succ, List.getElem_cons_zero, Act.put, List.setIfInBounds_toArray, List.set_cons_zero, List.set_cons_succ]
      try simp only [List.getElem_toArray, List.getElem_cons_succ, List.getElem_cons_zero, Act.put, List.setIfInBounds_toArray, List.set_cons_zero, List.set_cons_succ]
      refine but_one (i := 7) (by kernel_rfl) rfl ?_
      intro K hK
      go_simp
      go_at_call 12
      refine (parkno_ls (k := r) S7.out hs5.out (show (2 : Int) ≠ 0 by decide)).mono ?_
      rintro e w6 ⟨rfl, S8⟩
      clear S7
      (try dsimp only)
      have hHeld2 := (S8.out.ownB (i := 0) rfl).range
      refine hK _ _ (fun _ => hHeld2) ?_
      clear hK K hHeld
      have hHeld := hHeld2
      clear hHeld2
      try simp only [List.getElem_toArray, List.getElem_cons_succ, List.getElem_cons_zero, Act.put, List.setIfInBounds_toArray, List.set_cons_zero, List.set_cons_succ]
      try simp only [List.getElem_toArray, List.getElem_cons_succ, List.getElem_cons_zero, Act.put, List.setIfInBounds_toArray, List.set_cons_zero, List.set_cons_succ]
      refine but_one (i := 11) (by kernel_rfl) rfl ?_
      intro K hK
      go_simp
      go_at_call 14
      refine (wakeno_ls (k := r) S8.out hs5.out (show (2 : Int) ≠ 1 by decide)).mono ?_
      rintro e w7 ⟨rfl, S9⟩
      clear S8
      (try dsimp only)
      have hHeld2 := (S9.out.ownB (i := 0) rfl).range
      refine hK _ _ (fun _ => hHeld2) ?_
      clear hK K hHeld
      have hHeld := hHeld2
      clear hHeld2
      try simp only [List.getElem_toArray, List.getElem_cons_succ, List.getElem_cons_zero, Act.put, List.setIfInBounds_toArray, List.set_cons_zero, List.set_cons_succ]
      try simp only [List.getElem_toArray, List.getElem_cons_succ, List.getElem_cons_zero, Act.put, List.setIfInBounds_toArray, List.set_cons_zero, List.set_cons_succ]
      refine but_one (i := 16) (by kernel_rfl) rfl ?_
      intro K hK
      go_simp
      go_at_call 15
      refine (endno_ls (k := r) S9.out hs5.out rfl).mono ?_
      rintro e w8 ⟨rfl, S10⟩
      clear S9
      (try dsimp only)
      have hHeld2 := (S10.out.ownB (i := 0) rfl).range
      refine hK _ _ (fun _ => hHeld2) ?_
      clear hK K hHeld
      have hHeld := hHeld2
      clear hHeld2
      try simp only [List.getElem_toArray, List.getElem_cons_succ, List.getElem_cons_zero, Act.put, List.setIfInBounds_toArray, List.set_cons_zero, List.set_cons_succ]
      refine tkQ 17 rfl hTidy hHeld ?_
      refine tkQ 18 rfl hTidy hHeld ?_
      refine tkQ 19 rfl hTidy hHeld ?_
      refine tkQ 20 rfl hTidy hHeld ?_
      refine but_done (by kernel_rfl) ?_
      try clear hHeld
      clear hTidy
      clear hR6 S5
      go_wp2_with fail
      refine (get_ls (k := r) S10.out hs5.out).mono ?_
      rintro e w9 ⟨A9, c9, rfl, S11⟩
      clear S10
      go_wp2_with (refine wp_stN rfl (.tmp 20) (.tmp 85) rfl rfl rfl rfl i47 (tU_one ..) ?_)
      have S12 := Lib.hid (S11.out.block 47 (tW (yEnd (yNew (r : Int) (gE r)) how) A9 c9))
      generalize w9.alloc (.cells (tW (yEnd (yNew (r : Int) (gE r)) how) A9 c9) 47) = w10 at *
      generalize w9.heap.size = M at *
      clear S11
      have hYl : Hid (Y.length ≤ 20 ∧ (Y.length : Int) = (k : Int) - 1) := by have := hwl.out; exact ⟨by omega, by omega⟩
      refine (ready_ls S12.out (by have := hYl.out.1; omega)).mono ?_
      rintro e w11 ⟨A11, c11, rfl, R11, S13⟩
      clear S12
      have BX : Hid (Bk w11 M 47 (tW (yEnd (yNew (r : Int) (gE r)) how) A9 c9)) := S13.out.ownB (i := 0) rfl
      have x2 : w11.cell? ⟨M, 2, none⟩ = some (.int .i64 2) := BX.out.cell 2
      have x3 : w11.cell? ⟨M, 3, none⟩ = some (.int .i64 how) := BX.out.cell 3
      have x4 : w11.cell? ⟨M, 4, none⟩ = some (.int .i64 (r : Int)) := BX.out.cell 4
      have x5 : w11.cell? ⟨M, 5, none⟩ = some (.int .i64 0) := BX.out.cell 5
      have x6 : w11.cell? ⟨M, 6, none⟩ = some (.int .i64 0) := BX.out.cell 6
      have x7 : w11.cell? ⟨M, 7, none⟩ = some (.int .i64 0) := BX.out.cell 7
      have x8 : w11.cell? ⟨M, 8, none⟩ = some (.int .i64 0) := BX.out.cell 8
      have x9 : w11.cell? ⟨M, 9, none⟩ = some (.int .i64 0) := BX.out.cell 9
      have x10 : w11.cell? ⟨M, 10, none⟩ = some (.int .i64 0) := BX.out.cell 10
      have x11 : w11.cell? ⟨M, 11, none⟩ = some (.int .i64 0) := BX.out.cell 11
      have heq := eq8 (r : Int) 0 0 0 0 0 0 0 w11
      have hYe : (Y.length : Int) = (k : Int) - 1 := hYl.out.2
      have hkk : (((k : Int) - 1) == ((k : Int) - 1)) = true := by simp
      have hhh : (how == how) = true := by simp
      go_wp2_with fail
      refine (awake_any w11 (S13.out.ft hF.out)).mono ?_
      rintro e w12 ⟨rfl, b12⟩
      have HB := Lib.hid (S13.out.later b12).bel
      clear S13 R11 BX
      go_wp2_with fail
      go_ret
      exact ⟨rfl, HB.out⟩
set_option maxHeartbeats 8000000 in
theorem ends_false (n : Nat) (h1 : 1 ≤ n) (h2 : n ≤ 20) (at_ how : Int) (W : World) (hF : Hid (Pg.FT W)) : Calls Tryd.prog 5 #[.int .i64 (n : Int), .int .i64 at_, .int .i64 how, .bool false] W (BoolR true W) := by
  have c1 : ¬ (n : Int) < 1 := by omega
  have c2 : ¬ 20 < (n : Int) := by omega
  have c3 : (n : Int) ≤ 20 := by omega
  go_enter Tryd.func5, Tryd.ntmps5
  go_wp2_with fail
  refine (new_ls (Below.refl _ _)).mono ?_
  rintro e w1 ⟨t, rfl, S1⟩
  go_wp2_with fail
  go_loopw [10] (fun i wr => ∃ k : Nat, k ≤ n ∧ i = .int .i64 (k : Int) ∧ Hid (LS W t (sE k) (lE k) [] wr)) (fun i _ => n - (intOf i).toNat)
  case atStart => exact ⟨0, by omega, rfl, S1⟩
  case round =>
    clear S1
    obtain ⟨k, hk, rfl, S2⟩ := hrel
    have k1 : (0 : Int) ≤ (k : Int) := by omega
    have k2 : (k : Int) ≤ 20 := by omega
    by_cases hlt : k < n
    · have hlc : (k : Int) < (n : Int) := by omega
      go_wp2_with fail
      refine (start_ls (prog := (k : Int)) (g := gE k) S2.out k1 (by rw [sE_len]; omega) (by rw [lE_len]; omega)).mono ?_
      rintro e w2 ⟨he, S3⟩
      rw [sE_len, sE_more, lE_more] at S3
      rw [sE_len] at he
      subst he
      clear S2
      go_wp2_with fail
      go_roundw
      case rel => exact ⟨k + 1, by omega, by go_num, S3⟩
      case measure => simp [intOf]; omega
    · obtain rfl : k = n := by omega
      have hlc : ¬ (k : Int) < (k : Int) := by omega
      go_wp2_with fail
      refine (round_any at_ k wr (by omega) (by omega)).mono ?_
      rintro e w' ⟨r, hr, rfl, rfl⟩
      have hs : Hid ((sE k)[r]? = some (yNew (r : Int) (gE r))) := sE_at hr
      have hrl : Hid (r < (sE k).length) := by show _ < _; rw [sE_len]; exact hr
      have r1 : (r : Int) ≤ 20 := by omega
      have r2 : (0 : Int) ≤ (r : Int) := by omega
      have hN1 : IntKind.i64.wrap ((k : Int) - 1) = (k : Int) - 1 := by rw [IntKind.wrap_i64]; omega
      have hwl : Hid ((wo (lE k) r).length + 1 = k) := lE_wo hr
      have S3 := Lib.hid (S2.out.block 34 (iR (yI 10 1 2 0) none 0))
      go_wp2_with fail
      refine (end_ls (k := r) (how := how) S3.out hs.out (show (0 : Int) ≠ 2 by decide) (by rw [lE_len]; omega)).mono ?_
      rintro e w4 ⟨rfl, S5⟩
      clear S3
      generalize wr.heap.size = N at *
      replace S5 : Hid (LS W t ((sE k).set r (yEnd (yNew (r : Int) (gE r)) how)) (wo (lE k) r) [rB N 34 (iR (yI 10 1 2 0) none 0)] w4) := S5
      have hs5 : Hid (((sE k).set r (yEnd (yNew (r : Int) (gE r)) how))[r]? = some (yEnd (yNew (r : Int) (gE r)) how)) := by show _ = _; rw [List.getElem?_set_self hrl.out]
      generalize (sE k).set r (yEnd (yNew (r : Int) (gE r)) how) = Z at *
      generalize wo (lE k) r = Y at *
      go_wp2_with fail
      have S6 : Hid (LS W t Z Y [rB N 34 (iR (yI 10 1 2 0) none 0)] w4.drew) := S5.out.drew
      have hR6 : w4.drew.rangeAt N 0 (iR (yI 10 1 2 0) none 0).toList := (S6.out.ownB (i := 0) rfl).range
      refine but_startQ 1000 (fun w' => w'.rangeAt N 0 (iR (yI 10 1 2 0) none 0).toList) (by kernel_rfl) (by as_aux_lemma => kernel_rfl) ?_
      intro hTidy
      have hHeld := hR6
      change AnyBut _ _ _ _ _ _ 21 _ _ _
      refine tkQ 0 rfl hTidy hHeld ?_
      refine tkQ 1 rfl hTidy hHeld ?_
      refine tkQ 2 rfl hTidy hHeld ?_
      refine tkQ 4 rfl hTidy hHeld ?_
      refine tkQ 5 rfl hTidy hHeld ?_
      refine tkL 6 (ty := 34) (.tmp 14) (iR (yI 10 1 2 0) none 0) rfl hTidy hHeld rfl rfl (fun w h => h) Tryd.underlying34 rfl i34 ?_
      refine tkQ 8 rfl hTidy hHeld ?_
      refine tkQ 9 rfl hTidy hHeld ?_
      refine tkQ 10 rfl hTidy hHeld ?_
      refine tkQ 12 rfl hTidy hHeld ?_
      refine tkQ 13 rfl hTidy hHeld ?_
      refine tkQ 14 rfl hTidy hHeld ?_
      refine tkQ 15 rfl hTidy hHeld ?_
      try simp only [List.getElem_toArray, List.getElem_cons_succ, List.getElem_cons_zero, Act.put, List.setIfInBounds_toArray, List.set_cons_zero, List.set_cons_succ]
      refine but_one (i := 3) (by kernel_rfl) rfl ?_
      intro K hK
      go_simp
      go_at_call 18
      refine (putno_ls (pc := 3) (k := r) S6.out hs5.out (show (2 : Int) ≠ 0 by decide)).mono ?_
      rintro e w5 ⟨rfl, S7⟩
      clear S6
      (try dsimp only)
      have hHeld2 := (S7.out.ownB (i := 0) rfl).range
      refine hK _ _ (fun _ => hHeld2) ?_
      clear hK K hHeld
      have hHeld := hHeld2
      clear hHeld2
      try simp only [List.getElem_toArray, List.getElem_cons_succ, List.getElem_cons_zero, Act.put, List.setIfInBounds_toArray, List.set_cons_zero, List.set_cons_succ]
      try simp only [List.getElem_toArray, List.getElem_cons_succ, List.getElem_cons_zero, Act.put, List.setIfInBounds_toArray, List.set_cons_zero, List.set_cons_succ]
      refine but_one (i := 7) (by kernel_rfl) rfl ?_
      intro K hK
      go_simp
      go_at_call 12
      refine (parkno_ls (k := r) S7.out hs5.out (show (2 : Int) ≠ 0 by decide)).mono ?_
      rintro e w6 ⟨rfl, S8⟩
      clear S7
      (try dsimp only)
      have hHeld2 := (S8.out.ownB (i := 0) rfl).range
      refine hK _ _ (fun _ => hHeld2) ?_
      clear hK K hHeld
      have hHeld := hHeld2
      clear hHeld2
      try simp only [List.getElem_toArray, List.getElem_cons_succ, List.getElem_cons_zero, Act.put, List.setIfInBounds_toArray, List.set_cons_zero, List.set_cons_succ]
      try simp only [List.getElem_toArray, List.getElem_cons_succ, List.getElem_cons_zero, Act.put, List.setIfInBounds_toArray, List.set_cons_zero, List.set_cons_succ]
      refine but_one (i := 11) (by kernel_rfl) rfl ?_
      intro K hK
      go_simp
      go_at_call 14
      refine (wakeno_ls (k := r) S8.out hs5.out (show (2 : Int) ≠ 1 by decide)).mono ?_
      rintro e w7 ⟨rfl, S9⟩
      clear S8
      (try dsimp only)
      have hHeld2 := (S9.out.ownB (i := 0) rfl).range
      refine hK _ _ (fun _ => hHeld2) ?_
      clear hK K hHeld
      have hHeld := hHeld2
      clear hHeld2
      try simp only [List.getElem_toArray, List.getElem_cons_succ, List.getElem_cons_zero, Act.put, List.setIfInBounds_toArray, List.set_cons_zero, List.set_cons_succ]
      try simp only [List.getElem_toArray, List.getElem_cons_succ, List.getElem_cons_zero, Act.put, List.setIfInBounds_toArray, List.set_cons_zero, List.set_cons_succ]
      refine but_one (i := 16) (by kernel_rfl) rfl ?_
      intro K hK
      go_simp
      go_at_call 15
      refine (endno_ls (k := r) S9.out hs5.out rfl).mono ?_
      rintro e w8 ⟨rfl, S10⟩
      clear S9
      (try dsimp only)
      have hHeld2 := (S10.out.ownB (i := 0) rfl).range
      refine hK _ _ (fun _ => hHeld2) ?_
      clear hK K hHeld
      have hHeld := hHeld2
      clear hHeld2
      try simp only [List.getElem_toArray, List.getElem_cons_succ, List.getElem_cons_zero, Act.put, List.setIfInBounds_toArray, List.set_cons_zero, List.set_cons_succ]
      refine tkQ 17 rfl hTidy hHeld ?_
      refine tkQ 18 rfl hTidy hHeld ?_
      refine tkQ 19 rfl hTidy hHeld ?_
      refine tkQ 20 rfl hTidy hHeld ?_
      refine but_done (by kernel_rfl) ?_
      try clear hHeld
      clear hTidy
      clear hR6 S5
      go_wp2_with fail
      refine (get_ls (k := r) S10.out hs5.out).mono ?_
      rintro e w9 ⟨A9, c9, rfl, S11⟩
      clear S10
      go_wp2_with (refine wp_stN rfl (.tmp 20) (.tmp 85) rfl rfl rfl rfl i47 (tU_one ..) ?_)
      have S12 := Lib.hid (S11.out.block 47 (tW (yEnd (yNew (r : Int) (gE r)) how) A9 c9))
      generalize w9.alloc (.cells (tW (yEnd (yNew (r : Int) (gE r)) how) A9 c9) 47) = w10 at *
      generalize w9.heap.size = M at *
      clear S11
      have hYl : Hid (Y.length ≤ 20 ∧ (Y.length : Int) = (k : Int) - 1) := by have := hwl.out; exact ⟨by omega, by omega⟩
      refine (ready_ls S12.out (by have := hYl.out.1; omega)).mono ?_
      rintro e w11 ⟨A11, c11, rfl, R11, S13⟩
      clear S12
      have BX : Hid (Bk w11 M 47 (tW (yEnd (yNew (r : Int) (gE r)) how) A9 c9)) := S13.out.ownB (i := 0) rfl
      have x2 : w11.cell? ⟨M, 2, none⟩ = some (.int .i64 2) := BX.out.cell 2
      have x3 : w11.cell? ⟨M, 3, none⟩ = some (.int .i64 how) := BX.out.cell 3
      have x4 : w11.cell? ⟨M, 4, none⟩ = some (.int .i64 (r : Int)) := BX.out.cell 4
      have x5 : w11.cell? ⟨M, 5, none⟩ = some (.int .i64 0) := BX.out.cell 5
      have x6 : w11.cell? ⟨M, 6, none⟩ = some (.int .i64 0) := BX.out.cell 6
      have x7 : w11.cell? ⟨M, 7, none⟩ = some (.int .i64 0) := BX.out.cell 7
      have x8 : w11.cell? ⟨M, 8, none⟩ = some (.int .i64 0) := BX.out.cell 8
      have x9 : w11.cell? ⟨M, 9, none⟩ = some (.int .i64 0) := BX.out.cell 9
      have x10 : w11.cell? ⟨M, 10, none⟩ = some (.int .i64 0) := BX.out.cell 10
      have x11 : w11.cell? ⟨M, 11, none⟩ = some (.int .i64 0) := BX.out.cell 11
      have heq := eq8 (r : Int) 0 0 0 0 0 0 0 w11
      have hYe : (Y.length : Int) = (k : Int) - 1 := hYl.out.2
      have hkk : (((k : Int) - 1) == ((k : Int) - 1)) = true := by simp
      have hhh : (how == how) = true := by simp
      go_wp2_with fail
      refine (awake_any w11 (S13.out.ft hF.out)).mono ?_
      rintro e w12 ⟨rfl, b12⟩
      have HB := Lib.hid (S13.out.later b12).bel
      clear S13 R11 BX
      go_wp2_with fail
      go_ret
      exact ⟨rfl, HB.out⟩
theorem ends_out (a0 at_ how : Int) (b : Bool) (W : World) (hF : Hid (Pg.FT W)) (h : a0 < 1 ∨ 20 < a0) : Calls Tryd.prog 5 #[.int .i64 a0, .int .i64 at_, .int .i64 how, .bool b] W (BoolR true W) := by
  by_cases c1 : a0 < 1
  · go_enter Tryd.func5, Tryd.ntmps5
    go_wp2_with fail
    refine (awake_any W hF).mono ?_
    rintro e w2 ⟨rfl, b2⟩
    go_wp2_with fail
    go_ret
    exact ⟨rfl, b2⟩
  · have c2 : 20 < a0 := by omega
    clear h
    go_enter Tryd.func5, Tryd.ntmps5
    go_wp2_with fail
    refine (awake_any W hF).mono ?_
    rintro e w2 ⟨rfl, b2⟩
    go_wp2_with fail
    go_ret
    exact ⟨rfl, b2⟩
theorem ends_walk (a0 at_ how : Int) (b : Bool) (W : World) (hF : Hid (Pg.FT W)) : Calls Tryd.prog 5 #[.int .i64 a0, .int .i64 at_, .int .i64 how, .bool b] W (BoolR true W) := by
  by_cases h : a0 < 1 ∨ 20 < a0
  · exact ends_out a0 at_ how b W hF h
  · obtain ⟨n, rfl⟩ := Int.eq_ofNat_of_zero_le (show 0 ≤ a0 by omega)
    cases b with
    | true => exact ends_true n (by omega) (by omega) at_ how W hF
    | false => exact ends_false n (by omega) (by omega) at_ how W hF
end Go.Proofs.YthiifnbgdajgaaaDoor
