/- Picked by whatever number, it is one that can run. Conditions: the arguments read as the row says; the table of operations lies in its variable. -/
import Derived.Test.YthiifnbgdajgaaaDoorRow
namespace Go.Proofs.YthiifnbgdajgaaaDoor
open Go.RowKit
set_option linter.unusedVariables false
set_option maxRecDepth 100000

theorem picks_out (A : Option Addr) (len cap : Nat) (a1 : Int) (W : World) (hF : Hid (Pg.FT W)) (h : 60 < len) : Calls Tryd.prog 7 #[.slice A len cap, .int .i64 a1] W (BoolR true W) := by
  have c1 : 60 < (len : Int) := by omega
  go_enter Tryd.func7, Tryd.ntmps7
  go_wp2_with fail
  refine (awake_any W hF).mono ?_
  rintro e w2 ⟨rfl, b2⟩
  go_wp2_with fail
  go_ret
  exact ⟨rfl, b2⟩
set_option maxHeartbeats 8000000 in
theorem picks_in (A : Option Addr) (len cap : Nat) (zs : List Int) (a1 : Int) (W : World) (hF : Hid (Pg.FT W)) (hZ : Hid (Rn W A len zs)) (h : len ≤ 60) : Calls Tryd.prog 7 #[.slice A len cap, .int .i64 a1] W (BoolR true W) := by
  have c1 : ¬ 60 < (len : Int) := by omega
  have c2 : (len : Int) ≤ 60 := by omega
  obtain ⟨i0, hi, hz0, hz1, hz2⟩ := info_parts inf3
  go_enter Tryd.func7, Tryd.ntmps7
  go_wp2_with fail
  refine (new_ls (Below.refl _ _)).mono ?_
  rintro e w1 ⟨t, rfl, S1⟩
  go_wp2_with fail
  have S1' : Hid (LS W t [] [] [rI none 0 []] w1) := S1.out.ints (World.ownsRow_nil _ _ _ _) (Below.refl _ _)
  go_loopw [6, 7] (fun v i wr => ∃ (k : Nat) (P : Option Addr) (n c : Nat) (S : List T0) (l : List Int), k ≤ len ∧ v = .slice P n c ∧ i = .int .i64 (k : Int) ∧ Hid (n = l.length) ∧ Hid (n ≤ k) ∧ Hid (S.length = k) ∧ Hid (LS W t S l [rI P c l] wr)) (fun v i _ => len - (intOf i).toNat)
  case atStart => exact ⟨0, none, 0, 0, [], [], by omega, rfl, rfl, rfl, Nat.le_refl _, rfl, S1'⟩
  case round =>
    clear S1 S1'
    obtain ⟨k, P, n, c, S, l, hk, rfl, rfl, hn, hnk, hSl, S2⟩ := hrel
    have k1 : (0 : Int) ≤ (k : Int) := by omega
    have k2 : (k : Int) ≤ 60 := by omega
    by_cases hlt : k < len
    · have hlc : (k : Int) < (len : Int) := by omega
      go_wp2_with fail
      refine (start_ls (prog := 0) (g := g0) S2.out (by omega) (by rw [hSl.out]; omega) (by rw [← hn.out]; have := hnk.out; omega)).mono ?_
      rintro e w2 ⟨he, S3⟩
      have HWo : Hid (wo (l ++ [(k : Int)]) k = l) := by show _ = _; rw [← hSl.out]; exact wo_snoc S2.out.ids.1
      rw [hSl.out] at he S3
      subst he
      clear S2
      have hy : Hid ((S ++ [yNew 0 g0])[k]? = some (yNew 0 g0)) := at_snoc _ _ hSl.out
      have hS4 : Hid ((S ++ [yNew 0 g0]).length = k + 1) := by show _ = _; rw [List.length_append, hSl.out]; rfl
      have hkS : Hid (k < (S ++ [yNew 0 g0]).length) := by show _ < _; rw [hS4.out]; omega
      obtain ⟨bz, oz, z, rfl, hbz, hzz, hcz⟩ := hZ.out.cell S3.out.bel hlt
      clear hzz
      have hbw : bz < w2.heap.size := Nat.lt_of_lt_of_le hbz S3.out.bel.size
      go_wp2_with fail
      refine (round_any z 3 w2 (by omega) (by omega)).mono ?_
      rintro e w' ⟨r, hr, rfl, rfl⟩
      have hr3 : r = 0 ∨ r = 1 ∨ r = 2 := by omega
      clear hr hcz hbz hbw
      rcases hr3 with rfl | rfl | rfl
      · have hb8 : (n : Int) ≤ 60 := by have := hnk.out; omega
        have HX := Lib.hid (below_al w2 (.cells #[.int .i64 (k : Int)] 3))
        have HR : Hid (Rw 0 w2 P c l) := S3.out.ownI (i := 0) rfl
        have hR : w2.ownsRow 0 3 1 (.slice P n c) n (iV l) := by rw [hn.out]; exact HR.out
        have HR2 := Lib.hid hR
        clear hR
        go_wp2_with (at_builtin; go_loud (refine wpList_append_lies _ rfl (.tmp 42) (.tmp 44) 22 rfl 0 3 i0 _ 1 8 Tryd.underlying22 hi hz0 hz1 hz2 rfl (by omega) (.slice P n c) n (iV l) rfl (row_later HR2.out HX.out) ⟨w2.heap.size, 0, none⟩ 1 1 [.int .i64 (k : Int)] rfl rfl (World.news_of_block (cs := #[.int .i64 (k : Int)]) (heap_alloc_new w2 _)) one_int (by omega) (by unfold maxLen; have := hnk.out; omega) (by have := hnk.out; omega) (Nat.zero_le _) (w2.heap.size + 1) (by first | (simp; done) | (simp; rfl)) ?_; intro g cap3 w3 hown hgrow hat hlt1; have HE : Hid (LS W t (S ++ [yNew 0 g0]) (l ++ [(k : Int)]) [rI (some ⟨g, 0, none⟩) cap3 (l ++ [(k : Int)])] w3) := (S3.out.app (i := 0) rfl HX.out (by rw [← hn.out]; exact hown) (by rw [← hn.out]; exact hgrow) (by rw [← hn.out]; exact hat.imp id (by omega))); clear hown hgrow hat hlt1))
        have hn3 : Hid (n + 1 = (l ++ [(k : Int)]).length) := by show _ = _; rw [List.length_append, ← hn.out]; rfl
        go_roundw
        case rel => exact ⟨k + 1, _, n + 1, cap3, _, _, by omega, rfl, by go_num, hn3, Nat.succ_le_succ hnk.out, hS4, HE⟩
        case measure => simp [intOf]; omega
      · go_wp2_with fail
        refine (park_ls (k := k) (y := yI 11 0 0 0) (As := none) (cap := 0) S3.out hy.out rfl (by rw [List.length_append, ← hn.out]; have := hnk.out; simp; omega) (S3.out.ft hF.out) (.inr (.inl rfl)) chk_recv0 (.inl rfl) (Pg.RdC.nil _ _) (Nat.zero_le _) (Nat.zero_le _) (by omega)).mono ?_
        rintro e w3 ⟨rfl, S4⟩
        rw [HWo.out] at S4
        have hS5 : Hid (((S ++ [yNew 0 g0]).set k (yPark (yNew 0 g0) (yI 11 0 0 0))).length = k + 1) := by show _ = _; rw [List.length_set]; exact hS4.out
        clear S3
        go_wp2_with fail
        go_roundw
        case rel => exact ⟨k + 1, P, n, c, _, l, by omega, rfl, by go_num, hn, Nat.le_succ_of_le hnk.out, hS5, S4⟩
        case measure => simp [intOf]; omega
      · go_wp2_with fail
        refine (end_ls (k := k) (how := 1) S3.out hy.out (show (0 : Int) ≠ 2 by decide) (by rw [List.length_append, ← hn.out]; have := hnk.out; simp; omega)).mono ?_
        rintro e w3 ⟨rfl, S4⟩
        rw [HWo.out] at S4
        have hS5 : Hid (((S ++ [yNew 0 g0]).set k (yEnd (yNew 0 g0) 1)).length = k + 1) := by show _ = _; rw [List.length_set]; exact hS4.out
        clear S3
        go_wp2_with fail
        go_roundw
        case rel => exact ⟨k + 1, P, n, c, _, l, by omega, rfl, by go_num, hn, Nat.le_succ_of_le hnk.out, hS5, S4⟩
        case measure => simp [intOf]; omega
    · have hlc : ¬ (k : Int) < (len : Int) := by omega
      have hb8 : (n : Int) ≤ 60 := by have := hnk.out; omega
      by_cases h0 : n = 0
      · have hl : l = [] := List.eq_nil_of_length_eq_zero (by rw [← hn.out]; exact h0)
        subst h0
        subst hl
        go_wp2_with fail
        refine (none_ls (n := a1) S2.out).mono ?_
        rintro e w' ⟨rfl, rfl⟩
        go_wp2_with fail
        refine (none_ls (n := a1) S2.out).mono ?_
        rintro e w' ⟨rfl, rfl⟩
        go_wp2_with fail
        refine (ready_ls S2.out (by simp)).mono ?_
        rintro e w3 ⟨A3, c3, rfl, R3, S3⟩
        replace R3 : Hid (Rn w3 A3 0 []) := R3
        clear S2
        go_wp2_with fail
        refine (ints_eq R3.out (Rn.nil w3 P) (by omega)).mono ?_
        rintro e w' ⟨rfl, q, rfl⟩
        have S4 := Lib.hid (S3.out.drewN q)
        generalize w3.drewN q = w4 at *
        clear R3 S3
        go_wp2_with fail
        refine (awake_any w4 (S4.out.ft hF.out)).mono ?_
        rintro e w5 ⟨rfl, b5⟩
        have HB := Lib.hid (S4.out.later b5).bel
        go_wp2_with fail
        go_ret
        exact ⟨rfl, HB.out⟩
      · have hn0 : 0 < n := by omega
        have hpn : pk a1 n < n := pk_lt a1 hn0
        have hzl : pk a1 n < l.length := by rw [← hn.out]; exact hpn
        obtain ⟨z, hz⟩ : ∃ z, Hid (l[pk a1 n]? = some z) := ⟨l[pk a1 n]'hzl, List.getElem?_eq_getElem hzl⟩
        have hzz : Hid (l[pk a1 l.length]? = some z) := by show _ = _; rw [← hn.out]; exact hz.out
        have hll : Hid (l.length ≤ 1000) := by show _ ≤ _; rw [← hn.out]; have := hnk.out; omega
        have hne : ((n : Int) == 0) = false := by simp; omega
        have hg0 : (0 : Int) < (n : Int) := by omega
        have hq1 : ((pk a1 n : Nat) : Int) < (n : Int) := by omega
        have hq2 : (0 : Int) ≤ ((pk a1 n : Nat) : Int) := by omega
        have hzb : (z == z) = true := by simp
        clear hzl h0
        go_wp2_with fail
        refine (pick_ls (n := a1) (z := z) S2.out hll.out hzz.out).mono ?_
        rintro e w3 ⟨rfl, S3⟩
        clear S2
        go_wp2_with fail
        refine (pick_ls (n := a1) (z := z) S3.out hll.out hzz.out).mono ?_
        rintro e w4 ⟨rfl, S4⟩
        clear S3
        go_wp2_with fail
        refine (round_pk a1 n w4 hn0 (by have := hnk.out; omega)).mono ?_
        rintro e w' ⟨rfl, rfl⟩
        have HR4 : Hid (Rw 0 w4 P c l) := S4.out.ownI (i := 0) rfl
        obtain ⟨g, rfl, hgc⟩ := row_form HR4.out (by rw [← hn.out]; exact hn0)
        have hcz : w4.cell? ⟨g, pk a1 n, none⟩ = some (.int .i64 z) := by rw [HR4.out.cellAt _ (by rw [← hn.out]; omega)]; exact iV_at hz.out
        generalize pk a1 n = p at *
        go_wp2_with fail
        refine (ready_ls S4.out hll.out).mono ?_
        rintro e w5 ⟨A5, c5, rfl, R5, S5⟩
        rw [← hn.out] at R5
        have HR5 : Hid (Rn w5 (some ⟨g, 0, none⟩) n l) := by show Rn _ _ _ _; rw [hn.out]; exact rn_rw (S5.out.ownI (i := 0) rfl)
        rw [← hn.out]
        clear S4 hcz HR4
        go_wp2_with fail
        refine (ints_eq R5.out HR5.out (by have := hnk.out; omega)).mono ?_
        rintro e w' ⟨rfl, q, rfl⟩
        have S6 := Lib.hid (S5.out.drewN q)
        generalize w5.drewN q = w6 at *
        clear R5 HR5 S5
        go_wp2_with fail
        refine (awake_any w6 (S6.out.ft hF.out)).mono ?_
        rintro e w7 ⟨rfl, b7⟩
        have HB := Lib.hid (S6.out.later b7).bel
        go_wp2_with fail
        go_ret
        exact ⟨rfl, HB.out⟩
theorem picks_walk (A : Option Addr) (len cap : Nat) (zs : List Int) (a1 : Int) (W : World) (hF : Hid (Pg.FT W)) (hZ : Hid (Rn W A len zs)) : Calls Tryd.prog 7 #[.slice A len cap, .int .i64 a1] W (BoolR true W) := by
  by_cases h : 60 < len
  · exact picks_out A len cap a1 W hF h
  · exact picks_in A len cap zs a1 W hF hZ (by omega)
end Go.Proofs.YthiifnbgdajgaaaDoor
