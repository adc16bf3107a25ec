/- The walk of ChooseDraws. Condition: the slice that came in reads as l. -/
import Derived.Test.YtmcacmbllpphiaaDrM
import Derived.Test.YtmcacmbllpphiaaAwk
namespace Go.Proofs.Ytmcacmbllpphiaa
open Go.RowKit
set_option linter.unusedVariables false

theorem set_lst {α : Type} (l : List α) (x y : α) (k : Nat) (h : l.length = k) : (l ++ [x]).set k y = l ++ [y] := by subst h; simp
theorem inf3d : (Try.prog.info? 3).map (fun i => (i.zero, i.size, i.bytes)) = some (some (.int .i64 0), 1, 8) := by kernel_rfl
set_option maxRecDepth 100000 in
set_option maxHeartbeats 16000000 in
theorem draws_in (A : Option Addr) (n cap : Nat) (l : List Bool) (a : Int) (W : World) (hA : IsB W A n cap l) (h1 : 1 ≤ n) (hn : n ≤ 16) (ha1 : -1099511627776 ≤ a) (ha2 : a ≤ 1099511627776) : Calls Try.prog 8 #[.slice A n cap, .int .i64 a] W (BoolR true W) := by
  obtain ⟨i0, hi, hz0, hz1, hz2⟩ := info_parts inf65
  obtain ⟨j0, hj, hy0, hy1, hy2⟩ := info_parts inf3d
  have b1 : (n : Int) ≤ 16 := by omega
  have b2 : 1 ≤ (n : Int) := by omega
  have b3 : ¬ a < -1099511627776 := by omega
  have b4 : ¬ 1099511627776 < a := by omega
  have HA := Lib.hid hA
  have HLN := Lib.hid hA.2.2.1
  clear hA
  go_enter Try.func8, Try.ntmps8
  go_wp2_with fail
  go_loopw [5, 6] (fun c i wr => ∃ k : Nat, k ≤ n ∧ i = .int .i64 k ∧ c = .int .i64 (wn l k).length ∧ wr = W) (fun _ i _ => n - (intOf i).toNat)
  case atStart => exact ⟨0, by omega, rfl, rfl, rfl⟩
  case round =>
    obtain ⟨k, hk, rfl, rfl, rfl⟩ := hrel
    by_cases hlt : k < n
    · have k1 : (k : Int) < (n : Int) := by omega
      have k2 : 0 ≤ (k : Int) := by omega
      have hkl : k < l.length := by rw [HLN.out]; exact hlt
      obtain ⟨bb, off, rfl, hbb, d0⟩ := IsB.at HA.out (Below.refl _ _) (List.getElem?_eq_getElem hkl)
      have HY := Lib.hid (List.getElem?_eq_getElem hkl)
      have hwl := wn_len l k
      have c1 : ((wn l k).length : Int) ≤ 16 := by omega
      generalize l[k]'hkl = y at *
      clear hbb hkl
      cases y with
      | true =>
        have HE : Hid ((wn l (k + 1)).length = (wn l k).length + 1) := by show _ = _; rw [wn_succ, if_pos HY.out]; simp
        go_wp2_with fail
        go_roundw
        case rel => exact ⟨k + 1, by omega, by go_num, by rw [HE.out]; go_num, trivial⟩
        case measure => simp [intOf]; omega
      | false =>
        have HE : Hid (wn l (k + 1) = wn l k) := by show _ = _; rw [wn_succ, if_neg (by rw [HY.out]; simp)]
        go_wp2_with fail
        go_roundw
        case rel => exact ⟨k + 1, by omega, by go_num, by rw [HE.out], trivial⟩
        case measure => simp [intOf]; omega
    · obtain rfl : k = n := by omega
      have hle := wn_len l k
      have HR : Hid (wn l k = wn l k) := rfl
      have c1 : ((wn l k).length : Int) ≤ 16 := by omega
      have c0 : 0 ≤ ((wn l k).length : Int) := by omega
      go_wp2_with (first
        | ((refine wpList_make_full wr rfl (.tmp 47) (.tmp 47) 22 rfl wr.heap.size 3 j0 (.int .i64 0) 1 Try.underlying22 hj hy0 hy1 .i64 .i64 _ _ k rfl rfl rfl rfl (by rw [hy2]; omega) (by unfold maxLen; omega) (Nat.le_refl _) ?_); intro w1 ho1 hg1; have S1 : Hid (RQ wr [] (gS 0 (dF l)) (.slice none 0 0) (gL 0 true 5) (.slice (some ⟨wr.heap.size, 0, none⟩) k k) (sR a (wn l k) k 0) w1) := (RQ.start wr).growU hg1 (by rw [sR_len, sR_zero]; simp only [Value.cells, Nat.mul_one] at ho1; rw [toList_madeCells_one] at ho1; simpa [iV] using ho1) (by intro b hb; cases hb; exact .inr rfl); clear ho1 hg1))
      have HWM := Lib.hid (fun (j p : Nat) (h : (wn l k)[j]? = some p) => wn_mem (List.mem_of_getElem? h))
      have HND := Lib.hid (wn_nodup l k)
      have HMW := Lib.hid (fun (i : Nat) (h1 : i < k) (h2 : l[i]? = some true) => mem_wn h1 h2)
      have HNM := Lib.hid (fun (i : Nat) (h2 : l[i]? ≠ some true) (h3 : i ∈ wn l k) => h2 (wn_mem h3).2)
      have HD1 := Lib.hid (fun (d p : Nat) (h0 : 0 < (wn l k).length) (hp : (wn l k)[dI a (wn l k).length d]? = some p) => d_one (a := a) hn h0 hp)
      generalize wn l k = r at *
      clear HR
      generalize wr = W at *
      go_loopw [8] (fun i wr => ∃ d : Nat, d ≤ 2 * r.length ∧ i = .int .i64 d ∧ Hid (RQ W [] [] (.slice none 0 0) [] (.slice (some ⟨W.heap.size, 0, none⟩) k k) (sR a r k d) wr)) (fun i _ => 2 * r.length - (intOf i).toNat)
      case atStart => exact ⟨0, by omega, rfl, S1.out.anew⟩
      case round =>
        clear S1
        obtain ⟨d, hd, rfl, hS⟩ := hrel
        by_cases hlt2 : d < 2 * r.length
        · have k1 : (d : Int) < 2 * (r.length : Int) := by omega
          have k2 : 0 ≤ (d : Int) := by omega
          have S2 : Hid (RQ W [] (gS 0 (dF l)) (.slice none 0 0) (gL 0 true 5) (.slice (some ⟨W.heap.size, 0, none⟩) k k) (sR a r k d) wr) := hS.out
          clear hS
          generalize wr = w1 at *
          go_wp2_with fail
          go_loopw [9, 10] (fun v i wr => ∃ (i' : Nat) (B : List Nat), i' ≤ k ∧ i = .int .i64 i' ∧ B.length = i' ∧ Hid (RQ W B (gS i' (dF l)) v (gL i' true 5) (.slice (some ⟨W.heap.size, 0, none⟩) k k) (sR a r k d) wr)) (fun _ i _ => k - (intOf i).toNat)
          case atStart => exact ⟨0, [], by omega, rfl, rfl, S2⟩
          case round =>
            clear S2
            obtain ⟨i, B, hi2, rfl, hBl, hS⟩ := hrel
            by_cases hlt3 : i < k
            · have k3 : (i : Int) < (k : Int) := by omega
              have k4 : 0 ≤ (i : Int) := by omega
              have hil : i < l.length := by rw [HLN.out]; exact hlt3
              go_wp2_with fail
              refine (rq_new hS.out 1 (by omega) (fun c => gptr_more hBl c)).mono ?_
              rintro e w2 ⟨c, rfl, z1, _⟩
              have HS1 := Lib.hid z1
              have hp : ptr (B ++ [c]) ⟨some i, true, 5⟩ = some ⟨c, 0, none⟩ := by simp [ptr, ← hBl]
              have hBc : (B ++ [c])[i]? = some c := by simp [← hBl]
              have HBL : Hid ((B ++ [c]).length = i + 1) := by show _ = _; rw [List.length_append, List.length_singleton, hBl]
              have HL : Hid ((gL i true 5).length = i) := gL_len _ _ _
              generalize B ++ [c] = B' at *
              obtain ⟨bb, off, rfl, hbb, d0⟩ := IsB.at HA.out z1.bel (List.getElem?_eq_getElem hil)
              have HY := Lib.hid (List.getElem?_eq_getElem hil)
              generalize l[i]'hil = y at *
              clear hS z1 hBl hbb hil
              cases y with
              | true =>
                have HS3 : Hid (RQ W B' (gS (i + 1) (dF l)) u9 (gL i true 5) (.slice (some ⟨W.heap.size, 0, none⟩) k k) (sR a r k d) w2) := by rw [gS_succ, dF_yes HY.out]; exact HS1.out
                have HSz := HS3.out.size
                have HR := Lib.hid (HS3.out.later (below_al w2 (.cells (caA B' ⟨some i, true, 5⟩) 65)))
                have HRd := Lib.hid (Rd.ca w2 B' ⟨some i, true, 5⟩ _ rfl)
                unfold caA at HR HRd
                rw [hp] at HR HRd
                clear HS1 hBc HS3
                go_wp2_with (at_builtin; go_loud (refine app_wp rfl (.tmp 78) (.tmp 81) 38 rfl W.heap.size 65 3 24 i0 (.agg #[.pointer none, .bool false, .int .i64 0]) Try.underlying38 hi hz0 hz1 hz2 rfl (by decide) u9 (gL i true 5).length (caF B' (gL i true 5)) rfl HR.out.row _ (some ⟨w2.heap.size, 0, none⟩) 1 1 (caF B' [⟨some i, true, 5⟩]) rfl HRd.out (caF_one _ _) (by have := HL.out; unfold maxLen; omega) (by have := HL.out; omega) (by simp; omega) ?_; intro v1 w3 ho1 hg1; have HR1 : Hid (RQ W B' (gS (i + 1) (dF l)) v1 (gL (i + 1) true 5) (.slice (some ⟨W.heap.size, 0, none⟩) k k) (sR a r k d) w3) := HR.out.growV hg1 (by rw [gL_succ, List.length_append, List.length_singleton, caF_app]; exact ho1); clear ho1 hg1))
                go_roundw
                case rel => exact ⟨i + 1, B', by omega, by go_num, HBL.out, HR1⟩
                case measure => simp [intOf]; omega
              | false =>
                go_wp2_with fail
                refine (rq_send (i := i) (s := ⟨0, false, 1, [], [], []⟩) (s' := dF l i) (ws := []) (d := true) (n := 0) 1 HS1.out hBc (by rw [List.getElem?_append_right (by rw [gS_len]; exact Nat.le_refl _), gS_len, Nat.sub_self]; rfl) rfl rfl (by simp) (by rw [dF_no (by rw [HY.out]; simp)]; rfl) rfl).mono ?_
                rintro e w4 ⟨A4, n4, rfl, z4, _⟩
                have HS3 : Hid (RQ W B' (gS (i + 1) (dF l)) u9 (gL i true 5) (.slice (some ⟨W.heap.size, 0, none⟩) k k) (sR a r k d) w4) := by rw [gS_succ, ← set_lst _ (⟨0, false, 1, [], [], []⟩ : CS) _ i (gS_len _ _)]; exact z4
                have HSz := HS3.out.size
                have HR := Lib.hid (HS3.out.later (below_al w4 (.cells (caA B' ⟨some i, true, 5⟩) 65)))
                have HRd := Lib.hid (Rd.ca w4 B' ⟨some i, true, 5⟩ _ rfl)
                unfold caA at HR HRd
                rw [hp] at HR HRd
                clear HS1 hBc HS3 z4 d0
                go_wp2_with (at_builtin; go_loud (refine app_wp rfl (.tmp 78) (.tmp 81) 38 rfl W.heap.size 65 3 24 i0 (.agg #[.pointer none, .bool false, .int .i64 0]) Try.underlying38 hi hz0 hz1 hz2 rfl (by decide) u9 (gL i true 5).length (caF B' (gL i true 5)) rfl HR.out.row _ (some ⟨w4.heap.size, 0, none⟩) 1 1 (caF B' [⟨some i, true, 5⟩]) rfl HRd.out (caF_one _ _) (by have := HL.out; unfold maxLen; omega) (by have := HL.out; omega) (by simp; omega) ?_; intro v1 w3 ho1 hg1; have HR1 : Hid (RQ W B' (gS (i + 1) (dF l)) v1 (gL (i + 1) true 5) (.slice (some ⟨W.heap.size, 0, none⟩) k k) (sR a r k d) w3) := HR.out.growV hg1 (by rw [gL_succ, List.length_append, List.length_singleton, caF_app]; exact ho1); clear ho1 hg1))
                go_roundw
                case rel => exact ⟨i + 1, B', by omega, by go_num, HBL.out, HR1⟩
                case measure => simp [intOf]; omega
            · obtain rfl : i = k := by omega
              obtain ⟨A9, c9, hv, hX⟩ := hS.out.rd
              rw [gL_len] at hv hX
              subst hv
              have HX := Lib.hid hX
              have HS := Lib.hid hS.out
              have HBN : Hid (BN 100 (gS i (dF l))) := BN_g _ fun i _ => by simp [nw, dF]
              have h0 : 0 < r.length := by omega
              have hpi : r[dI a r.length d]? = some (r[dI a r.length d]'(dI_lt h0)) := List.getElem?_eq_getElem _
              obtain ⟨S', hD⟩ := HD1.out d _ h0 hpi
              have HD := Lib.hid hD
              have HP := Lib.hid hpi
              obtain ⟨hpn, hpt⟩ := HWM.out _ _ hpi
              have HPT := Lib.hid hpt
              generalize r[dI a r.length d]'(dI_lt h0) = p at *
              have HPN : Hid (p < i) := hpn
              have q1 : 0 ≤ (p : Int) := by omega
              have q2 : (p : Int) < (i : Int) := by omega
              have q3 : IntKind.i64.wrap (a + (d : Int)) = a + (d : Int) := by rw [IntKind.wrap_i64]; omega
              clear hS hX hBl hpi hD hpt hpn
              go_wp2_with fail
              refine (rq_do (m := 0) true (a + (d : Int)) 2 (by unfold Wf; decide) HS.out HBN.out HX.out (by omega) HD.out rfl).mono ?_
              rintro e w5 ⟨A5, k5, rfl, s5, _⟩
              have bl := below_al w5 (.cells #[.int .i64 p, .int .i64 0, .bool true, .bool false, .bool false, .bool false] 46)
              have HS5 := Lib.hid (s5.later bl)
              clear s5 bl HS HX HD
              obtain ⟨bb, off, rfl, hbb, d0⟩ := IsB.at HA.out HS5.out.bel HPT.out
              have hints := HS5.out.ints
              rw [sR_len] at hints
              have e0 := hints.cellAt p (by omega)
              rw [show (iV (sR a r i d))[p]? = some (.int .i64 (sv a r d p : Int)) by simp [iV, sR_at HPN.out]] at e0
              have e1 := hints.frozenAt p
              have hWs := HS5.out.size
              have hWl := (hints.lt _ rfl).2
              have hsv := sv_le a r d p
              have HST := Lib.hid (hints.stored p (.int .i64 ((sv a r d p : Int) + 1)))
              generalize hsvn : sv a r d p = c at *
              have c3 : 0 ≤ (c : Int) := by omega
              have c4 : (c : Int) ≤ 32 := by omega
              unfold reG
              clear hbb hints
              go_wp2_with fail
              have HS6 : Hid (RQ W [] [] (.slice none 0 0) [] (.slice (some ⟨W.heap.size, 0, none⟩) i i) (sR a r i (d + 1)) _) := (HS5.out.growU HST.out.2 (by rw [← sR_set HP.out HPN.out, List.length_set, sR_len, hsvn]; exact (by have h9 := HST.out.1; simpa [iV, List.map_set] using h9)) (by intro b hb; exact .inl hb)).anew
              clear HST HS5 e0 e1 d0
              go_roundw
              case rel => exact ⟨d + 1, by omega, by go_num, HS6⟩
              case measure => simp [intOf]; omega
        · obtain rfl : d = 2 * r.length := by omega
          have k1 : ¬ ((2 * r.length : Nat) : Int) < 2 * (r.length : Int) := by omega
          go_wp2_with fail
          generalize wr = w1 at *
          go_loopw [16] (fun i wr => ∃ i' : Nat, i' ≤ k ∧ i = .int .i64 i' ∧ Hid (RQ W [] [] (.slice none 0 0) [] (.slice (some ⟨W.heap.size, 0, none⟩) k k) (sR a r k (2 * r.length)) wr)) (fun i _ => k - (intOf i).toNat)
          case atStart => exact ⟨0, by omega, rfl, hS⟩
          case round =>
            clear hS
            obtain ⟨i, hi2, rfl, hS⟩ := hrel
            by_cases hlt3 : i < k
            · have k3 : (i : Int) < (k : Int) := by omega
              have k4 : 0 ≤ (i : Int) := by omega
              have hil : i < l.length := by rw [HLN.out]; exact hlt3
              obtain ⟨bb, off, rfl, hbb, d0⟩ := IsB.at HA.out hS.out.bel (List.getElem?_eq_getElem hil)
              have HY := Lib.hid (List.getElem?_eq_getElem hil)
              generalize l[i]'hil = y at *
              have hints := hS.out.ints
              rw [sR_len] at hints
              have e0 := hints.cellAt i (by omega)
              rw [show (iV (sR a r k (2 * r.length)))[i]? = some (.int .i64 (sv a r (2 * r.length) i : Int)) by simp [iV, sR_at hlt3]] at e0
              clear hbb hil hints
              cases y with
              | true =>
                rw [sv_two HND.out (HMW.out i hlt3 HY.out)] at e0
                go_wp2_with fail
                go_quiet (fail)
                have HS2 := Lib.hid (hS.out.later (below_drewN (Below.refl _ _) nq))
                clear hS e0 d0
                go_wp2_with fail
                go_roundw
                case rel => exact ⟨i + 1, by omega, by go_num, HS2⟩
                case measure => simp [intOf]; omega
              | false =>
                rw [sv_not (HNM.out i (by rw [HY.out]; simp))] at e0
                go_wp2_with fail
                go_quiet (fail)
                have HS2 := Lib.hid (hS.out.later (below_drewN (Below.refl _ _) nq))
                clear hS e0 d0
                go_wp2_with fail
                go_roundw
                case rel => exact ⟨i + 1, by omega, by go_num, HS2⟩
                case measure => simp [intOf]; omega
            · obtain rfl : i = k := by omega
              have HB0 := Lib.hid hS.out.bel
              clear hS
              go_wp2_with fail
              refine (awake_any wr).mono ?_
              rintro e w10 ⟨rfl, hb⟩
              have HBB := Lib.hid (HB0.out.trans (hb.mono HB0.out.size))
              clear hb HB0
              go_wp2_with fail
              go_ret
              exact ⟨rfl, HBB.out⟩
set_option maxRecDepth 100000 in
theorem draws_walk (A : Option Addr) (n cap : Nat) (l : List Bool) (a : Int) (W : World) (hA : IsB W A n cap l) : Calls Try.prog 8 #[.slice A n cap, .int .i64 a] W (BoolR true W) := by
  by_cases h1 : 1 ≤ n ∧ n ≤ 16 ∧ -1099511627776 ≤ a ∧ a ≤ 1099511627776
  · exact draws_in A n cap l a W hA h1.1 h1.2.1 h1.2.2.1 h1.2.2.2
  · have HW := Lib.hid (awake_any W)
    by_cases h2 : n < 1
    · have b1 : (n : Int) < 1 := by omega
      clear h1
      go_enter Try.func8, Try.ntmps8
      go_wp2_with fail
      refine HW.out.mono ?_
      rintro e w' ⟨rfl, hb⟩
      have HB := Lib.hid hb
      clear hb
      go_wp2_with fail
      go_ret
      exact ⟨rfl, HB.out⟩
    have b1 : ¬ (n : Int) < 1 := by omega
    by_cases h3 : 16 < n
    · have b2 : 16 < (n : Int) := by omega
      clear h1
      go_enter Try.func8, Try.ntmps8
      go_wp2_with fail
      refine HW.out.mono ?_
      rintro e w' ⟨rfl, hb⟩
      have HB := Lib.hid hb
      clear hb
      go_wp2_with fail
      go_ret
      exact ⟨rfl, HB.out⟩
    have b2 : ¬ 16 < (n : Int) := by omega
    by_cases h4 : a < -1099511627776
    · clear h1
      go_enter Try.func8, Try.ntmps8
      go_wp2_with fail
      refine HW.out.mono ?_
      rintro e w' ⟨rfl, hb⟩
      have HB := Lib.hid hb
      clear hb
      go_wp2_with fail
      go_ret
      exact ⟨rfl, HB.out⟩
    · have b3 : 1099511627776 < a := by omega
      clear h1
      go_enter Try.func8, Try.ntmps8
      go_wp2_with fail
      refine HW.out.mono ?_
      rintro e w' ⟨rfl, hb⟩
      have HB := Lib.hid hb
      clear hb
      go_wp2_with fail
      go_ret
      exact ⟨rfl, HB.out⟩
end Go.Proofs.Ytmcacmbllpphiaa
