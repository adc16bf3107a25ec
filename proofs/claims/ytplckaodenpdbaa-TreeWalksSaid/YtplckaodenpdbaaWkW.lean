/- TreeWalks walked: each that hangs on it once, each ahead of what hangs on it, its kids in the order of their coming. No condition. -/
import Derived.Test.YtplckaodenpdbaaWkM
namespace Go.Proofs.Ytplckaodenpdbaa
open Go.RowKit
set_option linter.unusedVariables false
set_option maxRecDepth 100000

set_option maxHeartbeats 8000000 in
theorem walks_any {A : Option Addr} {n c0 : Nat} {l : List Int} {A2 : Option Addr} {n2 c02 : Nat} {l2 : List Bool} (W : World) (hr : Rn W A n l) (hr2 : Rb W A2 n2 l2) : Calls Try.prog 4 #[.slice A n c0, .slice A2 n2 c02] W (BoolR true W) := by
  have HAW := Lib.hid fun w => awake_any w
  obtain ⟨i3, hi3, hy0, hy1, hy2⟩ := info_parts inf3
  by_cases c1 : (80 : Int) < (n : Int)
  · clear hr hr2
    go_enter Try.func4, Try.ntmps4
    go_wp2_with fail
    refine (HAW.out _).mono ?_
    rintro e w' ⟨rfl, hb⟩
    have HB := Lib.hid hb
    clear hb
    go_wp2_with fail
    go_ret
    exact ⟨rfl, HB.out⟩
  by_cases c2 : (n2 : Int) < (n : Int)
  · clear hr hr2
    go_enter Try.func4, Try.ntmps4
    go_wp2_with fail
    refine (HAW.out _).mono ?_
    rintro e w' ⟨rfl, hb⟩
    have HB := Lib.hid hb
    clear hb
    go_wp2_with fail
    go_ret
    exact ⟨rfl, HB.out⟩
  by_cases c3 : (100 : Int) < (n2 : Int)
  · clear hr hr2
    go_enter Try.func4, Try.ntmps4
    go_wp2_with fail
    refine (HAW.out _).mono ?_
    rintro e w' ⟨rfl, hb⟩
    have HB := Lib.hid hb
    clear hb
    go_wp2_with fail
    go_ret
    exact ⟨rfl, HB.out⟩
  have HRN := Lib.hid hr
  have HRB := Lib.hid hr2
  have HN := Lib.hid (new_ls (Below.refl W.heap.size W))
  have hn1 : (n : Int) ≤ 80 := by omega
  obtain ⟨f, hf⟩ : ∃ f : Nat → Int, Hid (f = fun i => l.getD i 0) := ⟨_, rfl⟩
  obtain ⟨g, hg⟩ : ∃ g : Nat → Bool, Hid (g = fun i => l2.getD i false) := ⟨_, rfl⟩
  clear hr hr2
  go_enter Try.func4, Try.ntmps4
  go_wp2_with (go_at_call 9; (with_reducible refine HN.out.mono ?_); rintro e w1 ⟨t, rfl, h1⟩; have H1 := Lib.hid h1; clear h1 HN)
  refine (root_ls H1.out (by simp) false).mono ?_
  rintro e w2 ⟨rfl, HL⟩
  clear H1
  have H2 : Hid (LS W t (bt f g 0) [⟨some ⟨w2.heap.size, 0, none⟩, 1, uq (bt f g 0)⟩] (w2.alloc (.cells #[.int .i64 (-1)] 3))) := by
    refine HL.out.row (l := [-1]) ?_ (below_al _ _)
    exact World.ownsRow_lit (base := w2.heap.size) (e := 3) (size := 1) w2 #[.int .i64 (-1)] 1 (Nat.le_refl _) (by decide) rfl
  clear HL
  go_wp2_with fail
  go_loopw [8, 9] (fun v x wr => ∃ (k c m : Nat) (P : Option Addr), k ≤ n ∧ x = .int .i64 k ∧ v = .slice P m c ∧ m = k + 1 ∧ Hid (LS W t (bt f g k) [⟨P, c, uq (bt f g k)⟩] wr)) (fun _ x _ => n - (intOf x).toNat)
  case atStart => exact ⟨0, 1, 1, _, by omega, rfl, rfl, rfl, H2⟩
  case round =>
    clear H2
    obtain ⟨k, c, m, P, hk, rfl, rfl, hm, hL⟩ := hrel
    by_cases hlt : k < n
    · have b1 : (k : Int) < (n : Int) := by omega
      have b2 : (0 : Int) ≤ (k : Int) := by omega
      have b4 : (k : Int) < (n2 : Int) := by omega
      have hm9 : m ≤ 100 := by omega
      have HM : Hid (m = (uq (bt f g k)).length) := by show _ = _; rw [uq_len, bt_len]; exact hm
      have HB := Lib.hid hL.out.bel
      obtain ⟨b, off, z, rfl, hbl, hz, hc⟩ := HRN.out.cell hL.out.bel hlt
      obtain ⟨b', off', y, rfl, hbl', hy, hc'⟩ := HRB.out.cell (k := k) hL.out.bel (by omega)
      have hp : (pk z (k + 1) : Int) = (pk (f k) (k + 1) : Int) := by rw [hf.out]; simp [List.getD_eq_getElem?_getD, hz]
      have hgy : y = g k := by rw [hg.out]; simp [List.getD_eq_getElem?_getD, hy]
      have HR := Lib.hid (round_at (w := wr) z k (by omega))
      have HA := Lib.hid (bt_add hL.out (by omega) hp hgy)
      have HP := Lib.hid hp
      have HG := Lib.hid hgy
      have HK : Hid (uq (bt f g (k + 1)) = uq (bt f g k) ++ [if y = true then (pk z (k + 1) : Int) else -1]) := by show _ = _; rw [bt, uq_app, ← hp, ← hgy]
      clear hm hz hy hp hgy hL
      generalize pk z (k + 1) = p at HR HA HP HK
      have HC2 : Hid (∀ w3, LS W t (bt f g (k + 1)) [⟨P, c, uq (bt f g k)⟩] w3 → w3.cell? ⟨b', off' + k, none⟩ = some (.bool y)) := fun w3 h => by
        have e := (h.bel.block b' hbl').trans (HB.out.block b' hbl').symm
        exact (cell_blk e _).trans hc'
      cases y with
      | true =>
        rw [if_pos rfl] at HK
        go_wp2_with (first | (go_at_call 22; (with_reducible refine HR.out.mono ?_); rintro e w' ⟨rfl, rfl⟩; clear HR) | (go_at_call 10; (with_reducible refine HA.out.mono ?_); rintro e w3 ⟨rfl, HL3⟩; have hc2 := HC2.out w3 HL3.out; clear HA hc' hc HC2) | (at_builtin; go_loud (refine wpList_append_lies _ rfl (.tmp 77) (.tmp 79) 41 rfl 0 3 i3 _ 1 8 Try.underlying41 hi3 hy0 hy1 hy2 rfl (by omega) (.slice P m c) m (iV (uq (bt f g k))) rfl ((HL3.out.alloc _).own' (i := 0) rfl HM.out) ⟨w3.heap.size, 0, none⟩ 1 1 [.int .i64 (p : Int)] rfl rfl (World.news_of_block (cs := #[.int .i64 (p : Int)]) (heap_alloc_new w3 _)) (int_cell _) (by omega) (by unfold maxLen; omega) (by omega) (by omega) (w3.heap.size + 1) (by first | (simp; done) | (simp; rfl)) ?_; intro g2 cap w4 hown hgrow hat hlt1; have HL4 := Lib.hid (LS.app (HL3.out.alloc _) (i := 0) rfl HM.out hown hgrow (hat.imp id (fun e => by rw [e]; simp))); clear hown hgrow hat hlt1 HL3)))
        go_roundw
        case rel => exact ⟨k + 1, cap, m + 1, _, by omega, by go_num, rfl, by have := HM.out; rw [uq_len, bt_len] at this; omega, by rw [HK.out]; exact HL4.out⟩
        case measure => simp [intOf]; omega
      | false =>
        rw [if_neg (by simp)] at HK
        go_wp2_with (first | (go_at_call 22; (with_reducible refine HR.out.mono ?_); rintro e w' ⟨rfl, rfl⟩; clear HR) | (go_at_call 10; (with_reducible refine HA.out.mono ?_); rintro e w3 ⟨rfl, HL3⟩; have hc2 := HC2.out w3 HL3.out; clear HA hc' hc HC2) | (at_builtin; go_loud (refine wpList_append_lies _ rfl (.tmp 77) (.tmp 79) 41 rfl 0 3 i3 _ 1 8 Try.underlying41 hi3 hy0 hy1 hy2 rfl (by omega) (.slice P m c) m (iV (uq (bt f g k))) rfl ((HL3.out.alloc _).own' (i := 0) rfl HM.out) ⟨w3.heap.size, 0, none⟩ 1 1 [.int .i64 (-1)] rfl rfl (World.news_of_block (cs := #[.int .i64 (-1)]) (heap_alloc_new w3 _)) (int_cell _) (by omega) (by unfold maxLen; omega) (by omega) (by omega) (w3.heap.size + 1) (by first | (simp; done) | (simp; rfl)) ?_; intro g2 cap w4 hown hgrow hat hlt1; have HL4 := Lib.hid (LS.app (HL3.out.alloc _) (i := 0) rfl HM.out hown hgrow (hat.imp id (fun e => by rw [e]; simp))); clear hown hgrow hat hlt1 HL3)))
        go_roundw
        case rel => exact ⟨k + 1, cap, m + 1, _, by omega, by go_num, rfl, by have := HM.out; rw [uq_len, bt_len] at this; omega, by rw [HK.out]; exact HL4.out⟩
        case measure => simp [intOf]; omega
    · obtain rfl : k = n := by omega
      have hm' := hm
      subst hm'
      clear hm HRN HRB hf hg
      have hk9 : (k : Int) + 1 ≤ 81 := by omega
      obtain ⟨S, hS⟩ : ∃ S, bt f g k = S := ⟨_, rfl⟩
      have HL : Hid (LS W t S [⟨P, c, uq S⟩] wr) := by rw [← hS]; exact hL.out
      have HSl : Hid (S.length = k + 1) := by rw [← hS]; exact bt_len k
      have HS0 : Hid (S[0]? = some (-1, false)) := by rw [← hS]; exact bt_zero k
      have HWF := Lib.hid HL.out.wf
      clear hS hL
      have HC := Lib.hid (show Calls Try.prog 20 #[.pointer (some ⟨t, 0, none⟩), .int .i64 0] wr _ from walk_ls HL.out 0 (by rw [HSl.out]; omega))
      have hwn : (walk S 0).length ≤ 81 := by
        have := walk_len HL.out.wf (i := 0) (by rw [HSl.out]; omega)
        rw [HSl.out] at this; omega
      clear HL
      go_wp2_with (first | (go_at_call 20; (with_reducible refine HC.out.mono ?_); rintro e w3 ⟨Pw, cw, nw, hnw, rfl, HL3⟩; clear HC) | (at_make; go_loud (refine wpList_make_full _ rfl _ _ 41 rfl w3.heap.size 3 i3 (.int .i64 0) 1 Try.underlying41 hi3 hy0 hy1 .i64 .i64 _ _ (k + 1) rfl rfl (by omega) (by omega) (by rw [hy2]; omega) (by unfold maxLen; omega) (Nat.le_refl _) ?_; intro w4 hown0 hgrow0; have HL4 := Lib.hid (HL3.out.made hown0 hgrow0); clear hown0 hgrow0 HL3)))
      revert HL4
      generalize w3.heap.size = ga
      intro HL4
      obtain ⟨wn, hwnE⟩ : ∃ wn, walk S 0 = wn := ⟨_, rfl⟩
      have HWN := Lib.hid hwnE
      have hnw2 : Hid (nw = wn.length) := by show _ = _; rw [hnw.out, hwnE, nz_len]
      have hnw9 : nw ≤ 81 := by rw [hnw2.out, ← hwnE]; exact hwn
      rw [hwnE] at HL4
      have HON : Hid wn.Nodup := by rw [← hwnE]; exact walk_once HWF.out (by rw [HSl.out]; omega)
      have HIN : Hid (∀ v, v ∈ wn → v < k + 1 ∧ upTo S v 0 = true) := by
        intro v hv
        rw [← hwnE] at hv
        have := (mem_walk HWF.out (i := 0) (by rw [HSl.out]; omega)).1 hv
        rwa [HSl.out] at this
      have HNI : Hid (∀ v, v < k + 1 → upTo S v 0 = true → v ∈ wn) := by
        intro v hv hu
        rw [← hwnE]
        exact (mem_walk HWF.out (i := 0) (by rw [HSl.out]; omega)).2 ⟨by rw [HSl.out]; exact hv, hu⟩
      clear hwnE hwn hnw
      go_loopw [15] (fun x w9 => ∃ (i : Nat) (AT : List Int), i ≤ nw ∧ x = .int .i64 i ∧ Hid (Pl wn i (k + 1) AT) ∧ Hid (LS W t S [⟨some ⟨ga, 0, none⟩, k + 1, AT⟩, ⟨Pw, cw, nz wn⟩, ⟨P, c, uq S⟩] w9)) (fun x _ => nw - (intOf x).toNat)
      case atStart => exact ⟨0, _, by omega, rfl, Pl.zero _ _, HL4⟩
      case round =>
        clear HL4
        obtain ⟨i, AT, hi, rfl, hPl, hL⟩ := hrel
        by_cases hlt2 : i < nw
        · have b1 : (i : Int) < (nw : Int) := by omega
          have b2 : (0 : Int) ≤ (i : Int) := by omega
          obtain ⟨v, hv⟩ : ∃ v, wn[i]? = some v := ⟨_, List.getElem?_eq_getElem (by have := hnw2.out; omega)⟩
          have hvk := (HIN.out v (List.mem_of_getElem? hv)).1
          obtain ⟨gw, hgw, hcw⟩ := hL.out.at (i := 1) (j := i) (x := (v : Int)) rfl (by simp [nz, hv])
          have hgw' : Pw = some ⟨gw, 0, none⟩ := hgw
          subst hgw'
          have hca := (hL.out.own (i := 0) rfl).at rfl (i := v) (x := 0) (hPl.out.before HON.out hv hvk)
          have hfa := (hL.out.own (i := 0) rfl).frozenAt v
          have HPl2 := Lib.hid (hPl.out.next HON.out hv hvk)
          have HL5 := Lib.hid (hL.out.put (i := 0) (j := v) (x := (i : Int) + 1) rfl rfl)
          have b3 : (v : Int) < (k : Int) + 1 := by omega
          have b4 : (0 : Int) ≤ (v : Int) := by omega
          have b5 : ¬ (v : Int) < 0 := by omega
          have b6 : ¬ (k : Int) + 1 ≤ (v : Int) := by omega
          have b7 : v < k + 1 := hvk
          clear hgw hv hvk hPl hL
          go_wp2_with fail
          go_roundw
          case rel => exact ⟨i + 1, _, by omega, by go_num, HPl2, HL5⟩
          case measure => simp [intOf]; omega
        · obtain rfl : i = nw := by omega
          have HPL : Hid (Pl wn wn.length (k + 1) AT) := by rw [← hnw2.out]; exact hPl
          have HL5 := hL
          clear hPl hL
          go_wp2_with fail
          go_loopw [16] (fun x w9 => ∃ i : Nat, i ≤ k + 1 ∧ x = .int .i64 i ∧ Hid (LS W t S [⟨some ⟨ga, 0, none⟩, k + 1, AT⟩, ⟨Pw, cw, nz wn⟩, ⟨P, c, uq S⟩] w9)) (fun x _ => k + 1 - (intOf x).toNat)
          case atStart => exact ⟨0, by omega, rfl, HL5⟩
          case round =>
            clear HL5
            obtain ⟨i, hi, rfl, hL⟩ := hrel
            by_cases hlt3 : i < k + 1
            · have b1 : (i : Int) < (k : Int) + 1 := by omega
              have b2 : (0 : Int) ≤ (i : Int) := by omega
              have HL6 := hL
              clear hL
              obtain ⟨gu, hgu, _⟩ := row_form (HL6.out.own (i := 2) rfl) (by show 0 < (uq S).length; rw [uq_len, HSl.out]; omega)
              have hgu' : P = some ⟨gu, 0, none⟩ := hgu
              subst hgu'
              clear hgu
              go_wp2_with fail
              go_loopw [17, 18] (fun s17 s18 w9 => ∃ (v : Bool) (z : Int), s17 = .bool v ∧ s18 = .int .i64 z ∧ Hid (wr = w9) ∧ Hid ((z = -1 ∧ v = upTo S i 0) ∨ ∃ j : Nat, z = (j : Int) ∧ j < k + 1 ∧ (v || upTo S j 0) = upTo S i 0)) (fun _ s18 _ => (intOf s18 + 1).toNat)
              case atStart => exact ⟨false, (i : Int), rfl, rfl, rfl, .inr ⟨i, rfl, hlt3, rfl⟩⟩
              case round =>
                obtain ⟨v, z, rfl, rfl, hwr, hz⟩ := hrel
                have hwr' := hwr.out
                subst hwr'
                clear hwr
                rcases hz.out with ⟨rfl, hv⟩ | ⟨j, rfl, hj, hv⟩
                · have HV := Lib.hid hv
                  clear hz hv
                  cases hB : upTo S i 0 with
                  | false =>
                    have hv := HV.out
                    rw [hB] at hv
                    subst hv
                    have HNOT : Hid (i ∉ wn) := fun h => by have := (HIN.out i h).2; rw [hB] at this; cases this
                    have hca := (HL6.out.own (i := 0) rfl).at rfl (i := i) (x := 0) (HPL.out.out hlt3 HNOT.out)
                    have b3 : i < k + 1 := hlt3
                    have HL7 : Hid (∀ q, LS W t S [⟨some ⟨ga, 0, none⟩, k + 1, AT⟩, ⟨Pw, cw, nz wn⟩, ⟨some ⟨gu, 0, none⟩, c, uq S⟩] (wr.drewN q)) := fun q => HL6.out.drewN q
                    clear HV hB HL6
                    go_wp2_with fail
                    go_quiet (fail)
                    have HL8 := Lib.hid (HL7.out nq)
                    clear HL7 hca
                    revert HL8
                    generalize wr.drewN nq = w8
                    intro HL8
                    go_wp2_with fail
                    go_loopw [19] (fun x w9 => x = .int .i64 0 ∧ Hid (LS W t S [⟨some ⟨ga, 0, none⟩, k + 1, AT⟩, ⟨Pw, cw, nz wn⟩, ⟨some ⟨gu, 0, none⟩, c, uq S⟩] w9)) (fun _ _ => 0)
                    case atStart => exact ⟨rfl, HL8⟩
                    case round =>
                      clear HL8
                      obtain ⟨rfl, hL⟩ := hrel
                      rcases Nat.eq_zero_or_pos i with rfl | h0
                      · go_wp2_with fail
                        go_roundw
                        case rel => exact ⟨1, by omega, by go_num, hL⟩
                        case measure => simp [intOf]
                      · have b4 : (0 : Int) < (i : Int) := by omega
                        go_wp2_with fail
                        go_roundw
                        case rel => exact ⟨i + 1, by omega, by go_num, hL⟩
                        case measure => simp [intOf]; omega
                  | true =>
                    have hv := HV.out
                    rw [hB] at hv
                    subst hv
                    have HU := Lib.hid hB
                    clear HV hB
                    have HPL2 : Hid (Pl (walk S 0) (walk S 0).length (k + 1) AT) := by rw [HWN.out]; exact HPL.out
                    have b3 : i < k + 1 := hlt3
                    have HL7 : Hid (∀ q, LS W t S [⟨some ⟨ga, 0, none⟩, k + 1, AT⟩, ⟨Pw, cw, nz wn⟩, ⟨some ⟨gu, 0, none⟩, c, uq S⟩] (wr.drewN q)) := fun q => HL6.out.drewN q
                    rcases Nat.eq_zero_or_pos i with e0 | h0
                    · obtain ⟨j, _, hj⟩ := HPL.out.in (HNI.out i hlt3 HU.out)
                      have hca := (HL6.out.own (i := 0) rfl).at rfl (i := i) hj
                      obtain ⟨y, hy⟩ : ∃ y : Int, (j : Int) + 1 = y := ⟨_, rfl⟩
                      rw [hy] at hca
                      have b4 : (0 : Int) < y := by omega
                      have b5 : ¬ (0 : Int) < (i : Int) := by omega
                      have b5' : ¬ 0 < i := by omega
                      clear hj hy HL6 e0
                      go_wp2_with fail
                      go_quiet (fail)
                      have HL8 := Lib.hid (HL7.out nq)
                      clear HL7 hca b4
                      revert HL8
                      generalize wr.drewN nq = w8
                      intro HL8
                      go_wp2_with fail
                      go_loopw [19] (fun x w9 => x = .int .i64 0 ∧ Hid (LS W t S [⟨some ⟨ga, 0, none⟩, k + 1, AT⟩, ⟨Pw, cw, nz wn⟩, ⟨some ⟨gu, 0, none⟩, c, uq S⟩] w9)) (fun _ _ => 0)
                      case atStart => exact ⟨rfl, HL8⟩
                      case round =>
                        clear HL8
                        obtain ⟨rfl, hL⟩ := hrel
                        go_wp2_with fail
                        go_roundw
                        case rel => exact ⟨i + 1, by omega, by go_num, hL⟩
                        case measure => simp [intOf]; omega
                    · obtain ⟨p, hp, hpi⟩ : ∃ p : Nat, S[i]? = some ((p : Int), true) ∧ p < i := by
                        rcases HWF.out.case i with h | hno
                        · exact h
                        · have hu := HU.out
                          rw [upTo_stop hno] at hu
                          have := beq_iff_eq.1 hu
                          omega
                      have hi9 : i < S.length := by rw [HSl.out]; exact hlt3
                      obtain ⟨x, y, hx, hy, hxy, hx0, hy0'⟩ := HPL2.out.up HWF.out (by omega) hi9 HU.out h0 hp hpi
                      have hca := (HL6.out.own (i := 0) rfl).at rfl (i := i) hy
                      have hcp := (HL6.out.own (i := 0) rfl).at rfl (i := p) hx
                      have hcu := (HL6.out.own (i := 2) rfl).at rfl (i := i) (x := (p : Int)) (uq_on hp)
                      have HP := Lib.hid hp
                      have b4 : (0 : Int) < (i : Int) := by omega
                      have b5 : ¬ y ≤ x := by omega
                      have b6 : (p : Int) < (k : Int) + 1 := by omega
                      have b7 : (0 : Int) ≤ (p : Int) := by omega
                      have b8 : p < k + 1 := by omega
                      have HI9 := Lib.hid hi9
                      have H0 := Lib.hid h0
                      clear hx hy hp HL6 hpi hi9
                      go_wp2_with fail
                      go_quiet (fail)
                      have HL8 := Lib.hid (HL7.out nq)
                      clear HL7 hca hcp hcu
                      revert HL8
                      generalize wr.drewN nq = w8
                      intro HL8
                      go_wp2_with fail
                      clear b5 hxy hx0 hy0'
                      go_loopw [19] (fun x w9 => ∃ j : Nat, j ≤ i ∧ x = .int .i64 j ∧ Hid (LS W t S [⟨some ⟨ga, 0, none⟩, k + 1, AT⟩, ⟨Pw, cw, nz wn⟩, ⟨some ⟨gu, 0, none⟩, c, uq S⟩] w9)) (fun x _ => i - (intOf x).toNat)
                      case atStart => exact ⟨0, by omega, rfl, HL8⟩
                      case round =>
                        clear HL8
                        obtain ⟨j, hj, rfl, hL⟩ := hrel
                        by_cases hlt4 : j < i
                        · have d1 : (j : Int) < (i : Int) := by omega
                          have d2 : (0 : Int) ≤ (j : Int) := by omega
                          have d3 : (j : Int) < (k : Int) + 1 := by omega
                          have d4 : j < k + 1 := by omega
                          obtain ⟨u, hu⟩ : ∃ u, (uq S)[j]? = some u := ⟨_, List.getElem?_eq_getElem (by rw [uq_len, HSl.out]; exact d4)⟩
                          have hcj := (hL.out.own (i := 2) rfl).at rfl (i := j) hu
                          have hcu := (hL.out.own (i := 2) rfl).at rfl (i := i) (x := (p : Int)) (uq_on HP.out)
                          by_cases e : u = (p : Int)
                          · subst e
                            obtain ⟨x, y, hx, hy, hxy, hx0, hy0'⟩ := HPL2.out.kin HWF.out (by have := HI9.out; omega) HI9.out HU.out hlt4 HP.out (uq_inv hu)
                            have hca := (hL.out.own (i := 0) rfl).at rfl (i := i) hy
                            have hck := (hL.out.own (i := 0) rfl).at rfl (i := j) hx
                            have d5 : ¬ y ≤ x := by omega
                            have HLq : Hid (∀ q, LS W t S [⟨some ⟨ga, 0, none⟩, k + 1, AT⟩, ⟨Pw, cw, nz wn⟩, ⟨some ⟨gu, 0, none⟩, c, uq S⟩] (wr.drewN q)) := fun q => hL.out.drewN q
                            clear hx hy hu hL hxy hx0 hy0'
                            go_wp2_with fail
                            go_quiet (fail)
                            go_wp2_with fail
                            go_roundw
                            case rel => exact ⟨j + 1, by omega, by go_num, HLq.out _⟩
                            case measure => simp [intOf]; omega
                          · have d5 : (u == (p : Int)) = false := beq_eq_false_iff_ne.2 e
                            have HLq : Hid (∀ q, LS W t S [⟨some ⟨ga, 0, none⟩, k + 1, AT⟩, ⟨Pw, cw, nz wn⟩, ⟨some ⟨gu, 0, none⟩, c, uq S⟩] (wr.drewN q)) := fun q => hL.out.drewN q
                            clear hu hL e
                            go_wp2_with fail
                            go_quiet (fail)
                            go_wp2_with fail
                            go_roundw
                            case rel => exact ⟨j + 1, by omega, by go_num, HLq.out _⟩
                            case measure => simp [intOf]; omega
                        · obtain rfl : j = i := by omega
                          have d1 : ¬ (j : Int) < (j : Int) := by omega
                          go_wp2_with fail
                          go_roundw
                          case rel => exact ⟨j + 1, by omega, by go_num, hL⟩
                          case measure => simp [intOf]; omega
                · have HV := Lib.hid hv
                  clear hz hv
                  have b3 : (j : Int) < (k : Int) + 1 := by omega
                  have b4 : (0 : Int) ≤ (j : Int) := by omega
                  have b5 : j < k + 1 := hj
                  rcases HWF.out.case j with ⟨p, hp, hpj⟩ | hno
                  · have hc := (HL6.out.own (i := 2) rfl).at rfl (i := j) (x := (p : Int)) (uq_on hp)
                    have HE : Hid (((v || ((j : Int) == 0)) || upTo S p 0) = upTo S i 0) := by
                      show _ = _
                      rw [← HV.out, upTo_step hp hpj, show ((j : Int) == 0) = (j == 0) from by
                        by_cases e : j = 0
                        · subst e; rfl
                        · rw [beq_eq_false_iff_ne.2 e, beq_eq_false_iff_ne.2 (by omega)], Bool.or_assoc]
                    have HPJ := Lib.hid hpj
                    clear HV hp hpj
                    cases v
                    all_goals
                      go_wp2_with fail
                      go_roundw
                      case rel => exact ⟨_, (p : Int), rfl, rfl, trivial, .inr ⟨p, rfl, by have := HPJ.out; omega, HE.out⟩⟩
                      case measure => have := HPJ.out; simp [intOf]; omega
                  · have hc := (HL6.out.own (i := 2) rfl).at rfl (i := j) (x := -1) (uq_off (by rw [HSl.out]; exact hj) hno)
                    have HE : Hid ((v || ((j : Int) == 0)) = upTo S i 0) := by
                      show _ = _
                      rw [← HV.out, upTo_stop hno, show ((j : Int) == 0) = (j == 0) from by
                        by_cases e : j = 0
                        · subst e; rfl
                        · rw [beq_eq_false_iff_ne.2 e, beq_eq_false_iff_ne.2 (by omega)]]
                    clear HV hno
                    cases v
                    all_goals
                      go_wp2_with fail
                      go_roundw
                      case rel => exact ⟨_, -1, rfl, rfl, trivial, .inl ⟨rfl, HE.out⟩⟩
                      case measure => simp [intOf]
            · obtain rfl : i = k + 1 := by omega
              have HB := Lib.hid hL.out.bel
              have b1 : ¬ ((k + 1 : Nat) : Int) < (k : Int) + 1 := by omega
              go_wp2_with (go_at_call 8; (with_reducible refine (HAW.out _).mono ?_); rintro e w' ⟨rfl, hb⟩; have HB2 := Lib.hid (HB.out.trans (hb.mono HB.out.size)); clear hb)
              go_ret
              exact ⟨rfl, HB2.out⟩
end Go.Proofs.Ytplckaodenpdbaa
