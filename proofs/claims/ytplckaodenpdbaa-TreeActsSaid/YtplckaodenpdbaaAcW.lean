/- TreeActs walked: whatever is added and taken off, each act tells, and all hang, as the document says. No condition. -/
import Derived.Test.YtplckaodenpdbaaOpn
import Derived.Deep.RegionHeld3
namespace Go.Proofs.Ytplckaodenpdbaa
open Go.RowKit
set_option linter.unusedVariables false
set_option maxRecDepth 100000

theorem len_q {W : World} {t m : Nat} {S : TS} {X : Option (Nat × Obj)} {w : World} (h : AS W t m S S X w) (n : Nat) : Calls Try.prog 14 #[.pointer (some ⟨t, 0, none⟩)] (w.drewN n) fun e w' => e = .returned (.int .i64 (S.length : Int)) ∧ w' = w.drewN n :=
  (len_a (h.drewN n)).mono fun _ _ h => ⟨h.1, h.2.symm⟩
set_option maxHeartbeats 16000000 in
theorem acts_any {A : Option Addr} {n c0 : Nat} {l : List Ac} (W : World) (hr : IsA W A n c0 l) : Calls Try.prog 3 #[.slice A n c0] W (BoolR true W) := by
  have HAW := Lib.hid fun w => awake_any w
  by_cases c1 : (60 : Int) < (n : Int)
  · clear hr
    go_enter Try.func3, Try.ntmps3
    go_wp2_with fail
    refine (HAW.out _).mono ?_
    rintro e w' ⟨rfl, hb⟩
    have HB := Lib.hid hb
    clear hb
    go_wp2_with fail
    go_ret
    exact ⟨rfl, HB.out⟩
  have HRN := Lib.hid hr.2.2
  have HN := Lib.hid (new_ls (Below.refl W.heap.size W))
  have hn1 : (n : Int) ≤ 60 := by omega
  clear hr
  go_enter Try.func3, Try.ntmps3
  go_wp2_with (go_at_call 9; (with_reducible refine HN.out.mono ?_); rintro e w1 ⟨t, rfl, h1⟩; have H1 := Lib.hid h1; clear h1 HN)
  have H2 : Hid (AS W t w1.heap.size [] [] none (w1.alloc (.cells #[.slice none 0 0] 29))) := new_as H1.out
  clear H1
  revert H2
  generalize w1.alloc (.cells #[.slice none 0 0] 29) = w2
  generalize w1.heap.size = m
  intro H2
  go_loopw [5] (fun x wr => ∃ (k : Nat) (S : TS), k ≤ n ∧ x = .int .i64 k ∧ Hid (AS W t m S S none wr)) (fun x _ => n - (intOf x).toNat)
  case atStart => exact ⟨0, [], by omega, rfl, H2⟩
  case round =>
    clear H2
    obtain ⟨k, S, hk, rfl, hL⟩ := hrel
    by_cases hlt : k < n
    · have b1 : (k : Int) < (n : Int) := by omega
      have b2 : (0 : Int) ≤ (k : Int) := by omega
      obtain ⟨b, off, a, rfl, hbl, hz, k0, k1, k2⟩ := HRN.out.cells hL.out.bel hlt
      obtain ⟨ak, an, ay⟩ := a
      dsimp only at k0 k1 k2
      have HL0 := Lib.hid (hL.out.box (.cells #[.int .i64 ak, .int .i64 an, .bool ay] 31))
      have HKC : Hid (∀ w9 S1 S2, AS W t m S1 S2 (some (wr.heap.size, .cells #[.int .i64 ak, .int .i64 an, .bool ay] 31)) w9 → w9.cell? ⟨wr.heap.size, 0, none⟩ = some (.int .i64 ak) ∧ w9.cell? ⟨wr.heap.size, 1, none⟩ = some (.int .i64 an) ∧ w9.cell? ⟨wr.heap.size, 2, none⟩ = some (.bool ay)) := fun w9 S1 S2 h => ⟨h.cell rfl, h.cell rfl, h.cell rfl⟩
      have hwf := hL.out.wf
      have hle := hL.out.le
      clear hz hL
      by_cases e1 : ak = 1
      · subst e1
        obtain ⟨S', x, y, h1, h2⟩ := add_both (W := W) (t := t) (m := m) hwf hle an ay
        have HA1 := Lib.hid (h1 _ _ HL0.out)
        have HA2 := Lib.hid h2
        clear h1 h2 hwf hle
        go_wp2_with (first | (go_at_call 10; (with_reducible refine HA1.out.mono ?_); rintro e w3 ⟨rfl, HL1⟩; obtain ⟨j0, j1, j2⟩ := HKC.out _ _ _ HL1.out; clear HA1 k0 k1 k2) | (go_at_call 11; (with_reducible refine (HA2.out _ _ HL1.out).mono ?_); rintro e w4 ⟨rfl, HL2⟩; obtain ⟨i0, i1, i2⟩ := HKC.out _ _ _ HL2.out; obtain ⟨Q, c, hmc⟩ := m_cell HL2.out; clear HA2 j0 j1 j2))
        have HQ := Lib.hid (len_q HL2.out)
        go_quiet (exact Calls.quiet_of_same (HQ.out _))
        go_wp2_with fail
        go_roundw
        case rel => exact ⟨k + 1, S', by omega, by go_num, (HL2.out.drewN _).none⟩
        case measure => simp [intOf]; omega
      · by_cases e2 : ak = 2
        · subst e2
          obtain ⟨S', x, h1, h2⟩ := det_both (W := W) (t := t) (m := m) hwf an
          have HL0d : Hid (AS W t m S S (some (wr.heap.size, .cells #[.int .i64 2, .int .i64 an, .bool ay] 31)) (wr.alloc (.cells #[.int .i64 2, .int .i64 an, .bool ay] 31)).drew) := HL0.out.later (Below.refl _ _).drew
          have HA1 := Lib.hid h1
          have HA2 := Lib.hid h2
          clear h1 h2 hwf hle e1
          go_wp2_with fail
          clear k0 k1 k2
          go_region_held3 (fun w' => w'.cell? ⟨wr.heap.size, 1, none⟩ = some (.int .i64 an))
            (first
              | exact (HKC.out _ _ _ HL0d.out).2.1
              | exact (HKC.out _ _ _ HL1.out).2.1
              | exact (HKC.out _ _ _ HL2.out).2.1)
            (first
              | (go_at_call 12; (with_reducible refine (HA1.out _ _ HL0d.out).mono ?_); rintro e w3 ⟨rfl, HL1⟩)
              | (go_at_call 13; (with_reducible refine (HA2.out _ _ HL1.out).mono ?_); rintro e w4 ⟨rfl, HL2⟩))
          obtain ⟨Q, c, hmc⟩ := m_cell HL2.out
          have HQ := Lib.hid (len_q HL2.out)
          clear HA1 HA2 HL0d HL1
          go_wp2_with fail
          go_quiet (exact Calls.quiet_of_same (HQ.out _))
          go_wp2_with fail
          go_roundw
          case rel => exact ⟨k + 1, S', by omega, by go_num, (HL2.out.drewN _).none⟩
          case measure => simp [intOf]; omega
        · have d1 : (ak == 1) = false := beq_eq_false_iff_ne.2 e1
          have d2 : (ak == 2) = false := beq_eq_false_iff_ne.2 e2
          obtain ⟨Q, c, hmc⟩ := m_cell HL0.out
          have HQ := Lib.hid (len_q HL0.out)
          clear hwf hle e1 e2
          go_wp2_with fail
          go_quiet (exact Calls.quiet_of_same (HQ.out _))
          go_wp2_with fail
          go_roundw
          case rel => exact ⟨k + 1, S, by omega, by go_num, (HL0.out.drewN _).none⟩
          case measure => simp [intOf]; omega
    · obtain rfl : k = n := by omega
      obtain ⟨N, hN⟩ : ∃ N, S.length = N := ⟨_, rfl⟩
      have HNL := Lib.hid hN
      have hN9 : (N : Int) ≤ 1000 := by have := hL.out.le; omega
      have HMC : Hid (∀ w9, AS W t m S S none w9 → ∃ Q c, w9.cell? ⟨m, 0, none⟩ = some (.slice Q N c)) := fun w9 h => by rw [← hN]; exact m_cell h
      have HMA : Hid (∀ w9 (i : Nat) p l, AS W t m S S none w9 → S[i]? = some (p, l) → ∃ q c, w9.cell? ⟨m, 0, none⟩ = some (.slice (some ⟨q, 0, none⟩) N c) ∧ w9.cell? ⟨q, i * 2, none⟩ = some (.int .i64 p) ∧ w9.cell? ⟨q, i * 2 + 1, none⟩ = some (.bool l)) := fun w9 i p l h hs => by rw [← hN]; exact m_at h hs
      have HWZ : Hid (∀ z, (wz S z).length ≤ 1000) := fun z => Nat.le_trans (wz_len hL.out.wf z) hL.out.le
      have HKZ : Hid (∀ z, (kz S z).length ≤ 1000) := fun z => Nat.le_trans (kz_len z) hL.out.le
      have HL2 := hL
      clear hL HRN hN
      go_wp2_with fail
      go_loopw [11] (fun x w9 => ∃ z : Int, -1 ≤ z ∧ z ≤ (N : Int) + 1 ∧ x = .int .i64 z ∧ Hid (AS W t m S S none w9)) (fun x _ => ((N : Int) + 1 - intOf x).toNat)
      case atStart => exact ⟨-1, by omega, by omega, rfl, HL2⟩
      case round =>
        clear HL2
        obtain ⟨z, hz1, hz2, rfl, hL⟩ := hrel
        obtain ⟨Q0, c2, hm0⟩ := HMC.out _ hL.out
        by_cases hlt2 : z ≤ (N : Int)
        · by_cases hin : 0 ≤ z ∧ z < (N : Int)
          · obtain ⟨hin1, hin2⟩ := hin
            obtain ⟨⟨p, q⟩, hs⟩ : ∃ y, S[z.toNat]? = some y := ⟨_, List.getElem?_eq_getElem (by rw [HNL.out]; omega)⟩
            obtain ⟨i, hi⟩ : ∃ i : Nat, z = (i : Int) := Int.eq_ofNat_of_zero_le hin1
            subst hi
            rw [Int.toNat_natCast] at hs
            have HSS := Lib.hid hs
            have HP := Lib.hid (par_at hL.out i hs)
            have hin3 : i < N := by omega
            clear hs
            go_wp2_with fail
            with_reducible refine HP.out.mono ?_
            rintro e w3 ⟨rfl, HL3⟩
            obtain ⟨q1, c3, hm1, _, _⟩ := HMA.out w3 i p q HL3.out HSS.out
            clear HP hL hm0
            go_wp2_with fail
            refine (mwalk_z HL3.out (i : Int)).mono ?_
            rintro e w4 ⟨Pw, cw, nw, hnw, rfl, hRw, hBw⟩
            have HL4 := Lib.hid (HL3.out.later hBw.out)
            obtain ⟨q2, c4, hm2, hm3, hm4⟩ := HMA.out w4 i p q HL4.out HSS.out
            have HRW : Hid (Rn w4 Pw nw (wz S (i : Int))) := by
              show Rn _ _ _ _
              have := Rn.of_rw hRw.out
              rwa [← hnw.out] at this
            clear hm1 HL3 hRw hBw
            go_wp2_with fail
            refine (kids_z HL4.out (i : Int)).mono ?_
            rintro e w5 ⟨Pk, ck, nk, hnk, rfl, hRk, hBk⟩
            have HL5 := Lib.hid (HL4.out.later hBk.out)
            have HRW5 := Lib.hid (HRW.out.later hBk.out)
            clear HL4 HRW
            go_wp2_with fail
            refine (mkids_z HL5.out (i : Int)).mono ?_
            rintro e w6 ⟨Pm, cm, nm, hnm, rfl, hRm, hBm⟩
            have HL6 := Lib.hid (HL5.out.later hBm.out)
            have HRW6 := Lib.hid (HRW5.out.later hBm.out)
            have em : nm = nk := by rw [hnm.out, hnk.out]
            rw [em]
            have HRk6 : Hid (Rn w6 Pk nk (kz S (i : Int))) := by
              show Rn _ _ _ _
              have := Rn.of_rw (row_later hRk.out hBm.out)
              rwa [← hnk.out] at this
            have HRm6 : Hid (Rn w6 Pm nk (kz S (i : Int))) := by
              show Rn _ _ _ _
              have := Rn.of_rw hRm.out
              rwa [← hnk.out] at this
            have HI := Lib.hid (ints_eq (c1 := ck) (c2 := cm) HRk6.out HRm6.out (by have := HKZ.out (i : Int); have := hnk.out; omega))
            clear HL5 HRW5 hRk hBk hRm hBm hnm em HRk6 HRm6
            go_wp2_with fail
            refine HI.out.mono ?_
            rintro e w7 ⟨rfl, qa, rfl⟩
            have HL7 := Lib.hid (HL6.out.drewN qa)
            have HRW7 := Lib.hid (HRW6.out.later (below_drewN w6 qa))
            clear HI HL6 HRW6 hnk
            revert HL7 HRW7
            generalize w6.drewN qa = w7
            intro HL7 HRW7
            go_wp2_with fail
            refine (walk_z HL7.out (i : Int)).mono ?_
            rintro e w8 ⟨Px, cx, nx, hnx, rfl, hRx, hBx⟩
            have HL8 := Lib.hid (HL7.out.later hBx.out)
            have HRW8 := Lib.hid (HRW7.out.later hBx.out)
            have ex : nx = nw := by rw [hnx.out, hnw.out]
            rw [ex]
            have HRx8 : Hid (Rn w8 Px nw (wz S (i : Int))) := by
              show Rn _ _ _ _
              have := Rn.of_rw hRx.out
              rwa [← hnw.out] at this
            have HI := Lib.hid (ints_eq (c1 := cx) (c2 := cw) HRx8.out HRW8.out (by have := HWZ.out (i : Int); have := hnw.out; omega))
            clear HL7 HRW7 hRx hBx hnx ex HRx8
            go_wp2_with fail
            refine HI.out.mono ?_
            rintro e w9 ⟨rfl, qb, rfl⟩
            have HL9 := Lib.hid (HL8.out.drewN qb)
            have HRW9 := Lib.hid (HRW8.out.later (below_drewN w8 qb))
            clear HI HL8 HRW8
            revert HL9 HRW9
            generalize w8.drewN qb = w9
            intro HL9 HRW9
            have hnw9 : nw ≤ 1000 := by have := HWZ.out (i : Int); have := hnw.out; omega
            go_wp2_with fail
            go_loopw [17] (fun x v9 => ∃ y : Int, -1 ≤ y ∧ y ≤ (N : Int) + 1 ∧ x = .int .i64 y ∧ Hid (AS W t m S S none v9) ∧ Hid (Rn v9 Pw nw (wz S (i : Int)))) (fun x _ => ((N : Int) + 1 - intOf x).toNat)
            case atStart => exact ⟨-1, by omega, by omega, rfl, HL9, HRW9⟩
            case round =>
              clear HL9 HRW9
              obtain ⟨y, hy1, hy2, rfl, hL, hR⟩ := hrel
              obtain ⟨Q0, c2, hm0⟩ := HMC.out _ hL.out
              by_cases hlt3 : y ≤ (N : Int)
              · go_wp2_with fail
                go_loopw [18, 19] (fun s18 s19 v9 => ∃ (j : Nat) (v : Bool), j ≤ nw ∧ s19 = .int .i64 j ∧ s18 = .bool v ∧ Hid (v = ((wz S (i : Int)).take j).contains y) ∧ Hid (wr = v9)) (fun _ s19 _ => nw - (intOf s19).toNat)
                case atStart => exact ⟨0, false, by omega, rfl, rfl, rfl, rfl⟩
                case round =>
                  obtain ⟨j, v, hj, rfl, rfl, hv, hwr⟩ := hrel
                  have hwr' := hwr.out
                  subst hwr'
                  clear hwr
                  by_cases hlt4 : j < nw
                  · have b3 : (j : Int) < (nw : Int) := by omega
                    have b4 : (0 : Int) ≤ (j : Int) := by omega
                    obtain ⟨bw, ow, hPw, hbw, hcw⟩ := hR.out.2 (by omega)
                    have hPw' := hPw
                    subst hPw'
                    obtain ⟨x, hx⟩ : ∃ x, (wz S (i : Int))[j]? = some x := ⟨_, List.getElem?_eq_getElem (by have := hR.out.1; omega)⟩
                    have hcx := hcw j x hx
                    have HV : Hid ((v || (x == y)) = ((wz S (i : Int)).take (j + 1)).contains y) := by rw [hv.out]; exact (has_next hx).symm
                    clear hv hx hcw hPw
                    cases v
                    all_goals
                      go_wp2_with fail
                      go_roundw
                      case rel => exact ⟨j + 1, _, by omega, by go_num, rfl, HV, trivial⟩
                      case measure => simp [intOf]; omega
                  · obtain rfl : j = nw := by omega
                    have hv2 := hv.out
                    rw [show (wz S (i : Int)).take j = wz S (i : Int) from by rw [← hR.out.1, List.take_length]] at hv2
                    have HU := Lib.hid (under_z hL.out y (i : Int) (by rw [HNL.out]; exact hlt2))
                    rw [← hv2] at HU
                    clear hv hv2
                    cases v
                    all_goals
                      go_wp2_with (go_at_call 21; (with_reducible refine HU.out.mono ?_); rintro e w' ⟨rfl, rfl⟩)
                      go_roundw
                      case rel => exact ⟨y + 1, by omega, by omega, by go_num, hL, hR⟩
                      case measure => simp [intOf]; omega
              · go_wp2_with fail
                go_roundw
                case rel => exact ⟨(i : Int) + 1, by omega, by omega, by go_num, hL⟩
                case measure => simp [intOf]; omega
          · obtain ⟨hin1, hin2⟩ : (z < 0 ∨ (N : Int) ≤ z) ∧ ((0 : Int) ≤ z → ¬ z < (N : Int)) := ⟨by omega, fun h1 h2 => hin ⟨h1, h2⟩⟩
            have HP := Lib.hid (par_not hL.out z (by rw [HNL.out]; exact hin1))
            clear hin
            go_wp2_with fail
            with_reducible refine HP.out.mono ?_
            rintro e w3 ⟨rfl, HL3⟩
            obtain ⟨q1, c3, hm1⟩ := HMC.out w3 HL3.out
            clear HP hL hm0
            rcases hin1 with hin3 | hin3
            · have hin4 : ¬ (0 : Int) ≤ z := by omega
              go_wp2_with fail
              refine (mwalk_z HL3.out z).mono ?_
              rintro e w4 ⟨Pw, cw, nw, hnw, rfl, hRw, hBw⟩
              have HL4 := Lib.hid (HL3.out.later hBw.out)
              have HRW : Hid (Rn w4 Pw nw (wz S z)) := by
                show Rn _ _ _ _
                have := Rn.of_rw hRw.out
                rwa [← hnw.out] at this
              clear hm1 HL3 hRw hBw
              go_wp2_with fail
              refine (kids_z HL4.out z).mono ?_
              rintro e w5 ⟨Pk, ck, nk, hnk, rfl, hRk, hBk⟩
              have HL5 := Lib.hid (HL4.out.later hBk.out)
              have HRW5 := Lib.hid (HRW.out.later hBk.out)
              clear HL4 HRW
              go_wp2_with fail
              refine (mkids_z HL5.out z).mono ?_
              rintro e w6 ⟨Pm, cm, nm, hnm, rfl, hRm, hBm⟩
              have HL6 := Lib.hid (HL5.out.later hBm.out)
              have HRW6 := Lib.hid (HRW5.out.later hBm.out)
              have em : nm = nk := by rw [hnm.out, hnk.out]
              rw [em]
              have HRk6 : Hid (Rn w6 Pk nk (kz S z)) := by
                show Rn _ _ _ _
                have := Rn.of_rw (row_later hRk.out hBm.out)
                rwa [← hnk.out] at this
              have HRm6 : Hid (Rn w6 Pm nk (kz S z)) := by
                show Rn _ _ _ _
                have := Rn.of_rw hRm.out
                rwa [← hnk.out] at this
              have HI := Lib.hid (ints_eq (c1 := ck) (c2 := cm) HRk6.out HRm6.out (by have := HKZ.out z; have := hnk.out; omega))
              clear HL5 HRW5 hRk hBk hRm hBm hnm em HRk6 HRm6
              go_wp2_with fail
              refine HI.out.mono ?_
              rintro e w7 ⟨rfl, qa, rfl⟩
              have HL7 := Lib.hid (HL6.out.drewN qa)
              have HRW7 := Lib.hid (HRW6.out.later (below_drewN w6 qa))
              clear HI HL6 HRW6 hnk
              revert HL7 HRW7
              generalize w6.drewN qa = w7
              intro HL7 HRW7
              go_wp2_with fail
              refine (walk_z HL7.out z).mono ?_
              rintro e w8 ⟨Px, cx, nx, hnx, rfl, hRx, hBx⟩
              have HL8 := Lib.hid (HL7.out.later hBx.out)
              have HRW8 := Lib.hid (HRW7.out.later hBx.out)
              have ex : nx = nw := by rw [hnx.out, hnw.out]
              rw [ex]
              have HRx8 : Hid (Rn w8 Px nw (wz S z)) := by
                show Rn _ _ _ _
                have := Rn.of_rw hRx.out
                rwa [← hnw.out] at this
              have HI := Lib.hid (ints_eq (c1 := cx) (c2 := cw) HRx8.out HRW8.out (by have := HWZ.out z; have := hnw.out; omega))
              clear HL7 HRW7 hRx hBx hnx ex HRx8
              go_wp2_with fail
              refine HI.out.mono ?_
              rintro e w9 ⟨rfl, qb, rfl⟩
              have HL9 := Lib.hid (HL8.out.drewN qb)
              have HRW9 := Lib.hid (HRW8.out.later (below_drewN w8 qb))
              clear HI HL8 HRW8
              revert HL9 HRW9
              generalize w8.drewN qb = w9
              intro HL9 HRW9
              have hnw9 : nw ≤ 1000 := by have := HWZ.out z; have := hnw.out; omega
              go_wp2_with fail
              go_loopw [17] (fun x v9 => ∃ y : Int, -1 ≤ y ∧ y ≤ (N : Int) + 1 ∧ x = .int .i64 y ∧ Hid (AS W t m S S none v9) ∧ Hid (Rn v9 Pw nw (wz S z))) (fun x _ => ((N : Int) + 1 - intOf x).toNat)
              case atStart => exact ⟨-1, by omega, by omega, rfl, HL9, HRW9⟩
              case round =>
                clear HL9 HRW9
                obtain ⟨y, hy1, hy2, rfl, hL, hR⟩ := hrel
                obtain ⟨Q0, c2, hm0⟩ := HMC.out _ hL.out
                by_cases hlt3 : y ≤ (N : Int)
                · go_wp2_with fail
                  go_loopw [18, 19] (fun s18 s19 v9 => ∃ (j : Nat) (v : Bool), j ≤ nw ∧ s19 = .int .i64 j ∧ s18 = .bool v ∧ Hid (v = ((wz S z).take j).contains y) ∧ Hid (wr = v9)) (fun _ s19 _ => nw - (intOf s19).toNat)
                  case atStart => exact ⟨0, false, by omega, rfl, rfl, rfl, rfl⟩
                  case round =>
                    obtain ⟨j, v, hj, rfl, rfl, hv, hwr⟩ := hrel
                    have hwr' := hwr.out
                    subst hwr'
                    clear hwr
                    by_cases hlt4 : j < nw
                    · have b3 : (j : Int) < (nw : Int) := by omega
                      have b4 : (0 : Int) ≤ (j : Int) := by omega
                      obtain ⟨bw, ow, hPw, hbw, hcw⟩ := hR.out.2 (by omega)
                      have hPw' := hPw
                      subst hPw'
                      obtain ⟨x, hx⟩ : ∃ x, (wz S z)[j]? = some x := ⟨_, List.getElem?_eq_getElem (by have := hR.out.1; omega)⟩
                      have hcx := hcw j x hx
                      have HV : Hid ((v || (x == y)) = ((wz S z).take (j + 1)).contains y) := by rw [hv.out]; exact (has_next hx).symm
                      clear hv hx hcw hPw
                      cases v
                      all_goals
                        go_wp2_with fail
                        go_roundw
                        case rel => exact ⟨j + 1, _, by omega, by go_num, rfl, HV, trivial⟩
                        case measure => simp [intOf]; omega
                    · obtain rfl : j = nw := by omega
                      have hv2 := hv.out
                      rw [show (wz S z).take j = wz S z from by rw [← hR.out.1, List.take_length]] at hv2
                      have HU := Lib.hid (under_z hL.out y z (by rw [HNL.out]; exact hlt2))
                      rw [← hv2] at HU
                      clear hv hv2
                      cases v
                      all_goals
                        go_wp2_with (go_at_call 21; (with_reducible refine HU.out.mono ?_); rintro e w' ⟨rfl, rfl⟩)
                        go_roundw
                        case rel => exact ⟨y + 1, by omega, by omega, by go_num, hL, hR⟩
                        case measure => simp [intOf]; omega
                · go_wp2_with fail
                  go_roundw
                  case rel => exact ⟨z + 1, by omega, by omega, by go_num, hL⟩
                  case measure => simp [intOf]; omega
            · have hin4 : (0 : Int) ≤ z := by omega
              have hin5 : ¬ z < (N : Int) := by omega
              go_wp2_with fail
              refine (mwalk_z HL3.out z).mono ?_
              rintro e w4 ⟨Pw, cw, nw, hnw, rfl, hRw, hBw⟩
              have HL4 := Lib.hid (HL3.out.later hBw.out)
              have HRW : Hid (Rn w4 Pw nw (wz S z)) := by
                show Rn _ _ _ _
                have := Rn.of_rw hRw.out
                rwa [← hnw.out] at this
              clear hm1 HL3 hRw hBw
              go_wp2_with fail
              refine (kids_z HL4.out z).mono ?_
              rintro e w5 ⟨Pk, ck, nk, hnk, rfl, hRk, hBk⟩
              have HL5 := Lib.hid (HL4.out.later hBk.out)
              have HRW5 := Lib.hid (HRW.out.later hBk.out)
              clear HL4 HRW
              go_wp2_with fail
              refine (mkids_z HL5.out z).mono ?_
              rintro e w6 ⟨Pm, cm, nm, hnm, rfl, hRm, hBm⟩
              have HL6 := Lib.hid (HL5.out.later hBm.out)
              have HRW6 := Lib.hid (HRW5.out.later hBm.out)
              have em : nm = nk := by rw [hnm.out, hnk.out]
              rw [em]
              have HRk6 : Hid (Rn w6 Pk nk (kz S z)) := by
                show Rn _ _ _ _
                have := Rn.of_rw (row_later hRk.out hBm.out)
                rwa [← hnk.out] at this
              have HRm6 : Hid (Rn w6 Pm nk (kz S z)) := by
                show Rn _ _ _ _
                have := Rn.of_rw hRm.out
                rwa [← hnk.out] at this
              have HI := Lib.hid (ints_eq (c1 := ck) (c2 := cm) HRk6.out HRm6.out (by have := HKZ.out z; have := hnk.out; omega))
              clear HL5 HRW5 hRk hBk hRm hBm hnm em HRk6 HRm6
              go_wp2_with fail
              refine HI.out.mono ?_
              rintro e w7 ⟨rfl, qa, rfl⟩
              have HL7 := Lib.hid (HL6.out.drewN qa)
              have HRW7 := Lib.hid (HRW6.out.later (below_drewN w6 qa))
              clear HI HL6 HRW6 hnk
              revert HL7 HRW7
              generalize w6.drewN qa = w7
              intro HL7 HRW7
              go_wp2_with fail
              refine (walk_z HL7.out z).mono ?_
              rintro e w8 ⟨Px, cx, nx, hnx, rfl, hRx, hBx⟩
              have HL8 := Lib.hid (HL7.out.later hBx.out)
              have HRW8 := Lib.hid (HRW7.out.later hBx.out)
              have ex : nx = nw := by rw [hnx.out, hnw.out]
              rw [ex]
              have HRx8 : Hid (Rn w8 Px nw (wz S z)) := by
                show Rn _ _ _ _
                have := Rn.of_rw hRx.out
                rwa [← hnw.out] at this
              have HI := Lib.hid (ints_eq (c1 := cx) (c2 := cw) HRx8.out HRW8.out (by have := HWZ.out z; have := hnw.out; omega))
              clear HL7 HRW7 hRx hBx hnx ex HRx8
              go_wp2_with fail
              refine HI.out.mono ?_
              rintro e w9 ⟨rfl, qb, rfl⟩
              have HL9 := Lib.hid (HL8.out.drewN qb)
              have HRW9 := Lib.hid (HRW8.out.later (below_drewN w8 qb))
              clear HI HL8 HRW8
              revert HL9 HRW9
              generalize w8.drewN qb = w9
              intro HL9 HRW9
              have hnw9 : nw ≤ 1000 := by have := HWZ.out z; have := hnw.out; omega
              go_wp2_with fail
              go_loopw [17] (fun x v9 => ∃ y : Int, -1 ≤ y ∧ y ≤ (N : Int) + 1 ∧ x = .int .i64 y ∧ Hid (AS W t m S S none v9) ∧ Hid (Rn v9 Pw nw (wz S z))) (fun x _ => ((N : Int) + 1 - intOf x).toNat)
              case atStart => exact ⟨-1, by omega, by omega, rfl, HL9, HRW9⟩
              case round =>
                clear HL9 HRW9
                obtain ⟨y, hy1, hy2, rfl, hL, hR⟩ := hrel
                obtain ⟨Q0, c2, hm0⟩ := HMC.out _ hL.out
                by_cases hlt3 : y ≤ (N : Int)
                · go_wp2_with fail
                  go_loopw [18, 19] (fun s18 s19 v9 => ∃ (j : Nat) (v : Bool), j ≤ nw ∧ s19 = .int .i64 j ∧ s18 = .bool v ∧ Hid (v = ((wz S z).take j).contains y) ∧ Hid (wr = v9)) (fun _ s19 _ => nw - (intOf s19).toNat)
                  case atStart => exact ⟨0, false, by omega, rfl, rfl, rfl, rfl⟩
                  case round =>
                    obtain ⟨j, v, hj, rfl, rfl, hv, hwr⟩ := hrel
                    have hwr' := hwr.out
                    subst hwr'
                    clear hwr
                    by_cases hlt4 : j < nw
                    · have b3 : (j : Int) < (nw : Int) := by omega
                      have b4 : (0 : Int) ≤ (j : Int) := by omega
                      obtain ⟨bw, ow, hPw, hbw, hcw⟩ := hR.out.2 (by omega)
                      have hPw' := hPw
                      subst hPw'
                      obtain ⟨x, hx⟩ : ∃ x, (wz S z)[j]? = some x := ⟨_, List.getElem?_eq_getElem (by have := hR.out.1; omega)⟩
                      have hcx := hcw j x hx
                      have HV : Hid ((v || (x == y)) = ((wz S z).take (j + 1)).contains y) := by rw [hv.out]; exact (has_next hx).symm
                      clear hv hx hcw hPw
                      cases v
                      all_goals
                        go_wp2_with fail
                        go_roundw
                        case rel => exact ⟨j + 1, _, by omega, by go_num, rfl, HV, trivial⟩
                        case measure => simp [intOf]; omega
                    · obtain rfl : j = nw := by omega
                      have hv2 := hv.out
                      rw [show (wz S z).take j = wz S z from by rw [← hR.out.1, List.take_length]] at hv2
                      have HU := Lib.hid (under_z hL.out y z (by rw [HNL.out]; exact hlt2))
                      rw [← hv2] at HU
                      clear hv hv2
                      cases v
                      all_goals
                        go_wp2_with (go_at_call 21; (with_reducible refine HU.out.mono ?_); rintro e w' ⟨rfl, rfl⟩)
                        go_roundw
                        case rel => exact ⟨y + 1, by omega, by omega, by go_num, hL, hR⟩
                        case measure => simp [intOf]; omega
                · go_wp2_with fail
                  go_roundw
                  case rel => exact ⟨z + 1, by omega, by omega, by go_num, hL⟩
                  case measure => simp [intOf]; omega
        · have HB := Lib.hid hL.out.bel
          go_wp2_with (go_at_call 8; (with_reducible refine (HAW.out _).mono ?_); rintro e w' ⟨rfl, hb⟩; have HB2 := Lib.hid (HB.out.trans (hb.mono HB.out.size)); clear hb)
          go_ret
          exact ⟨rfl, HB2.out⟩
end Go.Proofs.Ytplckaodenpdbaa
