/- The law ProgTells, walked. Conditions: the table lies in its variable; the programs lie where the slices say. -/
import Derived.Test.YtifmamobhkgmfaaDoorTls
import Derived.Test.YtifmamobhkgmfaaDoorAl2
import Derived.Deep.RegionHeld3
import Derived.Deep.CutRange
import Derived.Deep.DeepCutAuto
namespace Go.Proofs.YtifmamobhkgmfaaDoor
open Go.RowKit
set_option linter.unusedVariables false

set_option maxRecDepth 100000 in
set_option maxHeartbeats 4000000 in
theorem tells_any (A : Option Addr) (n cap : Nat) (op0 : Int) (l : List Pr) (W : World) (hF : Hid (FT W)) (hR : Hid (RdP W A n l)) : Calls Tryd.prog 3 #[.slice A n cap, .int .i64 op0] W (BoolR true W) := by
  go_enter Tryd.func3, Tryd.ntmps3
  go_wp2_with fail
  refine (aProgs_long A n cap l W hR).mono ?_
  rintro e w1 ⟨⟨b, rfl, hb⟩, rfl⟩
  have HSm0 := Lib.hid hb
  clear hb
  cases b with
  | false =>
    go_wp2_with fail
    refine (awake_any W hF).mono ?_
    rintro e w2 ⟨rfl, hb⟩
    have HB := Lib.hid hb
    clear hb
    go_wp2_with fail
    go_ret
    exact ⟨rfl, HB.out⟩
  | true =>
    have h17 : n ≤ 17 := (HSm0.out rfl).1
    have HSm : Hid (Small l) := (HSm0.out rfl).2
    clear HSm0
    have HK1 := Lib.hid (All_any A n cap l W hF hR)
    have gz : (eN (allB l) == 0) = allB l := by cases allB l <;> rfl
    go_wp2_with fail
    refine HK1.out.mono ?_
    rintro e w1 ⟨rfl, hb⟩
    have HS1 : Hid (TlS W w1 A n l) := ⟨hb, hF.out.later hb, hR.out.later hb⟩
    clear hb HK1
    generalize hz : eN (allB l) = z at *
    have HK2 := Lib.hid (progs_ref A n cap l w1 HS1.out.rd HSm (by omega))
    clear hz
    generalize allB l = ab at *
    go_wp2_with fail
    refine HK2.out.mono ?_
    rintro e w2 ⟨rfl, hb⟩
    have HS2 := Lib.hid (HS1.out.later hb)
    clear hb HK2 HS1
    have HK3 := Lib.hid (Name_any op0 w2 HS2.out.ft)
    have HK4 : Hid (∀ w', Calls Tryd.prog 13 #[.int .i64 op0] w' (StrR (nmB op0) w')) := fun w' => name_ref op0 w'
    generalize nmB op0 = s at *
    go_wp2_with fail
    refine HK3.out.mono ?_
    rintro e w3 ⟨rfl, hb⟩
    have HS3 := Lib.hid (HS2.out.later hb)
    clear hb HK3 HS2
    go_wp2_with fail
    refine (HK4.out w3).mono ?_
    rintro e w4 ⟨rfl, hb⟩
    have HS4 := Lib.hid (HS3.out.later hb)
    clear hb HK4 HS3
    go_wp2_with fail
    go_loopw [5] (fun i wr => ∃ k : Nat, k ≤ n ∧ i = .int .i64 k ∧ Hid (TlS W wr A n l)) (fun i _ => n - (intOf i).toNat)
    case atStart => exact ⟨0, by omega, rfl, HS4.out⟩
    case round =>
      obtain ⟨k, hk, rfl, hS⟩ := hrel
      clear HS4
      by_cases hlt : k < n
      · obtain ⟨bb, off, rfl, hbW, hcW⟩ := hR.out.cells (by omega)
        have hky : k < l.length := by rw [hR.out.1]; exact hlt
        have HCW := Lib.hid (hcW k (l[k]'hky) (List.getElem?_eq_getElem hky))
        have HM : Hid (l[k]'hky ∈ l) := List.getElem_mem hky
        have HAW := Lib.hid (hR.out.2.2 _ HM.out)
        have HSmx := Lib.hid (HSm.out _ HM.out)
        generalize l[k]'hky = x at *
        obtain ⟨xA, xn, xc, xl⟩ := x
        have h60 : xn ≤ 60 := HSmx.out.1
        have hbwr : bb < wr.heap.size := Nat.lt_of_lt_of_le hbW hS.out.bel.size
        have c0 : wr.cell? ⟨bb, off + k, none⟩ = some (.slice xA xn xc) := (cell_blk (hS.out.bel.block bb hbW) _).trans HCW.out
        have HRx := Lib.hid (HAW.out.2.2.later hS.out.bel)
        have HK5 := Lib.hid (Check_any xA xn xc xl wr hS.out.ft HRx.out)
        clear hcW hky HM
        cases hcb : checkB xl 16 with
        | true => 
          rw [hcb] at HK5
          have HCB := Lib.hid hcb
          clear hcb
          go_wp2_with fail
          refine HK5.out.mono ?_
          rintro e w5 ⟨he, hb⟩
          obtain rfl := he
          have HS5 := Lib.hid (hS.out.later hb)
          clear hb HK5 c0 hbwr
          have hb5' : bb < w5.heap.size := Nat.lt_of_lt_of_le hbW HS5.out.bel.size
          have c0 : w5.cell? ⟨bb, off + k, none⟩ = some (.slice xA xn xc) := (cell_blk (HS5.out.bel.block bb hbW) _).trans HCW.out
          simp only [eN, if_true]
          go_wp2_with fail
          refine (prog_yes (HAW.out.2.2.later HS5.out.bel) HSmx.out.2 HCB.out).mono ?_
          rintro e w6 ⟨rfl, hb⟩
          have HS6 := Lib.hid (HS5.out.later hb)
          clear hb HS5 c0 hb5'
          go_wp2_with fail
          go_loopw [7] (fun i wv => ∃ q : Nat, q ≤ xn ∧ i = .int .i64 q ∧ Hid (TlS W wv (some ⟨bb, off, none⟩) n l)) (fun i _ => xn - (intOf i).toNat)
          case atStart => exact ⟨0, by omega, rfl, HS6.out⟩
          case round =>
            obtain ⟨q, hq, rfl, hS2⟩ := hrel
            clear HS6 hS HRx
            have hbwr : bb < wr.heap.size := Nat.lt_of_lt_of_le hbW hS2.out.bel.size
            have c0 : wr.cell? ⟨bb, off + k, none⟩ = some (.slice xA xn xc) := (cell_blk (hS2.out.bel.block bb hbW) _).trans HCW.out
            by_cases hqx : q < xn
            · obtain ⟨b2, o2, rfl, hb2W, hc2⟩ := HAW.out.2.2.cells (by show 0 < xn; omega)
              have hql : q < xl.length := by rw [show xl.length = xn from HAW.out.2.2.1]; exact hqx
              have HD := Lib.hid (hc2 q (xl[q]'hql) (List.getElem?_eq_getElem hql))
              have HMq : Hid (xl[q]'hql ∈ xl) := List.getElem_mem hql
              have HAt := Lib.hid (HAW.out.2.2.2.2 _ HMq.out)
              have h20 := HSmx.out.2 _ HMq.out
              have hb2wr : b2 < wr.heap.size := Nat.lt_of_lt_of_le hb2W hS2.out.bel.size
              generalize xl[q]'hql = y at *
              obtain ⟨op, a, b, c, yA, yn, yc, yd, ys⟩ := y
              simp only at h20
              clear hc2 hql
              have KP : Hid (∀ w', Below wr.heap.size wr w' → w'.cell? ⟨bb, off + k, none⟩ = some (.slice (some ⟨b2, o2, none⟩) xn xc) ∧ w'.cell? ⟨b2, o2 + q * 6, none⟩ = some (.int .i64 op) ∧ w'.cell? ⟨b2, o2 + q * 6 + 1, none⟩ = some (.int .i64 a) ∧ w'.cell? ⟨b2, o2 + q * 6 + 2, none⟩ = some (.int .i64 b) ∧ w'.cell? ⟨b2, o2 + q * 6 + 3, none⟩ = some (.int .i64 c) ∧ w'.cell? ⟨b2, o2 + q * 6 + 4, none⟩ = some (.slice yA yn yc) ∧ w'.cell? ⟨b2, o2 + q * 6 + 5, none⟩ = some (.bool yd) ∧ Hid (Below wr.heap.size wr w')) := fun w' hb => by
                have hbw := hS2.out.bel.trans (hb.mono hS2.out.bel.size)
                have hD := HD.out
                simp only at hD
                exact ⟨(cell_blk (hbw.block bb hbW) _).trans HCW.out, (cell_blk (hbw.block b2 hb2W) _).trans hD.1, (cell_blk (hbw.block b2 hb2W) _).trans hD.2.1, (cell_blk (hbw.block b2 hb2W) _).trans hD.2.2.1, (cell_blk (hbw.block b2 hb2W) _).trans hD.2.2.2.1, (cell_blk (hbw.block b2 hb2W) _).trans hD.2.2.2.2.1, (cell_blk (hbw.block b2 hb2W) _).trans hD.2.2.2.2.2, hb⟩
              have HC1 : Hid (∀ w', Below wr.heap.size wr w' → Calls Tryd.prog 17 #[vI ⟨op, a, b, c, yA, yn, yc, yd, ys⟩] w' (UseR (readL ⟨op, a, b, c, yA, yn, yc, yd, ys⟩) (readL ⟨op, a, b, c, yA, yn, yc, yd, ys⟩).length w')) := fun w' hb => by
                have hT := hS2.out.later hb
                exact (Reads_any ⟨op, a, b, c, yA, yn, yc, yd, ys⟩ w' hT.ft ((HAt.out.2.2.later hS2.out.bel).later hb)).mono fun _ _ h => h.use
              have HC2 : Hid (∀ w', Below wr.heap.size wr w' → Calls Tryd.prog 18 #[vI ⟨op, a, b, c, yA, yn, yc, yd, ys⟩] w' (UseR (readL ⟨op, a, b, c, yA, yn, yc, yd, ys⟩) (readL ⟨op, a, b, c, yA, yn, yc, yd, ys⟩).length w')) := fun w' hb =>
                (reads_all ⟨op, a, b, c, yA, yn, yc, yd, ys⟩ w' (by show yn ≤ _; omega) ((HAt.out.2.2.later hS2.out.bel).later hb)).mono fun _ _ h => h.use
              have HC3 : Hid (∀ w', Below wr.heap.size wr w' → Calls Tryd.prog 19 #[vI ⟨op, a, b, c, yA, yn, yc, yd, ys⟩] w' (UseR (writeL ⟨op, a, b, c, yA, yn, yc, yd, ys⟩) (writeL ⟨op, a, b, c, yA, yn, yc, yd, ys⟩).length w')) := fun w' hb => by
                have hT := hS2.out.later hb
                exact (Writes_any ⟨op, a, b, c, yA, yn, yc, yd, ys⟩ w' hT.ft ((HAt.out.2.2.later hS2.out.bel).later hb)).mono fun _ _ h => h.use
              have HC4 : Hid (∀ w', Below wr.heap.size wr w' → Calls Tryd.prog 20 #[vI ⟨op, a, b, c, yA, yn, yc, yd, ys⟩] w' (UseR (writeL ⟨op, a, b, c, yA, yn, yc, yd, ys⟩) (writeL ⟨op, a, b, c, yA, yn, yc, yd, ys⟩).length w')) := fun w' hb =>
                (writes_all ⟨op, a, b, c, yA, yn, yc, yd, ys⟩ w' (by show yn ≤ _; omega) ((HAt.out.2.2.later hS2.out.bel).later hb)).mono fun _ _ h => h.use
              have hN1 : (readL ⟨op, a, b, c, yA, yn, yc, yd, ys⟩).length ≤ 8 := (use_up (e := ⟨op, a, b, c, yA, yn, yc, yd, ys⟩) (.inl rfl)).2
              have hN2 : (writeL ⟨op, a, b, c, yA, yn, yc, yd, ys⟩).length ≤ 8 := (use_up (e := ⟨op, a, b, c, yA, yn, yc, yd, ys⟩) (.inr rfl)).2
              generalize readL ⟨op, a, b, c, yA, yn, yc, yd, ys⟩ = rs at *
              generalize writeL ⟨op, a, b, c, yA, yn, yc, yd, ys⟩ = ws at *
              generalize rs.length = N1 at *
              generalize ws.length = N2 at *
              have HI1 : Hid (∀ (w' : World) (A1 A2 : Option Addr) (p1 p2 : Nat), RdN w' A1 N1 rs → RdN w' A2 N1 rs → Calls Tryd.prog 16 #[.slice A1 N1 p1, .slice A2 N1 p2] w' (BoolR true w')) := fun w' A1 A2 p1 p2 g1 g2 => Ints_yes (by omega) g1 g2 rfl
              have HI2 : Hid (∀ (w' : World) (A1 A2 : Option Addr) (p1 p2 : Nat), RdN w' A1 N2 ws → RdN w' A2 N2 ws → Calls Tryd.prog 16 #[.slice A1 N2 p1, .slice A2 N2 p2] w' (BoolR true w')) := fun w' A1 A2 p1 p2 g1 g2 => Ints_yes (by omega) g1 g2 rfl
              clear HD HAt HMq
              go_wp2_with fail
              clear c0
              have HV0 : Hid (Below wr.heap.size wr wr.drew) := (Below.refl _ _).drew
              go_cut [98] (fun s98 wx => s98 = .bool false ∧ Hid (Below wr.heap.size wr wx))
              case first =>
                go_region_held3 (fun w' => w'.cell? ⟨bb, off + k, none⟩ = some (.slice (some ⟨b2, o2, none⟩) xn xc) ∧ w'.cell? ⟨b2, o2 + q * 6, none⟩ = some (.int .i64 op) ∧ w'.cell? ⟨b2, o2 + q * 6 + 1, none⟩ = some (.int .i64 a) ∧ w'.cell? ⟨b2, o2 + q * 6 + 2, none⟩ = some (.int .i64 b) ∧ w'.cell? ⟨b2, o2 + q * 6 + 3, none⟩ = some (.int .i64 c) ∧ w'.cell? ⟨b2, o2 + q * 6 + 4, none⟩ = some (.slice yA yn yc) ∧ w'.cell? ⟨b2, o2 + q * 6 + 5, none⟩ = some (.bool yd) ∧ Hid (Below wr.heap.size wr w'))
                  (first
                    | exact KP.out _ HV0.out
                    | exact KP.out _ HV1.out
                    | exact KP.out _ HV2.out
                    | exact KP.out _ HV3.out
                    | exact KP.out _ HV4.out
                    | exact KP.out _ HV5.out
                    | exact KP.out _ HV6.out)
                  (first
                    | (go_at_call 17; (with_reducible refine (HC1.out _ HV0.out).mono ?_); rintro e v1 ⟨hb1, A1, p1, rfl, hl1⟩; have HL1 := Lib.hid hl1; have HV1 : Hid (Below wr.heap.size wr v1) := HV0.out.trans (hb1.mono HV0.out.size); clear hl1)
                    | (go_at_call 18; (with_reducible refine (HC2.out _ HV1.out).mono ?_); rintro e v2 ⟨hb2, A2, p2, rfl, hl2⟩; have HL2 := Lib.hid hl2; have HV2 : Hid (Below wr.heap.size wr v2) := HV1.out.trans (hb2.mono HV1.out.size); clear hl2)
                    | (go_at_call 16; (with_reducible refine (HI1.out _ A1 A2 p1 p2 (HL1.out.later hb2) HL2.out).mono ?_); rintro e v3 ⟨rfl, hb3⟩; have HV3 : Hid (Below wr.heap.size wr v3) := HV2.out.trans (hb3.mono HV2.out.size))
                    | (go_at_call 19; (with_reducible refine (HC3.out _ HV3.out).mono ?_); rintro e v4 ⟨hb4, A4, p4, rfl, hl4⟩; have HL4 := Lib.hid hl4; have HV4 : Hid (Below wr.heap.size wr v4) := HV3.out.trans (hb4.mono HV3.out.size); clear hl4)
                    | (go_at_call 20; (with_reducible refine (HC4.out _ HV4.out).mono ?_); rintro e v5 ⟨hb5, A5, p5, rfl, hl5⟩; have HL5 := Lib.hid hl5; have HV5 : Hid (Below wr.heap.size wr v5) := HV4.out.trans (hb5.mono HV4.out.size); clear hl5)
                    | (go_at_call 16; (with_reducible refine (HI2.out _ A4 A5 p4 p5 (HL4.out.later hb5) HL5.out).mono ?_); rintro e v6 ⟨rfl, hb6⟩; have HV6 : Hid (Below wr.heap.size wr v6) := HV5.out.trans (hb6.mono HV5.out.size)))
                all_goals (go_wp2_with fail)
                all_goals go_meet
                all_goals exact ⟨rfl, HV6.out⟩
              case rest =>
                obtain ⟨rfl, hBx⟩ := hcut
                have HS7 := Lib.hid (hS2.out.later hBx.out)
                clear hBx HV0 KP HC1 HC2 HC3 HC4 HI1 HI2
                go_wp2_with fail
                go_roundw
                case rel => exact ⟨q + 1, by omega, by go_num, HS7.out⟩
                case measure => simp [intOf]; omega
            · obtain rfl : q = xn := by omega
              go_wp2_with fail
              go_roundw
              case rel => exact ⟨k + 1, by omega, by go_num, hS2.out⟩
              case measure => simp [intOf]; omega
        | false =>
          rw [hcb] at HK5
          have HCB := Lib.hid hcb
          clear hcb
          go_wp2_with fail
          refine HK5.out.mono ?_
          rintro e w5 ⟨he, hb⟩
          obtain rfl := he
          have HS5 := Lib.hid (hS.out.later hb)
          clear hb HK5 c0 hbwr
          have hb5' : bb < w5.heap.size := Nat.lt_of_lt_of_le hbW HS5.out.bel.size
          have c0 : w5.cell? ⟨bb, off + k, none⟩ = some (.slice xA xn xc) := (cell_blk (HS5.out.bel.block bb hbW) _).trans HCW.out
          simp only [eN, Bool.false_eq_true, if_false]
          go_wp2_with fail
          refine (prog_no (HAW.out.2.2.later HS5.out.bel) HSmx.out.2 HCB.out).mono ?_
          rintro e w6 ⟨rfl, hb⟩
          have HS6 := Lib.hid (HS5.out.later hb)
          clear hb HS5 c0 hb5'
          go_wp2_with fail
          go_loopw [7] (fun i wv => ∃ q : Nat, q ≤ xn ∧ i = .int .i64 q ∧ Hid (TlS W wv (some ⟨bb, off, none⟩) n l)) (fun i _ => xn - (intOf i).toNat)
          case atStart => exact ⟨0, by omega, rfl, HS6.out⟩
          case round =>
            obtain ⟨q, hq, rfl, hS2⟩ := hrel
            clear HS6 hS HRx
            have hbwr : bb < wr.heap.size := Nat.lt_of_lt_of_le hbW hS2.out.bel.size
            have c0 : wr.cell? ⟨bb, off + k, none⟩ = some (.slice xA xn xc) := (cell_blk (hS2.out.bel.block bb hbW) _).trans HCW.out
            by_cases hqx : q < xn
            · obtain ⟨b2, o2, rfl, hb2W, hc2⟩ := HAW.out.2.2.cells (by show 0 < xn; omega)
              have hql : q < xl.length := by rw [show xl.length = xn from HAW.out.2.2.1]; exact hqx
              have HD := Lib.hid (hc2 q (xl[q]'hql) (List.getElem?_eq_getElem hql))
              have HMq : Hid (xl[q]'hql ∈ xl) := List.getElem_mem hql
              have HAt := Lib.hid (HAW.out.2.2.2.2 _ HMq.out)
              have h20 := HSmx.out.2 _ HMq.out
              have hb2wr : b2 < wr.heap.size := Nat.lt_of_lt_of_le hb2W hS2.out.bel.size
              generalize xl[q]'hql = y at *
              obtain ⟨op, a, b, c, yA, yn, yc, yd, ys⟩ := y
              simp only at h20
              clear hc2 hql
              have KP : Hid (∀ w', Below wr.heap.size wr w' → w'.cell? ⟨bb, off + k, none⟩ = some (.slice (some ⟨b2, o2, none⟩) xn xc) ∧ w'.cell? ⟨b2, o2 + q * 6, none⟩ = some (.int .i64 op) ∧ w'.cell? ⟨b2, o2 + q * 6 + 1, none⟩ = some (.int .i64 a) ∧ w'.cell? ⟨b2, o2 + q * 6 + 2, none⟩ = some (.int .i64 b) ∧ w'.cell? ⟨b2, o2 + q * 6 + 3, none⟩ = some (.int .i64 c) ∧ w'.cell? ⟨b2, o2 + q * 6 + 4, none⟩ = some (.slice yA yn yc) ∧ w'.cell? ⟨b2, o2 + q * 6 + 5, none⟩ = some (.bool yd) ∧ Hid (Below wr.heap.size wr w')) := fun w' hb => by
                have hbw := hS2.out.bel.trans (hb.mono hS2.out.bel.size)
                have hD := HD.out
                simp only at hD
                exact ⟨(cell_blk (hbw.block bb hbW) _).trans HCW.out, (cell_blk (hbw.block b2 hb2W) _).trans hD.1, (cell_blk (hbw.block b2 hb2W) _).trans hD.2.1, (cell_blk (hbw.block b2 hb2W) _).trans hD.2.2.1, (cell_blk (hbw.block b2 hb2W) _).trans hD.2.2.2.1, (cell_blk (hbw.block b2 hb2W) _).trans hD.2.2.2.2.1, (cell_blk (hbw.block b2 hb2W) _).trans hD.2.2.2.2.2, hb⟩
              have HC1 : Hid (∀ w', Below wr.heap.size wr w' → Calls Tryd.prog 17 #[vI ⟨op, a, b, c, yA, yn, yc, yd, ys⟩] w' (UseR (readL ⟨op, a, b, c, yA, yn, yc, yd, ys⟩) (readL ⟨op, a, b, c, yA, yn, yc, yd, ys⟩).length w')) := fun w' hb => by
                have hT := hS2.out.later hb
                exact (Reads_any ⟨op, a, b, c, yA, yn, yc, yd, ys⟩ w' hT.ft ((HAt.out.2.2.later hS2.out.bel).later hb)).mono fun _ _ h => h.use
              have HC2 : Hid (∀ w', Below wr.heap.size wr w' → Calls Tryd.prog 18 #[vI ⟨op, a, b, c, yA, yn, yc, yd, ys⟩] w' (UseR (readL ⟨op, a, b, c, yA, yn, yc, yd, ys⟩) (readL ⟨op, a, b, c, yA, yn, yc, yd, ys⟩).length w')) := fun w' hb =>
                (reads_all ⟨op, a, b, c, yA, yn, yc, yd, ys⟩ w' (by show yn ≤ _; omega) ((HAt.out.2.2.later hS2.out.bel).later hb)).mono fun _ _ h => h.use
              have HC3 : Hid (∀ w', Below wr.heap.size wr w' → Calls Tryd.prog 19 #[vI ⟨op, a, b, c, yA, yn, yc, yd, ys⟩] w' (UseR (writeL ⟨op, a, b, c, yA, yn, yc, yd, ys⟩) (writeL ⟨op, a, b, c, yA, yn, yc, yd, ys⟩).length w')) := fun w' hb => by
                have hT := hS2.out.later hb
                exact (Writes_any ⟨op, a, b, c, yA, yn, yc, yd, ys⟩ w' hT.ft ((HAt.out.2.2.later hS2.out.bel).later hb)).mono fun _ _ h => h.use
              have HC4 : Hid (∀ w', Below wr.heap.size wr w' → Calls Tryd.prog 20 #[vI ⟨op, a, b, c, yA, yn, yc, yd, ys⟩] w' (UseR (writeL ⟨op, a, b, c, yA, yn, yc, yd, ys⟩) (writeL ⟨op, a, b, c, yA, yn, yc, yd, ys⟩).length w')) := fun w' hb =>
                (writes_all ⟨op, a, b, c, yA, yn, yc, yd, ys⟩ w' (by show yn ≤ _; omega) ((HAt.out.2.2.later hS2.out.bel).later hb)).mono fun _ _ h => h.use
              have hN1 : (readL ⟨op, a, b, c, yA, yn, yc, yd, ys⟩).length ≤ 8 := (use_up (e := ⟨op, a, b, c, yA, yn, yc, yd, ys⟩) (.inl rfl)).2
              have hN2 : (writeL ⟨op, a, b, c, yA, yn, yc, yd, ys⟩).length ≤ 8 := (use_up (e := ⟨op, a, b, c, yA, yn, yc, yd, ys⟩) (.inr rfl)).2
              generalize readL ⟨op, a, b, c, yA, yn, yc, yd, ys⟩ = rs at *
              generalize writeL ⟨op, a, b, c, yA, yn, yc, yd, ys⟩ = ws at *
              generalize rs.length = N1 at *
              generalize ws.length = N2 at *
              have HI1 : Hid (∀ (w' : World) (A1 A2 : Option Addr) (p1 p2 : Nat), RdN w' A1 N1 rs → RdN w' A2 N1 rs → Calls Tryd.prog 16 #[.slice A1 N1 p1, .slice A2 N1 p2] w' (BoolR true w')) := fun w' A1 A2 p1 p2 g1 g2 => Ints_yes (by omega) g1 g2 rfl
              have HI2 : Hid (∀ (w' : World) (A1 A2 : Option Addr) (p1 p2 : Nat), RdN w' A1 N2 ws → RdN w' A2 N2 ws → Calls Tryd.prog 16 #[.slice A1 N2 p1, .slice A2 N2 p2] w' (BoolR true w')) := fun w' A1 A2 p1 p2 g1 g2 => Ints_yes (by omega) g1 g2 rfl
              clear HD HAt HMq
              go_wp2_with fail
              clear c0
              have HV0 : Hid (Below wr.heap.size wr wr.drew) := (Below.refl _ _).drew
              go_cut [98] (fun s98 wx => s98 = .bool false ∧ Hid (Below wr.heap.size wr wx))
              case first =>
                go_region_held3 (fun w' => w'.cell? ⟨bb, off + k, none⟩ = some (.slice (some ⟨b2, o2, none⟩) xn xc) ∧ w'.cell? ⟨b2, o2 + q * 6, none⟩ = some (.int .i64 op) ∧ w'.cell? ⟨b2, o2 + q * 6 + 1, none⟩ = some (.int .i64 a) ∧ w'.cell? ⟨b2, o2 + q * 6 + 2, none⟩ = some (.int .i64 b) ∧ w'.cell? ⟨b2, o2 + q * 6 + 3, none⟩ = some (.int .i64 c) ∧ w'.cell? ⟨b2, o2 + q * 6 + 4, none⟩ = some (.slice yA yn yc) ∧ w'.cell? ⟨b2, o2 + q * 6 + 5, none⟩ = some (.bool yd) ∧ Hid (Below wr.heap.size wr w'))
                  (first
                    | exact KP.out _ HV0.out
                    | exact KP.out _ HV1.out
                    | exact KP.out _ HV2.out
                    | exact KP.out _ HV3.out
                    | exact KP.out _ HV4.out
                    | exact KP.out _ HV5.out
                    | exact KP.out _ HV6.out)
                  (first
                    | (go_at_call 17; (with_reducible refine (HC1.out _ HV0.out).mono ?_); rintro e v1 ⟨hb1, A1, p1, rfl, hl1⟩; have HL1 := Lib.hid hl1; have HV1 : Hid (Below wr.heap.size wr v1) := HV0.out.trans (hb1.mono HV0.out.size); clear hl1)
                    | (go_at_call 18; (with_reducible refine (HC2.out _ HV1.out).mono ?_); rintro e v2 ⟨hb2, A2, p2, rfl, hl2⟩; have HL2 := Lib.hid hl2; have HV2 : Hid (Below wr.heap.size wr v2) := HV1.out.trans (hb2.mono HV1.out.size); clear hl2)
                    | (go_at_call 16; (with_reducible refine (HI1.out _ A1 A2 p1 p2 (HL1.out.later hb2) HL2.out).mono ?_); rintro e v3 ⟨rfl, hb3⟩; have HV3 : Hid (Below wr.heap.size wr v3) := HV2.out.trans (hb3.mono HV2.out.size))
                    | (go_at_call 19; (with_reducible refine (HC3.out _ HV3.out).mono ?_); rintro e v4 ⟨hb4, A4, p4, rfl, hl4⟩; have HL4 := Lib.hid hl4; have HV4 : Hid (Below wr.heap.size wr v4) := HV3.out.trans (hb4.mono HV3.out.size); clear hl4)
                    | (go_at_call 20; (with_reducible refine (HC4.out _ HV4.out).mono ?_); rintro e v5 ⟨hb5, A5, p5, rfl, hl5⟩; have HL5 := Lib.hid hl5; have HV5 : Hid (Below wr.heap.size wr v5) := HV4.out.trans (hb5.mono HV4.out.size); clear hl5)
                    | (go_at_call 16; (with_reducible refine (HI2.out _ A4 A5 p4 p5 (HL4.out.later hb5) HL5.out).mono ?_); rintro e v6 ⟨rfl, hb6⟩; have HV6 : Hid (Below wr.heap.size wr v6) := HV5.out.trans (hb6.mono HV5.out.size)))
                all_goals (go_wp2_with fail)
                all_goals go_meet
                all_goals exact ⟨rfl, HV6.out⟩
              case rest =>
                obtain ⟨rfl, hBx⟩ := hcut
                have HS7 := Lib.hid (hS2.out.later hBx.out)
                clear hBx HV0 KP HC1 HC2 HC3 HC4 HI1 HI2
                go_wp2_with fail
                go_roundw
                case rel => exact ⟨q + 1, by omega, by go_num, HS7.out⟩
                case measure => simp [intOf]; omega
            · obtain rfl : q = xn := by omega
              go_wp2_with fail
              go_roundw
              case rel => exact ⟨k + 1, by omega, by go_num, hS2.out⟩
              case measure => simp [intOf]; omega
      · obtain rfl : k = n := by omega
        go_wp2_with fail
        refine (awake_any wr hS.out.ft).mono ?_
        rintro e w5 ⟨rfl, hb⟩
        have HB := Lib.hid (hS.out.bel.trans (hb.mono hS.out.bel.size))
        clear hb
        go_wp2_with fail
        go_ret
        exact ⟨rfl, HB.out⟩
end Go.Proofs.YtifmamobhkgmfaaDoor
