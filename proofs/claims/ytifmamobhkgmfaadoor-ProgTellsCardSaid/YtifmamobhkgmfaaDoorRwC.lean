/- The document's own registers that an instruction reads. Condition: the cases lie where the instruction says. -/
import Derived.Test.YtifmamobhkgmfaaDoorRwB
namespace Go.Proofs.YtifmamobhkgmfaaDoor
open Go.RowKit
set_option linter.unusedVariables false

set_option maxRecDepth 100000 in
set_option maxHeartbeats 4000000 in
theorem reads_ref (k : Nat) (h1 : 1 ≤ k) (h2 : k ≤ 32) (a b c : Int) (A : Option Addr) (n cap : Nat) (d : Bool) (cs : List Ca) (w : World) (hn : n ≤ 4611686018427387904) (hR : Hid (RdC w A n cs)) :
    Calls Tryd.prog 18 #[vI ⟨k, a, b, c, A, n, cap, d, cs⟩] w (ListR (readL ⟨k, a, b, c, A, n, cap, d, cs⟩) w) := by
  have HX0 : Hid (∀ j, ((w.alloc (.cells #[.int .i64 k, .int .i64 a, .int .i64 b, .int .i64 c, .slice A n cap, .bool d] 36)).alloc (.cells #[.bool false, .bool false, .bool false, .bool false, .bool false, .bool false, .bool false, .bool false] 54)).cell? ⟨w.heap.size, j, none⟩ = (#[Value.int .i64 k, .int .i64 a, .int .i64 b, .int .i64 c, .slice A n cap, .bool d])[j]?) := fun j => by
    rw [World.cell?_alloc_past _ _ _ (by simp), World.cell?_alloc_at _ _ _ _ rfl]
  have HI0 : Hid (∀ j, j < 8 → ((w.alloc (.cells #[.int .i64 k, .int .i64 a, .int .i64 b, .int .i64 c, .slice A n cap, .bool d] 36)).alloc (.cells #[.bool false, .bool false, .bool false, .bool false, .bool false, .bool false, .bool false, .bool false] 54)).cell? ⟨w.heap.size + 1, j, none⟩ = some (.bool false)) := fun j hj => by
    rw [World.cell?_alloc_at _ _ _ _ (by simp)]
    match j, hj with
    | 0, _ => rfl
    | 1, _ => rfl
    | 2, _ => rfl
    | 3, _ => rfl
    | 4, _ => rfl
    | 5, _ => rfl
    | 6, _ => rfl
    | 7, _ => rfl
  have HO0 : Hid (Own ((w.alloc (.cells #[.int .i64 k, .int .i64 a, .int .i64 b, .int .i64 c, .slice A n cap, .bool d] 36)).alloc (.cells #[.bool false, .bool false, .bool false, .bool false, .bool false, .bool false, .bool false, .bool false] 54)) (w.heap.size + 1) 8) := by
    have h9 := heap_alloc_new (w.alloc (.cells #[.int .i64 k, .int .i64 a, .int .i64 b, .int .i64 c, .slice A n cap, .bool d] 36)) (.cells #[.bool false, .bool false, .bool false, .bool false, .bool false, .bool false, .bool false, .bool false] 54)
    rw [World.size_alloc] at h9
    exact ⟨_, _, h9, Nat.le_refl _⟩
  have HB0 := Lib.hid (two_box w (.cells #[.int .i64 k, .int .i64 a, .int .i64 b, .int .i64 c, .slice A n cap, .bool d] 36) (.cells #[.bool false, .bool false, .bool false, .bool false, .bool false, .bool false, .bool false, .bool false] 54))
  have hsz : ((w.alloc (.cells #[.int .i64 k, .int .i64 a, .int .i64 b, .int .i64 c, .slice A n cap, .bool d] 36)).alloc (.cells #[.bool false, .bool false, .bool false, .bool false, .bool false, .bool false, .bool false, .bool false] 54)).heap.size = w.heap.size + 2 := by simp
  have HSZ := Lib.hid hsz
  clear hsz
  by_cases hm : mayB 100 16 ⟨k, a, b, c, A, n, cap, d, cs⟩ = true
  · have HH := Lib.hid hm
    have HL : Hid (readL ⟨k, a, b, c, A, n, cap, d, cs⟩ = risP (readM ⟨k, a, b, c, A, n, cap, d, cs⟩).testBit 8) := if_pos hm
    have HFl : Hid (fieldsB 100 (rf k) ⟨a, b, c⟩ = true) := by have h := hm; rw [may_ref 100 k h1 h2] at h; simp only [Bool.and_eq_true] at h; exact h.1
    have HEq : Hid (∀ j, (readM ⟨k, a, b, c, A, n, cap, d, cs⟩).testBit j = (mk pR (rf k) ⟨a, b, c⟩ 3 j || csg cs j)) := read_eq k h1 h2 a b c A n cap d cs hm
    have HF := Lib.hid (form_ref k h1 h2)
    have HCas : Hid (∀ x ∈ cs, caB x = true) := by
      intro x hx
      have h := hm
      rw [may_ref 100 k h1 h2] at h
      simp only [Bool.and_eq_true] at h
      have h9 := h.2
      unfold casB at h9
      split at h9
      · simp only [Bool.and_eq_true, List.all_eq_true] at h9
        exact h9.2 x hx
      · simp only [Bool.and_eq_true, decide_eq_true_eq] at h9
        have h8 : cs = [] := List.length_eq_zero_iff.1 h9.1
        rw [h8] at hx; cases hx
    clear hm
    go_enter Tryd.func18, Tryd.ntmps18
    go_wp2_with fail
    refine (one_yes (e := ⟨k, a, b, c, A, n, cap, d, cs⟩) HH.out _ hn (hR.out.later HB0.out)).mono ?_
    rintro e w1 ⟨rfl, hb⟩
    have HB1 := Lib.hid (HB0.out.trans (hb.mono HB0.out.size))
    have HCi : Hid (∀ j, w1.cell? ⟨w.heap.size, j, none⟩ = (#[Value.int .i64 k, .int .i64 a, .int .i64 b, .int .i64 c, .slice A n cap, .bool d])[j]?) := fun j => (cell_blk (hb.block _ (by rw [HSZ.out]; omega)) j).trans (HX0.out j)
    have HIi : Hid (∀ j, j < 8 → w1.cell? ⟨w.heap.size + 1, j, none⟩ = some (.bool false)) := fun j hj => (cell_blk (hb.block _ (by rw [HSZ.out]; omega)) j).trans (HI0.out j hj)
    have HOi : Hid (Own w1 (w.heap.size + 1) 8) := HO0.out.eq (hb.block _ (by rw [HSZ.out]; omega))
    have hN1 : w.heap.size + 1 < w1.heap.size := by have h9 := hb.size; rw [HSZ.out] at h9; omega
    clear hb HX0 HI0 HO0 HB0 HSZ
    go_wp2_with fail
    generalize rf k = f at *
    have KP : Hid (∀ w', Below w1.heap.size w1 w' → w'.cell? ⟨w.heap.size, 0, none⟩ = some (.int .i64 k) ∧ w'.cell? ⟨w.heap.size, 1, none⟩ = some (.int .i64 a) ∧ w'.cell? ⟨w.heap.size, 2, none⟩ = some (.int .i64 b) ∧ w'.cell? ⟨w.heap.size, 3, none⟩ = some (.int .i64 c) ∧ Hid (Below w1.heap.size w1 w')) :=
      fun w' hb => ⟨(cell_blk (hb.block _ (by omega)) 0).trans (HCi.out 0), (cell_blk (hb.block _ (by omega)) 1).trans (HCi.out 1), (cell_blk (hb.block _ (by omega)) 2).trans (HCi.out 2), (cell_blk (hb.block _ (by omega)) 3).trans (HCi.out 3), hb⟩
    go_cut [4, 5] (fun s4 s5 wx => ∃ F X : Nat, s4 = .pointer (some ⟨F, 0, none⟩) ∧ s5 = .pointer (some ⟨X, 0, none⟩) ∧ Hid (Below w1.heap.size w1 wx) ∧ (w1.heap.size ≤ F ∧ F < wx.heap.size) ∧ (w1.heap.size ≤ X ∧ X < wx.heap.size) ∧ Hid (∀ j, wx.cell? ⟨F, j, none⟩ = (#[Value.int .i64 f.a, .int .i64 f.b, .int .i64 f.c])[j]?) ∧ Hid (∀ j, wx.cell? ⟨X, j, none⟩ = (#[Value.int .i64 a, .int .i64 b, .int .i64 c])[j]?))
    case first =>
      go_region_held3 (fun w' => w'.cell? ⟨w.heap.size, 0, none⟩ = some (.int .i64 k) ∧ w'.cell? ⟨w.heap.size, 1, none⟩ = some (.int .i64 a) ∧ w'.cell? ⟨w.heap.size, 2, none⟩ = some (.int .i64 b) ∧ w'.cell? ⟨w.heap.size, 3, none⟩ = some (.int .i64 c) ∧ Hid (Below w1.heap.size w1 w'))
        (first
          | exact KP.out _ (by repeat' (first | exact Below.refl _ _ | refine Below.drew ?_ | refine Below.alloc ?_ (by simp <;> omega) _ | refine Below.setCell ?_ (by simp <;> omega) _)))
        (first | (go_at_call 28; (with_reducible refine (HF.out _).mono ?_); rintro e w' ⟨rfl, rfl⟩))
      all_goals (go_wp2_with fail)
      all_goals go_meet
      all_goals (exact ⟨_, _, rfl, rfl, (by repeat' (first | exact Below.refl _ _ | refine Below.drew ?_ | refine Below.alloc ?_ (by simp <;> omega) _)), ⟨by omega, by simp <;> omega⟩, ⟨by omega, by simp <;> omega⟩,
        fun j => by first | exact al3_0 _ _ _ _ _ j | exact al3_1 _ _ _ _ _ j | exact al3_2 _ _ _ _ _ j,
        fun j => by first | exact al3_0 _ _ _ _ _ j | exact al3_1 _ _ _ _ _ j | exact al3_2 _ _ _ _ _ j⟩)
    case rest =>
      obtain ⟨F, X, rfl, rfl, hB, ⟨hF1, hF⟩, ⟨hX1, hX⟩, hcf, hcx⟩ := hcut
      have HS : Hid (RwS w wc w.heap.size (w.heap.size + 1) F X k a b c A n cap d f (mk pR f ⟨a, b, c⟩ 0)) := by
        have hbw := HB1.out.trans (hB.out.mono (by omega))
        refine ⟨hbw, by omega, by have := hB.out.size; omega, hF, hX, by omega, by omega, by omega, HOi.out.eq (hB.out.block _ hN1), fun j => ?_, hcf.out, hcx.out, fun j hj => ?_⟩
        · rw [cell_blk (hB.out.block _ (by omega)) j]; exact HCi.out j
        · rw [cell_blk (hB.out.block _ hN1) j]; exact HIi.out j hj
      clear hB hF hX hF1 hX1 hcf hcx KP HB1 HF HCi HIi HOi hN1
      generalize hB : w.heap.size = B at *
      generalize hI : B + 1 = I at *
      go_wp2_with fail
      go_loopw [6] (fun i wr => ∃ m : Nat, m ≤ 3 ∧ i = .int .i64 m ∧ Hid (RwS w wr B I F X k a b c A n cap d f (mk pR f ⟨a, b, c⟩ m))) (fun i _ => 3 - (intOf i).toNat)
      case atStart => exact ⟨0, by omega, rfl, HS.out⟩
      case round =>
        obtain ⟨m, hm, rfl, hS⟩ := hrel
        clear HS
        by_cases hm3 : m < 3
        · have hF : F < wr.heap.size := hS.out.lF
          have hX : X < wr.heap.size := hS.out.lX
          have hI : I < wr.heap.size := hS.out.own.lt
          have cf := rf_cell hS.out.cf m hm3
          have cx := rf_cell (f := ⟨a, b, c⟩) hS.out.cx m hm3
          have HReg := Lib.hid (field_reg HFl.out m hm3)
          have HNx : Hid (∀ j, mk pR f ⟨a, b, c⟩ (m + 1) j = (mk pR f ⟨a, b, c⟩ m j || (pR (rfAt f m) && decide ((j : Int) = rfAt ⟨a, b, c⟩ m)))) := fun j => rfl
          generalize rfAt f m = fc at *
          generalize rfAt ⟨a, b, c⟩ m = xv at *
          by_cases e1 : fc = 1
          · obtain ⟨y, hy, rfl⟩ := reg_nat (HReg.out (by omega))
            subst e1
            have HMk := Lib.hid (hS.out.mark y hy (mk pR f ⟨a, b, c⟩ (m + 1)) (fun j _ => by rw [HNx.out j]; rfl))
            obtain ⟨v0, hv0⟩ := hS.out.own.cell y hy
            have hfz := hS.out.own.frz y
            go_wp2_with fail
            go_roundw
            case rel => exact ⟨m + 1, by omega, by go_num, HMk.out⟩
            case measure => simp [intOf]; omega
          · have g1 : (fc == 1) = false := by simpa using e1
            by_cases e2 : fc = 6
            · obtain ⟨y, hy, rfl⟩ := reg_nat (HReg.out (by omega))
              subst e2
              have HMk := Lib.hid (hS.out.mark y hy (mk pR f ⟨a, b, c⟩ (m + 1)) (fun j _ => by rw [HNx.out j]; rfl))
              obtain ⟨v0, hv0⟩ := hS.out.own.cell y hy
              have hfz := hS.out.own.frz y
              go_wp2_with fail
              go_roundw
              case rel => exact ⟨m + 1, by omega, by go_num, HMk.out⟩
              case measure => simp [intOf]; omega
            · have g2 : (fc == 6) = false := by simpa using e2
              have HMk := Lib.hid (hS.out.same (g' := mk pR f ⟨a, b, c⟩ (m + 1)) (fun j _ => by rw [HNx.out j]; unfold pR; rw [decide_eq_false e1, decide_eq_false e2]; simp))
              clear e1 e2
              go_wp2_with fail
              go_roundw
              case rel => exact ⟨m + 1, by omega, by go_num, HMk.out⟩
              case measure => simp [intOf]; omega
        · have hm33 : m = 3 := by omega
          have hge : ¬ ((m : Int) < 3) := by omega
          have HS3 : Hid (RwS w wr B I F X k a b c A n cap d f (mk pR f ⟨a, b, c⟩ 3)) := by have h := hS.out; rw [hm33] at h; exact h
          clear hS hm33 hm hm3
          have hB9 : B < wr.heap.size := HS3.out.lB
          have i4 : wr.cell? ⟨B, 4, none⟩ = some (.slice A n cap) := HS3.out.ci 4
          have HLn : Hid (cs.length = n) := hR.out.1
          go_wp2_with fail
          clear i4
          go_loopw [7] (fun i wv => ∃ q : Nat, q ≤ n ∧ i = .int .i64 q ∧ Hid (RwS w wv B I F X k a b c A n cap d f (fun j => mk pR f ⟨a, b, c⟩ 3 j || csg (cs.take q) j))) (fun i _ => n - (intOf i).toNat)
          case atStart => exact ⟨0, by omega, rfl, HS3.out.same (fun j _ => by simp [csg])⟩
          case round =>
            obtain ⟨q, hq, rfl, hS2⟩ := hrel
            clear HS3
            have hB9 : B < wr.heap.size := hS2.out.lB
            have hI9 : I < wr.heap.size := hS2.out.own.lt
            have i4 : wr.cell? ⟨B, 4, none⟩ = some (.slice A n cap) := hS2.out.ci 4
            by_cases hqn : q < n
            · obtain ⟨bb, off, rfl, hb, hc⟩ := hR.out.cells (by omega)
              have hky : q < cs.length := by rw [HLn.out]; exact hqn
              obtain ⟨c0, c1, c2⟩ := hc q (cs[q]'hky) (List.getElem?_eq_getElem hky)
              have HNx : Hid (∀ j, csg (cs.take (q + 1)) j = (csg (cs.take q) j || (decide ((j : Int) = (cs[q]'hky).ch) || ((cs[q]'hky).s && decide ((j : Int) = (cs[q]'hky).v))))) := csg_next (List.take_succ_eq_append_getElem hky)
              have hcb := HCas.out _ (List.getElem_mem hky)
              rw [← cell_blk (hS2.out.bel.block bb (by omega))] at c0 c1 c2
              have hbI : bb ≠ I := by have := hS2.out.lI; omega
              generalize cs[q]'hky = x at *
              obtain ⟨s, ch, v⟩ := x
              simp only at c0 c1 c2
              clear hc hky
              unfold caB at hcb
              simp only [Bool.and_eq_true] at hcb
              obtain ⟨y, hy, rfl⟩ := reg_nat hcb.1
              have HM1 := Lib.hid (hS2.out.mark y hy (fun j => (mk pR f ⟨a, b, c⟩ 3 j || csg (cs.take q) j) || decide ((j : Int) = (y : Int))) (fun j _ => rfl))
              obtain ⟨v0, hv0⟩ := hS2.out.own.cell y hy
              have hfz := hS2.out.own.frz y
              have k0 : (wr.setCell ⟨I, y, none⟩ (.bool true)).cell? ⟨bb, off + q * 3, none⟩ = some (.bool s) := (cell_set_other (.inl (fun e => hbI e.symm))).trans c0
              have k4 : (wr.setCell ⟨I, y, none⟩ (.bool true)).cell? ⟨B, 4, none⟩ = some (.slice (some ⟨bb, off, none⟩) n cap) := HM1.out.ci 4
              cases s with
              | false =>
                have HM2 := Lib.hid (HM1.out.same (g' := fun j => mk pR f ⟨a, b, c⟩ 3 j || csg (cs.take (q + 1)) j) (fun j _ => by simp only [HNx.out j]; simp [Bool.or_assoc]))
                clear hcb
                go_wp2_with fail
                go_roundw
                case rel => exact ⟨q + 1, by omega, by go_num, HM2.out⟩
                case measure => simp [intOf]; omega
              | true =>
                obtain ⟨z, hz, rfl⟩ := reg_nat (by simpa using hcb.2)
                have k2 : (wr.setCell ⟨I, y, none⟩ (.bool true)).cell? ⟨bb, off + q * 3 + 2, none⟩ = some (.int .i64 z) := (cell_set_other (.inl (fun e => hbI e.symm))).trans c2
                have HM2 := Lib.hid (HM1.out.mark z hz (fun j => mk pR f ⟨a, b, c⟩ 3 j || csg (cs.take (q + 1)) j) (fun j _ => by simp only [HNx.out j]; simp [Bool.or_assoc]))
                obtain ⟨v1, hv1⟩ := HM1.out.own.cell z hz
                have hfz1 := HM1.out.own.frz z
                clear hcb
                go_wp2_with fail
                go_roundw
                case rel => exact ⟨q + 1, by omega, by go_num, HM2.out⟩
                case measure => simp [intOf]; omega
            · obtain rfl : q = n := by omega
              have HS4 : Hid (RwS w wr B I F X k a b c A q cap d f (fun j => mk pR f ⟨a, b, c⟩ 3 j || csg cs j)) := by have h := hS2.out; rw [List.take_of_length_le (by rw [HLn.out]; exact Nat.le_refl _)] at h; exact h
              clear hS2
              have G : Hid (∀ j, j < 8 → wr.cell? ⟨I, j, none⟩ = some (.bool ((readM ⟨k, a, b, c, A, q, cap, d, cs⟩).testBit j))) := fun j hj => by rw [HEq.out j]; exact HS4.out.cg j hj
              have hI : I < wr.heap.size := HS4.out.own.lt
              have t0 := G.out 0 (by omega)
              have t1 := G.out 1 (by omega)
              have t2 := G.out 2 (by omega)
              have t3 := G.out 3 (by omega)
              have t4 := G.out 4 (by omega)
              have t5 := G.out 5 (by omega)
              have t6 := G.out 6 (by omega)
              have t7 := G.out 7 (by omega)
              have HB := Lib.hid HS4.out.bel
              clear HS4 G HEq
              generalize hG : (readM ⟨k, a, b, c, A, q, cap, d, cs⟩).testBit = gg at *
              go_wp2_with fail
              refine (rising_ref gg wr).mono ?_
              rintro e w2 ⟨hb, A9, c9, q1, q2, rfl, q3⟩
              have HR3 : Hid (ListR (risP gg 8) w (.returned (.slice A9 (risP gg 8).length c9)) w2) := ⟨HB.out.trans (hb.mono HB.out.size), A9, c9, q1, q2, rfl, q3⟩
              clear hb q1 q2 q3 t0 t1 t2 t3 t4 t5 t6 t7 hG
              generalize risP gg 8 = xs at *
              generalize xs.length = N9 at *
              go_wp2_with fail
              go_ret
              rw [HL.out]
              exact HR3.out
  · have HH := Lib.hid (eq_false_of_ne_true hm)
    have HL : Hid (readL ⟨k, a, b, c, A, n, cap, d, cs⟩ = []) := if_neg hm
    clear hm
    go_enter Tryd.func18, Tryd.ntmps18
    go_wp2_with fail
    refine (one_no (e := ⟨k, a, b, c, A, n, cap, d, cs⟩) HH.out _ hn (hR.out.later HB0.out)).mono ?_
    rintro e w1 ⟨rfl, hb⟩
    have HB1 := Lib.hid (HB0.out.trans (hb.mono HB0.out.size))
    clear hb
    go_wp2_with fail
    go_ret
    rw [HL.out]
    exact ListR.none w w1 HB1.out
end Go.Proofs.YtifmamobhkgmfaaDoor
