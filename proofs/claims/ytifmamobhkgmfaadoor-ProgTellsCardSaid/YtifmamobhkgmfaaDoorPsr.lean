/- The document's own answer whether programs may be. Conditions: they lie where the slices say, with few cases each. -/
import Derived.Test.YtifmamobhkgmfaaDoorPgr
import Derived.Test.YtifmamobhkgmfaaDoorAlk
namespace Go.Proofs.YtifmamobhkgmfaaDoor
open Go.RowKit
set_option linter.unusedVariables false

theorem dge (x y : Int) : decide (y ≤ x) = !decide (x < y) := by
  rw [← decide_not]; congr 1; simp
theorem there_8 {n : Nat} {a b c : Int} {A : Option Addr} {m cp : Nat} {d : Bool} {cs : List Ca} : thereB n ⟨8, a, b, c, A, m, cp, d, cs⟩ = decide (b < n) := by
  unfold thereB; simp [dge]
theorem there_c {n : Nat} {op a b c : Int} {A : Option Addr} {m cp : Nat} {d : Bool} {cs : List Ca} (h : op = 19 ∨ op = 31) : thereB n ⟨op, a, b, c, A, m, cp, d, cs⟩ = decide (c < n) := by
  unfold thereB
  rcases h with rfl | rfl <;> simp [dge]
theorem there_o {n : Nat} {op a b c : Int} {A : Option Addr} {m cp : Nat} {d : Bool} {cs : List Ca} (h8 : op ≠ 8) (h19 : op ≠ 19) (h31 : op ≠ 31) : thereB n ⟨op, a, b, c, A, m, cp, d, cs⟩ = true := by
  unfold thereB; simp [h8, h19, h31]
set_option maxHeartbeats 2000000 in
theorem progs_ref (A : Option Addr) (n cap : Nat) (l : List Pr) (w : World) (hR : Hid (RdP w A n l)) (hsm : Hid (Small l)) (hbig : n ≤ 1000) : Calls Tryd.prog 11 #[.slice A n cap] w (BoolR (allB l) w) := by
  by_cases h0 : n < 1
  · have HC : Hid (allB l = false) := by show _ = _; unfold allB; rw [decide_eq_false (by rw [hR.out.1]; omega)]; rfl
    go_enter Tryd.func11, Tryd.ntmps11
    go_wp2
    go_ret
    exact ⟨ret_bool HC.out.symm, Below.refl _ _⟩
  · by_cases hlen : 16 < n
    · have HC : Hid (allB l = false) := by show _ = _; unfold allB; rw [decide_eq_false (by rw [hR.out.1]; omega)]; rfl
      have h0' : 1 ≤ n := by omega
      go_enter Tryd.func11, Tryd.ntmps11
      go_wp2
      go_ret
      exact ⟨ret_bool HC.out.symm, Below.refl _ _⟩
    · have HC : Hid (allB l = l.all fun p => checkB p.l n) := by show _ = _; unfold allB; rw [decide_eq_true (by rw [hR.out.1]; omega), hR.out.1]; rfl
      have h0' : 1 ≤ n := by omega
      have g1 : (n : Int) ≤ 16 := by omega
      go_enter Tryd.func11, Tryd.ntmps11
      go_wp2
      go_loopw [3] (fun i wr => ∃ k : Nat, k ≤ n ∧ i = .int .i64 k ∧ Hid (Below w.heap.size w wr) ∧ Hid ((l.take k).all (fun p => checkB p.l n) = true)) (fun i _ => n - (intOf i).toNat)
      case atStart => exact ⟨0, by omega, rfl, Below.refl _ _, rfl⟩
      case round =>
        obtain ⟨k, hk, rfl, hB, hA⟩ := hrel
        by_cases hlt : k < n
        · obtain ⟨bb, off, rfl, hb, hc⟩ := hR.out.cells (by omega)
          have hky : k < l.length := by rw [hR.out.1]; exact hlt
          have c0 := hc k (l[k]'hky) (List.getElem?_eq_getElem hky)
          have htk : l.take (k + 1) = l.take k ++ [l[k]'hky] := List.take_succ_eq_append_getElem hky
          have HM : Hid (l[k]'hky ∈ l) := List.getElem_mem hky
          have HAt := Lib.hid ((hR.out.2.2 _ HM.out).later hB.out)
          have HAw := Lib.hid (hR.out.2.2 _ HM.out)
          have HSm := Lib.hid (hsm.out _ HM.out)
          have c0w := Lib.hid c0
          rw [← cell_blk (hB.out.block bb hb)] at c0
          have hbw : bb < w.heap.size := hb
          generalize l[k]'hky = x at *
          obtain ⟨xA, xn, xc, xl⟩ := x
          have h60 : xn ≤ 60 := HSm.out.1
          have HTK := Lib.hid htk
          clear htk hc hky
          simp only at c0
          cases hm : checkB xl 16 with
          | false =>
            have HX : Hid (checkB xl n = false) := by show _ = _; rw [check_there (by omega) xl, hm]; rfl
            have HY := Lib.hid hm
            clear hm
            go_wp2_with fail
            refine (prog_no HAt.out.2.2 HSm.out.2 HY.out).mono ?_
            rintro e w1 ⟨rfl, hb1⟩
            have HB4 := Lib.hid (hB.out.trans (hb1.mono hB.out.size))
            clear hb1 c0
            go_wp2_with fail
            go_ret
            exact ⟨ret_bool (by rw [HC.out, all_no HM.out HX.out]), HB4.out⟩
          | true =>
            have HX : Hid (checkB xl n = xl.all (thereB n)) := by show _ = _; rw [check_there (by omega) xl, hm]; rfl
            have HY := Lib.hid hm
            clear hm
            go_wp2_with fail
            refine (prog_yes HAt.out.2.2 HSm.out.2 HY.out).mono ?_
            rintro e w1 ⟨rfl, hb1⟩
            have HB4 := Lib.hid (hB.out.trans (hb1.mono hB.out.size))
            clear hb1 c0
            go_wp2_with fail
            go_loopw [4] (fun j wv => ∃ q : Nat, q ≤ xn ∧ j = .int .i64 q ∧ Hid (Below w.heap.size w wv) ∧ Hid ((xl.take q).all (thereB n) = true)) (fun j _ => xn - (intOf j).toNat)
            case atStart => exact ⟨0, by omega, rfl, HB4.out, rfl⟩
            case round =>
              obtain ⟨q, hq, rfl, hBv, hAv⟩ := hrel
              clear HB4
              have c0 : wr.cell? ⟨bb, off + k, none⟩ = some (.slice xA xn xc) := (cell_blk (hBv.out.block bb hbw) _).trans c0w.out
              have hbwr : bb < wr.heap.size := Nat.lt_of_lt_of_le hbw hBv.out.size
              by_cases hqx : q < xn
              · obtain ⟨b2, o2, rfl, hb2, hc2⟩ := HAw.out.2.2.cells (by show 0 < xn; omega)
                have hql : q < xl.length := by rw [show xl.length = xn from HAw.out.2.2.1]; exact hqx
                obtain ⟨d0, d1, d2, d3, d4, d5⟩ := hc2 q (xl[q]'hql) (List.getElem?_eq_getElem hql)
                have htq : xl.take (q + 1) = xl.take q ++ [xl[q]'hql] := List.take_succ_eq_append_getElem hql
                have HMq : Hid (xl[q]'hql ∈ xl) := List.getElem_mem hql
                have hb2w : b2 < wr.heap.size := Nat.lt_of_lt_of_le hb2 hBv.out.size
                rw [← cell_blk (hBv.out.block b2 hb2)] at d0 d1 d2 d3 d4 d5
                generalize xl[q]'hql = y at *
                obtain ⟨op, a, b, c, yA, yn, yc, yd, ys⟩ := y
                simp only at d0 d1 d2 d3 d4 d5
                have HTQ := Lib.hid htq
                have HB5 : Hid (Below w.heap.size w (wr.alloc (.cells #[.int .i64 op, .int .i64 a, .int .i64 b, .int .i64 c, .slice yA yn yc, .bool yd] 36))) := hBv.out.trans ((below_al wr _).mono hBv.out.size)
                have HNo : Hid (thereB n ⟨op, a, b, c, yA, yn, yc, yd, ys⟩ = false → allB l = false) := fun h => by
                  rw [HC.out]
                  exact all_no HM.out (by show checkB xl n = false; rw [HX.out]; exact all_no HMq.out h)
                clear htq hc2 hql
                by_cases e8 : op = 8
                · subst e8
                  by_cases hbn : b < n
                  · have HT : Hid (thereB n ⟨8, a, b, c, yA, yn, yc, yd, ys⟩ = true) := by show _ = _; rw [there_8]; exact decide_eq_true hbn
                    go_wp2_with fail
                    go_roundw
                    case rel => exact ⟨q + 1, by omega, by go_num, HB5.out, all_next HTQ.out hAv.out HT.out⟩
                    case measure => simp [intOf]; omega
                  · have HT : Hid (thereB n ⟨8, a, b, c, yA, yn, yc, yd, ys⟩ = false) := by show _ = _; rw [there_8]; exact decide_eq_false hbn
                    go_wp2_with fail
                    go_ret
                    exact ⟨ret_bool (HNo.out HT.out).symm, HB5.out⟩
                · have g8 : (op == 8) = false := by simpa using e8
                  by_cases e19 : op = 19
                  · subst e19
                    by_cases hcn : c < n
                    · have HT : Hid (thereB n ⟨19, a, b, c, yA, yn, yc, yd, ys⟩ = true) := by show _ = _; rw [there_c (.inl rfl)]; exact decide_eq_true hcn
                      go_wp2_with fail
                      go_roundw
                      case rel => exact ⟨q + 1, by omega, by go_num, HB5.out, all_next HTQ.out hAv.out HT.out⟩
                      case measure => simp [intOf]; omega
                    · have HT : Hid (thereB n ⟨19, a, b, c, yA, yn, yc, yd, ys⟩ = false) := by show _ = _; rw [there_c (.inl rfl)]; exact decide_eq_false hcn
                      go_wp2_with fail
                      go_ret
                      exact ⟨ret_bool (HNo.out HT.out).symm, HB5.out⟩
                  · have g19 : (op == 19) = false := by simpa using e19
                    by_cases e31 : op = 31
                    · subst e31
                      by_cases hcn : c < n
                      · have HT : Hid (thereB n ⟨31, a, b, c, yA, yn, yc, yd, ys⟩ = true) := by show _ = _; rw [there_c (.inr rfl)]; exact decide_eq_true hcn
                        go_wp2_with fail
                        go_roundw
                        case rel => exact ⟨q + 1, by omega, by go_num, HB5.out, all_next HTQ.out hAv.out HT.out⟩
                        case measure => simp [intOf]; omega
                      · have HT : Hid (thereB n ⟨31, a, b, c, yA, yn, yc, yd, ys⟩ = false) := by show _ = _; rw [there_c (.inr rfl)]; exact decide_eq_false hcn
                        go_wp2_with fail
                        go_ret
                        exact ⟨ret_bool (HNo.out HT.out).symm, HB5.out⟩
                    · have g31 : (op == 31) = false := by simpa using e31
                      have HT : Hid (thereB n ⟨op, a, b, c, yA, yn, yc, yd, ys⟩ = true) := there_o e8 e19 e31
                      clear e8 e19 e31
                      go_wp2_with fail
                      go_roundw
                      case rel => exact ⟨q + 1, by omega, by go_num, HB5.out, all_next HTQ.out hAv.out HT.out⟩
                      case measure => simp [intOf]; omega
              · obtain rfl : q = xn := by omega
                have HZ : Hid (checkB xl n = true) := by
                  show _ = _
                  have h := hAv.out
                  rw [List.take_of_length_le (by rw [show xl.length = q from HAw.out.2.2.1]; exact Nat.le_refl _)] at h
                  rw [HX.out, h]
                go_wp2_with fail
                go_roundw
                case rel => exact ⟨k + 1, by omega, by go_num, hBv.out, all_next HTK.out hA.out HZ.out⟩
                case measure => simp [intOf]; omega
        · obtain rfl : k = n := by omega
          go_wp2
          go_ret
          exact ⟨ret_bool (by have h := hA.out; rw [List.take_of_length_le (by rw [hR.out.1]; omega)] at h; rw [HC.out, h]), hB.out⟩
end Go.Proofs.YtifmamobhkgmfaaDoor
