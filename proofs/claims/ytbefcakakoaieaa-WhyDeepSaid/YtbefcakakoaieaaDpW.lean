/- WhyDeep returns true, whatever the slice. No condition. -/
import Derived.Test.YtbefcakakoaieaaDpn
import Derived.Test.YtbefcakakoaieaaIsW
namespace Go.Proofs.Ytbefcakakoaieaa
open Go.RowKit Go.Extern.Stop Go.Stop Go.Extern
set_option linter.unusedVariables false
set_option maxRecDepth 100000

theorem has_any (A : Option Addr) (n c : Nat) (l : List Int) (x : Int) (W : World) (h : Rn W A n l) (hn : n ≤ 20) :
    Calls Try.prog 22 #[.slice A n c, .int .i64 x] W (BoolPost (l.any (· == x)) W) := by
  have hn1 : (n : Int) ≤ 20 := by omega
  have HR := Lib.hid h
  have HL := Lib.hid h.1
  clear h
  go_enter Try.func22, Try.ntmps22
  go_wp2_with fail
  go_loopw [5] (fun i wr => ∃ k : Nat, k ≤ n ∧ i = .int .i64 k ∧ wr = W ∧ Hid (l.any (· == x) = (l.drop k).any (· == x))) (fun i _ => n - (intOf i).toNat)
  case atStart => exact ⟨0, by omega, rfl, rfl, rfl⟩
  case round =>
    obtain ⟨k, hk, rfl, rfl, hA⟩ := hrel
    by_cases hlt : k < n
    · obtain ⟨b, o, y, rfl, hb, hy, hc⟩ := HR.out.cell (Below.refl _ _) hlt
      have hd : l.drop k = y :: l.drop (k + 1) := by
        obtain ⟨h1, h2⟩ := List.getElem?_eq_some_iff.1 hy
        rw [List.drop_eq_getElem_cons h1, h2]
      have HA : Hid (l.any (· == x) = ((y == x) || (l.drop (k + 1)).any (· == x))) := by show _ = _; rw [hA.out, hd, List.any_cons]
      clear hd hy
      by_cases hyx : y = x
      · have g : (y == x) = true := by rw [beq_iff_eq]; exact hyx
        rw [g] at HA
        have hr : l.any (· == x) = true := by rw [HA.out]; rfl
        have hr2 := Lib.hid hr
        clear hyx hr
        go_wp2_with fail
        go_ret
        exact ⟨ret_bool hr2.out.symm, Below.refl _ _⟩
      · have g : (y == x) = false := by rw [beq_eq_false_iff_ne]; exact hyx
        rw [g] at HA
        clear hyx
        go_wp2_with fail
        go_roundw
        case rel => exact ⟨k + 1, by omega, by go_num, trivial, by show _ = _; rw [HA.out]; rfl⟩
        case measure => simp [intOf]; omega
    · obtain rfl : k = n := by omega
      have hr : l.any (· == x) = false := by rw [hA.out, List.drop_of_length_le (by rw [HL.out]; omega)]; rfl
      have hr2 := Lib.hid hr
      clear hr
      go_wp2_with fail
      go_ret
      exact ⟨ret_bool hr2.out.symm, Below.refl _ _⟩

theorem cell_blk0 {W w : World} {b o : Nat} {v : Value} (h : W.cell? ⟨b, o, none⟩ = some v) (hb : b < W.heap.size) (hB : Below W.heap.size W w) : w.cell? ⟨b, o, none⟩ = some v := (cell_blk (hB.block b hb) _).trans h

theorem Rn.at {W w : World} {b o n k : Nat} {l : List Int} {z : Int} (h : Rn W (some ⟨b, o, none⟩) n l) (hz : l[k]? = some z) (hb : Below W.heap.size W w) (hk : k < n) : w.cell? ⟨b, o + k, none⟩ = some (.int .i64 z) := by
  obtain ⟨b', o', z', e1, e2, e3, e4⟩ := h.cell hb hk
  obtain ⟨rfl, rfl⟩ : b = b' ∧ o = o' := by simpa using e1
  rw [hz] at e3
  rw [e4, Option.some.inj e3]
theorem deep_long (A : Option Addr) (n c : Nat) (W : World) (hn : 20 < n) : Calls Try.prog 6 #[.slice A n c] W (BoolPost true W) := by
  have hn1 : (20 : Int) < n := by omega
  have HA := Lib.hid (awake_any W)
  go_enter Try.func6, Try.ntmps6
  go_wp2_with fail
  refine HA.out.mono ?_
  rintro e w ⟨rfl, hb⟩
  have HB := Lib.hid hb
  clear hb
  go_wp2_with fail
  go_ret
  exact ⟨rfl, HB.out⟩

set_option maxHeartbeats 8000000 in
theorem deep_walk (A : Option Addr) (n c : Nat) (zs : List Int) (W : World) (hr : Rn W A n zs) : Calls Try.prog 6 #[.slice A n c] W (BoolPost true W) := by
  by_cases hn : 20 < n
  · exact deep_long A n c W hn
  have hn1 : ¬ (20 : Int) < n := by omega
  obtain ⟨i0, hi, hz0, hz1, hz2⟩ := info_parts Try.info29
  have HR := Lib.hid hr
  have HL := Lib.hid hr.1
  clear hr
  go_enter Try.func6, Try.ntmps6
  go_wp2_with fail
  go_loopw [3, 4, 5] (fun kv mv i wr => ∃ (k : Nat) (M : Int) (xs : List Value), k ≤ n ∧ i = .int .i64 k ∧ mv = .int .i64 M ∧ 0 ≤ M ∧ M ≤ 1000 ∧ Hid (M = mostL (zs.take k)) ∧ Hid (DS W wr kv k xs (wF (zs.take k))) ∧ Hid (∀ z ∈ zs.take k, 0 < z)) (fun _ _ i _ => n - (intOf i).toNat)
  case atStart => exact ⟨0, 0, [], by omega, rfl, rfl, by omega, by omega, rfl, DS.start W, by intro z hz; simp at hz⟩
  case round =>
    obtain ⟨k, M, xs, hk, rfl, rfl, hM0, hM1, hM, hD, hP⟩ := hrel
    by_cases hlt : k < n
    · obtain ⟨b, o, z, rfl, hb, hz, hc⟩ := HR.out.cell hD.out.bel hlt
      have htk : zs.take (k + 1) = zs.take k ++ [z] := by
        obtain ⟨h1, h2⟩ := List.getElem?_eq_some_iff.1 hz
        rw [List.take_succ_eq_append_getElem h1, h2]
      have HTK := Lib.hid htk
      have hzk := Lib.hid hz
      clear htk hz
      by_cases hzl : z < 1
      · have HC := Lib.hid (awake_any wr)
        go_wp2_with fail
        refine HC.out.mono ?_
        rintro e w ⟨rfl, hb'⟩
        have HB := Lib.hid (hD.out.bel.trans (hb'.mono hD.out.bel.size))
        clear hb'
        go_wp2_with fail
        go_ret
        exact ⟨rfl, HB.out⟩
      · have hzp : 0 < z := by omega
        have hbs : b < wr.heap.size := Nat.lt_of_lt_of_le hb hD.out.bel.size
        have HM := Lib.hid (make_code z hzp wr)
        go_wp2_with fail
        refine HM.out.mono ?_
        rintro e w1 ⟨rfl, hb1⟩
        have HW := Lib.hid (wrap_code wB z hzp (may_w z hzp) w1)
        have HB1 := Lib.hid hb1
        clear hb1
        go_wp2_with fail
        refine HW.out.mono ?_
        rintro e w2 ⟨hb2, g, rfl, hv⟩
        have HB2 := Lib.hid (HB1.out.trans (hb2.mono HB1.out.size))
        have HV : Hid (EIs w2 (Btw wr.heap.size w2.heap.size) 0 wB (codeE z).fo (.iface 63 (.pointer (some ⟨g, 0, none⟩)))) := hv.agr (fun _ _ => rfl) (fun x hx => ⟨Nat.le_trans HB1.out.size hx.1, hx.2⟩)
        have HO := Lib.hid (owns_below (owns_below hD.out.own HB2.out) (below_al w2 (.cells #[.iface 63 (.pointer (some ⟨g, 0, none⟩))] 29)))
        have hsz := hD.out.bel.size
        have hsz2 := HB2.out.size
        have hc0 : w2.cell? ⟨b, o + k, none⟩ = some (.int .i64 z) := (cell_blk (HB2.out.block b hbs) _).trans hc
        clear hb2 hv hc
        by_cases hzt : z ≤ 1000
        all_goals
          go_wp2_with (at_builtin; go_loud (refine wpList_append_lies _ rfl (.tmp 23) (.tmp 31) 45 rfl W.heap.size 29 i0 .nilIface 1 16 Try.underlying45 hi hz0 hz1 hz2 rfl (by decide) _ k xs rfl HO.out ⟨w2.heap.size, 0, none⟩ 1 1 [.iface 63 (.pointer (some ⟨g, 0, none⟩))] rfl rfl (cell_one_new _ _ _) (by intro y hy; simp at hy; subst hy; rfl) (by omega) (by unfold maxLen; omega) (by omega) (by simp; omega) (w2.heap.size + 1) (by simp) ?_; intro g3 cap3 w3 hown hgrow hat hlt3; have HD := Lib.hid (hD.out.app HB2.out HV.out hown hgrow hat (by omega)); have hc1 := HR.out.at hzk.out HD.out.bel hlt; clear hown hgrow hat hlt3 HO hD))
          go_roundw
          case rel =>
            refine ⟨k + 1, _, _, by omega, by go_num, rfl, ?_, ?_, ?_, by rw [HTK.out, wF_app]; exact HD, ?_⟩
            · omega
            · omega
            · show _ = _
              rw [HTK.out, mostL_snoc, ← hM.out]
              first
                | rw [if_pos (by omega)]
                | rw [if_neg (by omega)]
            · rw [HTK.out]
              intro y hy
              rcases List.mem_append.1 hy with h | h
              · exact hP.out y h
              · have : y = z := by simpa using h
                omega
          case measure => simp [intOf]; omega
    · obtain rfl : k = n := by omega
      have htk : zs.take k = zs := List.take_of_length_le (by rw [HL.out]; omega)
      rw [htk] at hM hD hP
      obtain rfl := hM.out
      have HJ := Lib.hid (join_row hD.out HL.out (by omega) hP.out)
      have HBw := Lib.hid hD.out.bel
      clear htk hD
      generalize hMM : mostL zs = M at *
      have hdp : deepO (sumE zs) = M := by rw [deep_sum zs hP.out]; exact hMM
      have HDP := Lib.hid hdp
      have hhm : 0 < M → hasO M (sumE zs) = true := fun h0 => by
        rw [has_sum _ _ hP.out, List.any_eq_true]
        exact ⟨M, by rw [← hMM]; exact (mostL_facts zs hP.out).2.2.1 (by rw [hMM]; exact h0), by simp⟩
      have HHM := Lib.hid hhm
      have HH2 : Hid (hasO 2 (sumE zs) = zs.any (· == 2)) := has_sum _ _ hP.out
      generalize hbb : zs.any (· == 2) = bb at *
      have HBB := Lib.hid hbb
      clear hdp hhm hbb hMM hM
      go_wp2_with fail
      refine HJ.out.mono ?_
      rintro e w1 ⟨hb, v, rfl, hv⟩
      have HB := Lib.hid (HBw.out.trans (hb.mono HBw.out.size))
      have HV := Lib.hid hv
      clear hb hv HJ HBw
      by_cases hm0 : M = 0
      · have HZ : M = 0 := hm0
        clear hm0
        subst HZ
        cases bb
        all_goals
          go_wp2_with fail
          have H := deepest_o _ v w1 HV.out
          rw [HDP.out] at H
          refine H.mono ?_
          rintro e w2 ⟨rfl, hb⟩
          have HC := Lib.hid (HB.out.trans (hb.mono HB.out.size))
          have HW := Lib.hid (HV.out.later hb)
          clear hb H HB HV
          have HB := HC
          have HV := HW
          clear HC HW
          go_wp2_with fail
          have H := is_o 2 _ v w2 HV.out
          rw [HH2.out] at H
          refine H.mono ?_
          rintro e w3 ⟨rfl, hb⟩
          have HC := Lib.hid (HB.out.trans (hb.mono HB.out.size))
          have HW := Lib.hid (HV.out.later hb)
          clear hb H HB HV
          have HB := HC
          have HV := HW
          clear HC HW
          go_wp2_with fail
          have H := has_any A k c zs 2 w3 (HR.out.later HB.out) (by omega)
          rw [HBB.out] at H
          refine H.mono ?_
          rintro e w4 ⟨rfl, hb⟩
          have HC := Lib.hid (HB.out.trans (hb.mono HB.out.size))
          have HW := Lib.hid (HV.out.later hb)
          clear hb H HB HV
          have HB := HC
          have HV := HW
          clear HC HW
          go_wp2_with fail
          have H := timeout_o _ v w4 HV.out
          rw [HH2.out] at H
          refine H.mono ?_
          rintro e w5 ⟨rfl, hb⟩
          have HC := Lib.hid (HB.out.trans (hb.mono HB.out.size))
          have HW := Lib.hid (HV.out.later hb)
          clear hb H HB HV
          have HB := HC
          have HV := HW
          clear HC HW
          go_wp2_with fail
          have H := has_any A k c zs 2 w5 (HR.out.later HB.out) (by omega)
          rw [HBB.out] at H
          refine H.mono ?_
          rintro e w6 ⟨rfl, hb⟩
          have HC := Lib.hid (HB.out.trans (hb.mono HB.out.size))
          have HW := Lib.hid (HV.out.later hb)
          clear hb H HB HV
          have HB := HC
          have HV := HW
          clear HC HW
          go_wp2_with fail
          have H := awake_any w6
          refine H.mono ?_
          rintro e w7 ⟨rfl, hb⟩
          have HC := Lib.hid (HB.out.trans (hb.mono HB.out.size))
          have HW := Lib.hid (HV.out.later hb)
          clear hb H HB HV
          have HB := HC
          have HV := HW
          clear HC HW
          go_wp2_with fail
          go_ret
          exact ⟨rfl, HB.out⟩
      · have h0 : 0 < M := by omega
        clear hm0
        cases bb
        all_goals
          go_wp2_with fail
          have H := deepest_o _ v w1 HV.out
          rw [HDP.out] at H
          refine H.mono ?_
          rintro e w2 ⟨rfl, hb⟩
          have HC := Lib.hid (HB.out.trans (hb.mono HB.out.size))
          have HW := Lib.hid (HV.out.later hb)
          clear hb H HB HV
          have HB := HC
          have HV := HW
          clear HC HW
          go_wp2_with fail
          have H := is_o M _ v w2 HV.out
          rw [HHM.out h0] at H
          refine H.mono ?_
          rintro e w3 ⟨rfl, hb⟩
          have HC := Lib.hid (HB.out.trans (hb.mono HB.out.size))
          have HW := Lib.hid (HV.out.later hb)
          clear hb H HB HV
          have HB := HC
          have HV := HW
          clear HC HW
          go_wp2_with fail
          have H := is_o 2 _ v w3 HV.out
          rw [HH2.out] at H
          refine H.mono ?_
          rintro e w4 ⟨rfl, hb⟩
          have HC := Lib.hid (HB.out.trans (hb.mono HB.out.size))
          have HW := Lib.hid (HV.out.later hb)
          clear hb H HB HV
          have HB := HC
          have HV := HW
          clear HC HW
          go_wp2_with fail
          have H := has_any A k c zs 2 w4 (HR.out.later HB.out) (by omega)
          rw [HBB.out] at H
          refine H.mono ?_
          rintro e w5 ⟨rfl, hb⟩
          have HC := Lib.hid (HB.out.trans (hb.mono HB.out.size))
          have HW := Lib.hid (HV.out.later hb)
          clear hb H HB HV
          have HB := HC
          have HV := HW
          clear HC HW
          go_wp2_with fail
          have H := timeout_o _ v w5 HV.out
          rw [HH2.out] at H
          refine H.mono ?_
          rintro e w6 ⟨rfl, hb⟩
          have HC := Lib.hid (HB.out.trans (hb.mono HB.out.size))
          have HW := Lib.hid (HV.out.later hb)
          clear hb H HB HV
          have HB := HC
          have HV := HW
          clear HC HW
          go_wp2_with fail
          have H := has_any A k c zs 2 w6 (HR.out.later HB.out) (by omega)
          rw [HBB.out] at H
          refine H.mono ?_
          rintro e w7 ⟨rfl, hb⟩
          have HC := Lib.hid (HB.out.trans (hb.mono HB.out.size))
          have HW := Lib.hid (HV.out.later hb)
          clear hb H HB HV
          have HB := HC
          have HV := HW
          clear HC HW
          go_wp2_with fail
          have H := awake_any w7
          refine H.mono ?_
          rintro e w8 ⟨rfl, hb⟩
          have HC := Lib.hid (HB.out.trans (hb.mono HB.out.size))
          have HW := Lib.hid (HV.out.later hb)
          clear hb H HB HV
          have HB := HC
          have HV := HW
          clear HC HW
          go_wp2_with fail
          go_ret
          exact ⟨rfl, HB.out⟩
#print axioms deep_walk
end Go.Proofs.Ytbefcakakoaieaa
