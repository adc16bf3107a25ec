/- The walk of the law on what is wrapped and put together. Condition: the variable errors.errorType reads as its program lays it. -/
import Derived.Test.YtbdicgnmaonjgaaDoorWrc
namespace Go.Proofs.YtbdicgnmaonjgaaDoor
open Go.RowKit Go.Extern.Stop Go.Stop Go.Extern
set_option linter.unusedVariables false

set_option maxRecDepth 100000 in
set_option maxHeartbeats 2000000 in
theorem wraps_loop (op : ByteArray) (ys : List Int) (W : World) (a : Option Addr) (b off n cap : Nat) (ha : Hid (0 < n → a = some ⟨b, off, none⟩)) (hys : Hid (ys.length = n)) (hn2 : n ≤ 15) (hcap : n ≤ cap) (ho2 : op.size ≤ 50) (hb : Hid (0 < n → b < W.heap.size))
    (hc : Hid (∀ i z, ys[i]? = some z → W.cell? ⟨b, off + i, none⟩ = some (.int .i64 z))) (hE : Hid (ETy W)) :
    Calls Tryd.prog 3 #[.slice a n cap, .string op] W (BoolPost true W) := by
  obtain ⟨i0, hi, hz0, hz1, hz2⟩ := info_parts Tryd.info27
  obtain ⟨i9, hi9, hz90, hz91, hz92⟩ := info_parts Tryd.info29
  go_enter Tryd.func3, Tryd.ntmps3
  go_wp2_with fail
  go_loopw [5, 7] (fun av i wr => ∃ (k m : Nat) (kv : Value) (es : List Value) (ps : List Int), k ≤ n ∧ m ≤ k ∧ i = .int .i64 k ∧ Hid (k = 0 → av = .slice none 0 0) ∧ Hid (es = eL (ys.take k) ∧ ps = pL (ys.take k) ∧ m = ps.length) ∧ Hid (WSt W wr W.heap.size av kv k es m ps)) (fun _ i _ => n - (intOf i).toNat)
  case atStart =>
    exact ⟨0, 0, .slice none 0 0, [], [], by omega, by omega, rfl, fun _ => rfl, ⟨rfl, rfl, rfl⟩, below_al _ _, ⟨_, _, heap_alloc_new W _, by simp⟩, by simp, by simp [allB], by simp, World.ownsRow_nil _ _ _ _, World.ownsRow_nil _ _ _ _⟩
  case round =>
    obtain ⟨k, m, kv, es, ps, hk, hmk, rfl, hZ, hL, hS⟩ := hrel
    have hN := hS.out.2.1.lt
    by_cases hlt : k < n
    · obtain rfl := ha.out (by omega)
      have hbW := hb.out (by omega)
      have hky : k < ys.length := by rw [hys.out]; exact hlt
      have hcell := hc.out k (ys[k]'hky) (List.getElem?_eq_getElem hky)
      have hyk : Hid (ys[k]? = some (ys[k]'hky)) := List.getElem?_eq_getElem hky
      have htk : ys.take (k + 1) = ys.take k ++ [ys[k]'hky] := List.take_succ_eq_append_getElem hky
      have hcw : wr.cell? ⟨b, off + k, none⟩ = some (.int .i64 (ys[k]'hky)) := (cell_blk (hS.out.1.block b hbW) _).trans hcell
      generalize ys[k]'hky = z at *
      have HTK := Lib.hid htk
      clear htk hcell hky
      by_cases hz : 0 < z
      · have hMC := Lib.hid (make_code z hz wr)
        go_wp2_with fail
        refine hMC.out.mono ?_
        rintro e w1 ⟨rfl, hb1⟩
        have hS1 := Lib.hid (hS.out.below hb1)
        have hcw1 : w1.cell? ⟨b, off + k, none⟩ = some (.int .i64 z) := (cell_blk (hb1.block b (by omega)) _).trans hcw
        have hfr := hS1.out.2.1.frz 2
        have c2 := hS1.out.2.2.2.2.1
        have hN1 := hS1.out.2.1.lt
        have hown := hS1.out.2.2.2.2.2.2
        obtain ⟨kp, kc, rfl, hkc, _⟩ := own_slice3 hown
        have hbF : ¬ b = W.heap.size := by omega
        clear hb1 hcw hS
        go_wp2_with fail
        go_region_law (refine step_append_lies _ (by rfl) _ _ _ (by rfl) (W.heap.size + 1) 27 i0 (.agg #[.int .i64 0, .string ⟨#[]⟩, .slice none 0 0]) 3 48 Tryd.underlying25 hi hz0 hz1 hz2 rfl (by omega) (.slice kp m kc) m (cL ps) (by rfl) ((hown.alloc _).drew) ⟨w1.heap.size, 0, none⟩ 1 1 [.int .i64 z, .string ⟨#[]⟩, .slice none 0 0] (by rfl) (by rfl) (World.news_of_block (cs := #[.int .i64 z, .string ⟨#[]⟩, .slice none 0 0]) (t := 27) (fr := (0, 0)) (heap_alloc_new w1 _)) (by intro u hu; simp at hu; rcases hu with rfl | rfl | rfl <;> rfl) (by omega) (by unfold maxLen; omega) (by omega) (by simp; omega) (w1.heap.size + 1) (by simp) ?_; intro gg gc w2 hown2 hgrow2 _ _; have hown3 : w2.ownsRow (W.heap.size + 1) 27 3 (.slice (some ⟨gg, 0, none⟩) (m + 1) gc) (m + 1) (cL (ps ++ [z])) := (by rw [cL_app]; exact hown2); have hKV := hS1.out.kv (kv' := .slice (some ⟨gg, 0, none⟩) (m + 1) gc) (m' := m + 1) (ps' := ps ++ [z]) hgrow2 hown3; have eN := hKV.1; have r2 := (cell_blk eN 2).trans c2; have rz := (hS1.out.2.1.eq eN).frz 2; have HKV := Lib.hid hKV.2; clear hown2 hgrow2 hown3 hKV eN)
        all_goals
          have hA := HKV.out.2.2.2.2.2.1
          have hN4 : W.heap.size < w2.heap.size := by have h9 := HKV.out.2.1.lt; simpa using h9
          go_wp2_with (at_builtin; go_loud (refine wpList_append_own _ rfl _ _ 24 rfl (W.heap.size + 1) 29 i9 .nilIface 1 16 Tryd.underlying24 hi9 hz90 hz91 hz92 rfl (by decide) _ _ _ rfl (hA.alloc _) ⟨w2.heap.size, 0, none⟩ 1 1 [.iface 40 (.agg #[.int .i64 z])] rfl rfl (cell_one_at _ _ _ _ (by simp)) (by intro y hy; simp at hy; subst hy; rfl) (by unfold maxLen; omega) (by omega) (by simp; omega) ?_; intro av2 w4 hown4 hgrow4 _; have HS4 := Lib.hid (HKV.out.av hgrow4 hown4); clear hown4 hgrow4 hA))
          go_roundw
          case rel =>
            refine ⟨k + 1, m + 1, .slice (some ⟨gg, 0, none⟩) (m + 1) gc, es ++ [.iface 40 (.agg #[.int .i64 z])], ps ++ [z], by omega, by omega, by go_num, fun h => absurd h (by omega), ⟨?_, ?_, ?_⟩, HS4⟩
            · rw [HTK.out, eL_snoc, if_pos hz, ← hL.out.1]
            · rw [HTK.out, pL_snoc, if_pos hz, ← hL.out.2.1]
            · rw [List.length_append, ← hL.out.2.2]; rfl
          case measure => simp [intOf]; omega
      · have hA := hS.out.2.2.2.2.2.1
        go_wp2_with (at_builtin; go_loud (refine wpList_append_own _ rfl _ _ 24 rfl (W.heap.size + 1) 29 i9 .nilIface 1 16 Tryd.underlying24 hi9 hz90 hz91 hz92 rfl (by decide) _ _ _ rfl (hA.alloc _) ⟨wr.heap.size, 0, none⟩ 1 1 [.nilIface] rfl rfl (cell_one_at _ _ _ _ (by simp)) (by intro y hy; simp at hy; subst hy; rfl) (by unfold maxLen; omega) (by omega) (by simp; omega) ?_; intro av2 w4 hown4 hgrow4 _; have HS4 := Lib.hid (hS.out.av hgrow4 hown4); clear hown4 hgrow4 hA))
        go_roundw
        case rel =>
          refine ⟨k + 1, m, kv, es ++ [.nilIface], ps, by omega, by omega, by go_num, fun h => absurd h (by omega), ⟨?_, ?_, hL.out.2.2⟩, HS4⟩
          · rw [HTK.out, eL_snoc, if_neg hz, ← hL.out.1]
          · rw [HTK.out, pL_snoc, if_neg hz, List.append_nil, ← hL.out.2.1]
        case measure => simp [intOf]; omega
    · obtain rfl : k = n := by omega
      have htk : ys.take k = ys := by rw [← hys.out, List.take_length]
      have HL : Hid (es = eL ys ∧ ps = pL ys ∧ m = ps.length) := by have h9 := hL.out; rw [htk] at h9; exact h9
      clear htk hL
      have HJ := Lib.hid (wraps_join ys W wr _ u5 kv k es m ps hS.out HL.out.1 hys.out hn2 hZ.out)
      obtain ⟨kp, kc, rfl, hk9⟩ := hS.out.kat HL.out.2.2.symm (by omega)
      have HK := Lib.hid hk9; clear hk9
      have HB0 := Lib.hid hS.out.1
      have HO0 := Lib.hid hS.out.2.1
      have c0 := Lib.hid hS.out.2.2.1
      have c1 := Lib.hid hS.out.2.2.2.1
      have c2 := Lib.hid hS.out.2.2.2.2.1
      clear hS
      by_cases hm : m = 0
      · have hps : pL ys = [] := by rw [← HL.out.2.1]; exact List.length_eq_zero_iff.1 (by have := HL.out.2.2; omega)
        have HJ1 := Lib.hid (HJ.out.1 hps)
        clear hps HJ
        subst hm
        go_wp2_with fail
        refine HJ1.out.mono ?_
        rintro e w1 ⟨rfl, hb1⟩
        have HB1 := Lib.hid hb1
        clear hb1
        have HW1 := Lib.hid (wraps_nil op w1)
        go_wp2_with fail
        refine HW1.out.mono ?_
        rintro e w2 ⟨rfl, hb2⟩
        have HB2 := Lib.hid (HB1.out.trans (hb2.mono HB1.out.size))
        clear hb2
        have r2 : w2.cell? ⟨W.heap.size, 2, none⟩ = some (.slice kp 0 kc) := (cell_blk (HB2.out.block _ hN) _).trans c2.out
        have HE2 := Lib.hid ((hE.out.below HB0.out).below HB2.out)
        have HC := Lib.hid (awake_any w2 HE2.out)
        go_wp2_with fail
        refine HC.out.mono ?_
        rintro e w3 ⟨rfl, hb3⟩
        have HB3 := Lib.hid (HB0.out.trans ((HB2.out.trans (hb3.mono HB2.out.size)).mono HB0.out.size))
        clear hb3
        go_wp2_with fail
        go_ret
        exact ⟨rfl, HB3.out⟩
      · have hps : ps = pL ys := HL.out.2.1
        have hne : pL ys ≠ [] := by rw [← hps]; intro h9; rw [h9] at HL; exact hm HL.out.2.2
        have HJ1 := HJ.out.2 hne
        rw [← hps] at HJ1 hne
        have HP : Hid (∀ z ∈ ps, 0 < z) := by rw [hps]; exact pL_pos ys
        have HL8 : Hid (ps.length ≤ 48) := by have := HL.out.2.2; show _ ≤ _; omega
        have HM : Hid (ps.length = m) := HL.out.2.2.symm
        have HMem : Hid (∀ (i : Nat) z, ys[i]? = some z → 0 < z → z ∈ ps) := by
          intro i z hi9 hz9; rw [hps]; exact List.mem_filter.2 ⟨List.mem_of_getElem? hi9, by simpa using hz9⟩
        have HNe := Lib.hid hne
        have HJ2 := Lib.hid HJ1
        clear hps HJ HJ1 hne HL hi hz0 hz1 hz2 hi9 hz90 hz91 hz92 HO0
        go_wp2_with fail
        refine HJ2.out.mono ?_
        rintro e w1 ⟨hb1, g, rfl, hE1⟩
        have HB1 := Lib.hid hb1
        have HE1 := Lib.hid hE1
        clear hb1 hE1 HJ2
        by_cases ho : op.size = 0
        · have HW1 := Lib.hid (wraps_no op ps HL8.out ho w1 _ HE1.out)
          have ho3 := str_empty ho
          subst ho3
          go_wp2_with fail
          refine HW1.out.mono ?_
          rintro e w2 ⟨rfl, hb2⟩
          have HB2 := Lib.hid (HB1.out.trans (hb2.mono HB1.out.size))
          have HE2 := Lib.hid (HE1.out.later hb2)
          clear hb2 HE1 HW1
          have r2 : w2.cell? ⟨W.heap.size, 2, none⟩ = some (.slice kp m kc) := (cell_blk (HB2.out.block _ hN) _).trans c2.out
          have HS2 := Lib.hid (wraps_sh1m ps m HM.out HNe.out HP.out HL8.out w2 _ HE2.out)
          go_wp2_with fail
          refine HS2.out.mono ?_
          rintro e w3 ⟨hb3, p3, cp3, rfl, hk3⟩
          have HB3 := Lib.hid (HB2.out.trans (hb3.mono HB2.out.size))
          clear r2 hb3 HS2 HE2
          have hN3 : W.heap.size < w3.heap.size := Nat.lt_of_lt_of_le hN HB3.out.size
          have r0 : w3.cell? ⟨W.heap.size, 0, none⟩ = some (.int .i64 0) := (cell_blk (HB3.out.block _ hN) _).trans c0.out
          have r1 : w3.cell? ⟨W.heap.size, 1, none⟩ = some (.string allB) := (cell_blk (HB3.out.block _ hN) _).trans c1.out
          have r2 : w3.cell? ⟨W.heap.size, 2, none⟩ = some (.slice kp m kc) := (cell_blk (HB3.out.block _ hN) _).trans c2.out
          have HSm := Lib.hid (wraps_sam ps m HM.out (w3.alloc (.cells #[.int .i64 0, .string allB, .slice p3 m cp3] 27)) p3 kp cp3 kc (hk3.later (below_al w3 _)) (((HK.out.below HB3.out (Nat.le_refl _)).mono HB3.out.size).below (below_al w3 _) (Nat.le_refl _) |>.mono (by simp)))
          clear hk3
          go_wp2_with fail
          refine HSm.out.mono ?_
          rintro e w4 ⟨rfl, hb4⟩
          have HB4 := Lib.hid (HB3.out.trans (((below_al w3 (.cells #[.int .i64 0, .string allB, .slice p3 m cp3] 27)).trans (hb4.mono (by simp))).mono HB3.out.size))
          have HE4 := Lib.hid ((hE.out.below HB0.out).below HB4.out)
          have HC := Lib.hid (awake_any w4 HE4.out)
          clear hb4 r0 r1 r2
          go_wp2_with fail
          refine HC.out.mono ?_
          rintro e w5 ⟨rfl, hb5⟩
          have HB5 := Lib.hid (HB0.out.trans ((HB4.out.trans (hb5.mono HB4.out.size)).mono HB0.out.size))
          clear hb5
          go_wp2_with fail
          go_ret
          exact ⟨rfl, HB5.out⟩
        · have g1 := str_full ho
          have g2 : op.toList.isEmpty = false := by cases h : op.toList with | nil => exact absurd h g1 | cons a l => rfl
          have HW1 := Lib.hid (wraps_yes op ps ho HNe.out HP.out HL8.out w1 _ HE1.out)
          clear g1
          obtain rfl := ha.out (by omega)
          have hbW := hb.out (by omega)
          go_wp2_with fail
          refine HW1.out.mono ?_
          rintro e w2 ⟨hb2, gw, rfl, hE2⟩
          have HB2 := Lib.hid (HB1.out.trans (hb2.mono HB1.out.size))
          have HE2 := Lib.hid (HE1.out.later hb2)
          have HF2 := Lib.hid hE2
          clear hb2 HE1 HW1 hE2
          have r2 : w2.cell? ⟨W.heap.size, 2, none⟩ = some (.slice kp m kc) := (cell_blk (HB2.out.block _ hN) _).trans c2.out
          have HS2 := Lib.hid (wraps_sh1m ps m HM.out HNe.out HP.out HL8.out w2 _ HE2.out)
          go_wp2_with fail
          refine HS2.out.mono ?_
          rintro e w3 ⟨hb3, p3, cp3, rfl, hk3⟩
          have HB3 := Lib.hid (HB2.out.trans (hb3.mono HB2.out.size))
          have HF3 := Lib.hid (HF2.out.later hb3)
          clear r2 hb3 HS2 HE2 HF2
          have hN3 : W.heap.size < w3.heap.size := Nat.lt_of_lt_of_le hN HB3.out.size
          have r0 : w3.cell? ⟨W.heap.size, 0, none⟩ = some (.int .i64 0) := (cell_blk (HB3.out.block _ hN) _).trans c0.out
          have r1 : w3.cell? ⟨W.heap.size, 1, none⟩ = some (.string allB) := (cell_blk (HB3.out.block _ hN) _).trans c1.out
          have r2 : w3.cell? ⟨W.heap.size, 2, none⟩ = some (.slice kp m kc) := (cell_blk (HB3.out.block _ hN) _).trans c2.out
          have HSm := Lib.hid (wraps_sam ps m HM.out (w3.alloc (.cells #[.int .i64 0, .string allB, .slice p3 m cp3] 27)) p3 kp cp3 kc (hk3.later (below_al w3 _)) (((HK.out.below HB3.out (Nat.le_refl _)).mono HB3.out.size).below (below_al w3 _) (Nat.le_refl _) |>.mono (by simp)))
          clear hk3
          go_wp2_with fail
          refine HSm.out.mono ?_
          rintro e w4 ⟨rfl, hb4⟩
          have hb5 := (below_al w3 (.cells #[.int .i64 0, .string allB, .slice p3 m cp3] 27)).trans (hb4.mono (by simp))
          have HB4 := Lib.hid (HB3.out.trans (hb5.mono HB3.out.size))
          have HF4 := Lib.hid (HF3.out.later hb5)
          clear hb4 hb5 r0 r1 r2 HF3 HSm
          have HS4 := Lib.hid (wraps_sh2m op ps ho HNe.out HP.out HL8.out w4 _ HF4.out)
          go_wp2_with fail
          refine HS4.out.mono ?_
          rintro e w5 ⟨hb5, p5, cp5, rfl, hk5⟩
          have HB5 := Lib.hid (HB4.out.trans (hb5.mono HB4.out.size))
          have HF5 := Lib.hid (HF4.out.later hb5)
          have HK5 := Lib.hid hk5
          clear hb5 HS4 HF4 hk5
          obtain ⟨b2, o2, rfl, hcp5, hb2L, k0, k1, p6, c6, k2c, k3⟩ := kat_one ps m HM.out HK5.out
          have hb2L2 : b2 < w5.heap.size := hb2L.2
          have hb6 := below_al w5 (.cells #[.int .i64 0, .string op, .slice (some ⟨b2, o2, none⟩) 1 cp5] 27)
          have HB6 := Lib.hid (HB5.out.trans (hb6.mono HB5.out.size))
          have HF6 := Lib.hid (HF5.out.later hb6)
          have HK6 := Lib.hid (k3.later hb6)
          have E0 := Lib.hid ((cell_blk (hb6.block b2 hb2L2) _).trans k0)
          have E1 := Lib.hid ((cell_blk (hb6.block b2 hb2L2) _).trans k1)
          have E2 := Lib.hid ((cell_blk (hb6.block b2 hb2L2) _).trans k2c)
          have D1 : Hid ((w5.alloc (.cells #[.int .i64 0, .string op, .slice (some ⟨b2, o2, none⟩) 1 cp5] 27)).cell? ⟨w5.heap.size, 1, none⟩ = some (.string op)) := by show _ = _; simp
          have D2 : Hid ((w5.alloc (.cells #[.int .i64 0, .string op, .slice (some ⟨b2, o2, none⟩) 1 cp5] 27)).cell? ⟨w5.heap.size, 2, none⟩ = some (.slice (some ⟨b2, o2, none⟩) 1 cp5)) := by show _ = _; simp
          have hD : w5.heap.size + 1 = (w5.alloc (.cells #[.int .i64 0, .string op, .slice (some ⟨b2, o2, none⟩) 1 cp5] 27)).heap.size := by simp
          have HD := Lib.hid hD
          have hN5 : W.heap.size < w5.heap.size := Nat.lt_of_lt_of_le hN HB5.out.size
          clear hb6 hb2L k0 k1 k2c k3 HB5 HF5 HK5 hD
          go_wp2_with fail
          go_loopw [15] (fun i wr2 => ∃ (j : Nat), j ≤ k ∧ i = .int .i64 j ∧ Hid (Below (w5.heap.size + 1) (w5.alloc (.cells #[.int .i64 0, .string op, .slice (some ⟨b2, o2, none⟩) 1 cp5] 27)) wr2)) (fun i _ => k - (intOf i).toNat)
          case atStart => exact ⟨0, by omega, rfl, Below.refl _ _⟩
          case round =>
            obtain ⟨j, hj, rfl, hB7⟩ := hrel
            have hs7 := hB7.out.size
            have hl7 := HD.out
            by_cases hjl : j < k
            · have hjy : j < ys.length := by rw [hys.out]; exact hjl
              have hjc := hc.out j (ys[j]'hjy) (List.getElem?_eq_getElem hjy)
              have hjk : Hid (ys[j]? = some (ys[j]'hjy)) := List.getElem?_eq_getElem hjy
              have hcj : wr.cell? ⟨b, off + j, none⟩ = some (.int .i64 (ys[j]'hjy)) := (cell_blk (hB7.out.block b (by omega)) _).trans ((cell_blk (HB6.out.block b (by omega)) _).trans ((cell_blk (HB0.out.block b hbW) _).trans hjc))
              generalize ys[j]'hjy = z at *
              clear hjc hjy
              by_cases hz : 0 < z
              · have HH := Lib.hid (wraps_has op ps ho HNe.out HP.out HL8.out wr _ (HF6.out.later (by have h9 := hB7.out; rw [HD.out] at h9; exact h9)) z hz (HMem.out j z hjk.out hz))
                go_wp2_with fail
                refine HH.out.mono ?_
                rintro e w7 ⟨rfl, hb7⟩
                have HB7 : Hid (Below (w5.heap.size + 1) (w5.alloc (.cells #[.int .i64 0, .string op, .slice (some ⟨b2, o2, none⟩) 1 cp5] 27)) w7) := hB7.out.trans (hb7.mono (by omega))
                clear hb7 hcj
                go_wp2_with fail
                go_roundw
                case rel => exact ⟨j + 1, by omega, by go_num, HB7⟩
                case measure => simp [intOf]; omega
              · go_wp2_with fail
                go_roundw
                case rel => exact ⟨j + 1, by omega, by go_num, hB7⟩
                case measure => simp [intOf]; omega
            · obtain rfl : j = k := by omega
              have HB7 : Hid (Below (w5.alloc (.cells #[.int .i64 0, .string op, .slice (some ⟨b2, o2, none⟩) 1 cp5] 27)).heap.size (w5.alloc (.cells #[.int .i64 0, .string op, .slice (some ⟨b2, o2, none⟩) 1 cp5] 27)) wr) := by have h9 := hB7.out; rw [HD.out] at h9; exact h9
              have BWr : Hid (Below W.heap.size W wr) := HB0.out.trans ((HB6.out.trans (HB7.out.mono HB6.out.size)).mono HB0.out.size)
              have HZ : Hid (Below wr.heap.size wr wr) := Below.refl _ _
              have hs6 := HB6.out.size
              have t0 := (cell_blk (HB7.out.block W.heap.size (by omega)) _).trans ((cell_blk (HB6.out.block _ hN) _).trans c0.out)
              have t1 := (cell_blk (HB7.out.block W.heap.size (by omega)) _).trans ((cell_blk (HB6.out.block _ hN) _).trans c1.out)
              have t2 := (cell_blk (HB7.out.block W.heap.size (by omega)) _).trans ((cell_blk (HB6.out.block _ hN) _).trans c2.out)
              have e0 := (cell_blk (HB7.out.block b2 (by omega)) _).trans E0.out
              have e1 := (cell_blk (HB7.out.block b2 (by omega)) _).trans E1.out
              have e2 := (cell_blk (HB7.out.block b2 (by omega)) _).trans E2.out
              have d1 := (cell_blk (HB7.out.block w5.heap.size (by omega)) _).trans D1.out
              have d2 := (cell_blk (HB7.out.block w5.heap.size (by omega)) _).trans D2.out
              have keep : ∀ w', Below wr.heap.size wr w' → w'.cell? ⟨w5.heap.size, 1, none⟩ = some (.string op) ∧ w'.cell? ⟨w5.heap.size, 2, none⟩ = some (.slice (some ⟨b2, o2, none⟩) 1 cp5) ∧ w'.cell? ⟨b2, o2, none⟩ = some (.int .i64 0) ∧ w'.cell? ⟨b2, o2 + 1, none⟩ = some (.string allB) ∧ w'.cell? ⟨b2, o2 + 2, none⟩ = some (.slice p6 m c6) ∧ w'.cell? ⟨W.heap.size, 0, none⟩ = some (.int .i64 0) ∧ w'.cell? ⟨W.heap.size, 1, none⟩ = some (.string allB) ∧ w'.cell? ⟨W.heap.size, 2, none⟩ = some (.slice kp m kc) ∧ Hid (Below wr.heap.size wr w') := fun w' hb =>
                ⟨(cell_blk (hb.block _ (by omega)) _).trans d1, (cell_blk (hb.block _ (by omega)) _).trans d2, (cell_blk (hb.block _ (by omega)) _).trans e0, (cell_blk (hb.block _ (by omega)) _).trans e1, (cell_blk (hb.block _ (by omega)) _).trans e2, (cell_blk (hb.block _ (by omega)) _).trans t0, (cell_blk (hb.block _ (by omega)) _).trans t1, (cell_blk (hb.block _ (by omega)) _).trans t2, hb⟩
              have ca : ∀ w', Below wr.heap.size wr w' → Calls Tryd.prog 12 #[.agg #[.int .i64 0, .string allB, .slice p6 m c6], .agg #[.int .i64 0, .string allB, .slice kp m kc]] w' (BoolPost true w') := fun w' hb =>
                wraps_sam ps m HM.out w' p6 kp c6 kc (((HK6.out.below HB7.out (Nat.le_refl _)).below hb hs7).mono (Nat.le_trans hs7 hb.size)) ((((HK.out.below HB6.out (Nat.le_refl _)).below HB7.out hs6).below hb (Nat.le_trans hs6 hs7)).mono (Nat.le_trans (Nat.le_trans hs6 hs7) hb.size))
              have cb : ∀ w', Below wr.heap.size wr w' → Calls Tryd.prog 7 #[] w' (BoolPost true w') := fun w' hb => awake_any w' ((hE.out.below BWr.out).below hb)
              have KP := Lib.hid keep
              have CA := Lib.hid ca
              have CB := Lib.hid cb
              clear keep ca cb t0 t1 t2 e0 e1 e2 d1 d2 hB7 HK6 HF6 HMem
              go_wp2_with fail
              go_region_held3 (fun w' => w'.cell? ⟨w5.heap.size, 1, none⟩ = some (.string op) ∧ w'.cell? ⟨w5.heap.size, 2, none⟩ = some (.slice (some ⟨b2, o2, none⟩) 1 cp5) ∧ w'.cell? ⟨b2, o2, none⟩ = some (.int .i64 0) ∧ w'.cell? ⟨b2, o2 + 1, none⟩ = some (.string allB) ∧ w'.cell? ⟨b2, o2 + 2, none⟩ = some (.slice p6 m c6) ∧ w'.cell? ⟨W.heap.size, 0, none⟩ = some (.int .i64 0) ∧ w'.cell? ⟨W.heap.size, 1, none⟩ = some (.string allB) ∧ w'.cell? ⟨W.heap.size, 2, none⟩ = some (.slice kp m kc) ∧ Hid (Below wr.heap.size wr w'))
                (first
                  | exact KP.out _ (Below.drew HZ.out)
                  | exact KP.out _ ((Below.drew HZ.out).trans (hb'.mono (Nat.le_refl _)))
                  | exact KP.out _ (((Below.drew HZ.out).trans (hb'.mono (Nat.le_refl _))).trans (hb2.mono hb'.size)))
                (first
                  | (go_at_call 12; (with_reducible refine (CA.out _ (Below.drew HZ.out)).mono ?_); rintro e w' ⟨rfl, hb'⟩)
                  | (go_at_call 7; (with_reducible refine (CB.out _ ((Below.drew HZ.out).trans (hb'.mono (Nat.le_refl _)))).mono ?_); rintro e w'' ⟨rfl, hb2⟩))
              have HBe : Hid (Below W.heap.size W w'') := BWr.out.trans ((((Below.drew HZ.out).trans (hb'.mono (Nat.le_refl _))).trans (hb2.mono hb'.size)).mono BWr.out.size)
              clear hb' hb2
              go_wp2_with fail
              go_ret
              exact ⟨rfl, HBe.out⟩
end Go.Proofs.YtbdicgnmaonjgaaDoor
