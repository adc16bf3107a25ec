/- Do of one that tells. Conditions: the table of operations lies in its variable; the program lies where its slice says. -/
import Derived.Test.YtgojnhbmelnpnaaDoorDo
namespace Go.Proofs.YtgojnhbmelnpnaaDoor.Pg
open Go.RowKit
set_option linter.unusedVariables false
set_option maxRecDepth 100000

section
variable {A : Option Addr} {n cap : Nat} {l : List In} {w : World} {g : Nat → Int} {pc now : Int}
set_option maxHeartbeats 1000000 in
theorem do_emit (hF : Hid (FT w)) (hR : Hid (RdI w A n l)) (hC : Hid (checkB l 16 = true)) (k : Nat) {x : In} (hx : l[k]? = some x) (ho : mineB x.op = true) {na : Nat} (hna : na < 8) (h6 : x.op = 6) (ha : x.a = (na : Int)) : Calls Tryd.prog 9 #[.slice A n cap, .int .i64 ((k : Int)), .agg (gR g), .int .i64 now] w (DoR (⟨nxt x (k : Int) g, wri x g now, true, g na, false⟩) 0 w) := by
  have HS : Hid (DoS w 28 g ((w.alloc (.cells (gR g) 23)).alloc (.cells (oR zO) 28))) := DoS.new w 28 g
  have HF0 := Lib.hid (hF.out.later HS.out.bel)
  have HR0 := Lib.hid (hR.out.later HS.out.bel)
  have hkn : k < n := by have := (List.getElem?_eq_some_iff.1 hx).1; rw [hR.out.1] at this; exact this
  obtain ⟨op, a, b, c, iA, m, cp, d, cs⟩ := x
  have q1 : ¬ (k : Int) < 0 := by omega
  have q2 : ¬ (n : Int) < (k : Int) := by omega
  have q3 : ((k : Int) == (n : Int)) = false := by simp; omega
  have q4 : (k : Int) < (n : Int) := by omega
  have q5 : (0 : Int) ≤ (k : Int) := by omega
  simp only at ho h6 ha
  have HX := Lib.hid hx
  have HO := Lib.hid ho
  clear hx ho hkn
  have E6 := Lib.hid h6
  have EA := Lib.hid ha
  clear h6 ha
  go_enter Tryd.func9, Tryd.ntmps9
  go_wp2_with fail
  refine (Check_yes HF0.out HR0.out hC.out).mono ?_
  rintro e1 w1 ⟨rfl, hb1⟩
  have HS1 := Lib.hid (HS.out.later hb1)
  have HR1 := Lib.hid (HR0.out.later hb1)
  clear hb1 HS HF0 HR0
  obtain ⟨bb, off, rfl, hbb, hcc⟩ := HR1.out.cells (show 0 < n by omega)
  obtain ⟨c0, c1, c2, c3, c4, c5⟩ := hcc k _ HX.out
  simp only at c0 c1 c2 c3 c4 c5
  clear hcc HR1
  go_wp2_with fail
  refine (mine_yes HO.out _).mono ?_
  rintro e2 w2 ⟨rfl, rfl⟩
  go_upto_region 8 with (refine wp_stN (v := iW ⟨op, a, b, c, iA, m, cp, d, cs⟩) rfl (.tmp 10) (.tmp 47) rfl rfl rfl rfl i39 (iW_one _) ?_)
  have HI : Hid (DiS w 28 g w1.heap.size ⟨op, a, b, c, iA, m, cp, d, cs⟩ (w1.alloc (.cells (iW ⟨op, a, b, c, iA, m, cp, d, cs⟩) 39))) := HS1.out.instr _
  change Code.wp _ _ _ _ (w1.alloc (.cells (iW ⟨op, a, b, c, iA, m, cp, d, cs⟩) 39))
  generalize w1.alloc (.cells (iW ⟨op, a, b, c, iA, m, cp, d, cs⟩) 39) = W at *
  clear c0 c1 c2 c3 c4 c5 HS1
  have HMay := Lib.hid (chk_at hC.out HX.out)
  have HK : Hid ((k : Int) ≤ 100) := by have := chk_len hC.out; have h2 := (List.getElem?_eq_some_iff.1 HX.out).1; show _ ≤ _; omega
  generalize w1.heap.size = M at *
  have KP : Hid (∀ w', Below W.heap.size W w' → w'.rangeAt M 0 (iW ⟨op, a, b, c, iA, m, cp, d, cs⟩).toList ∧ w'.rangeAt w.heap.size 0 (gR g).toList ∧ Hid (DiS w 28 g M ⟨op, a, b, c, iA, m, cp, d, cs⟩ w')) := fun w' hb => ⟨(HI.out.later hb).i.range, (HI.out.later hb).s.g.range, HI.out.later hb⟩
  simp only [Act.put]
  go_cut [11] from 48 to 56 (fun s11 wx => ∃ p : Nat, s11 = .pointer (some ⟨p, 0, none⟩) ∧ Hid (DpS w 28 g M ⟨op, a, b, c, iA, m, cp, d, cs⟩ p ⟨nxt ⟨op, a, b, c, iA, m, cp, d, cs⟩ (k : Int) g, wri ⟨op, a, b, c, iA, m, cp, d, cs⟩ g now, false, 0, false⟩ wx))
  case first =>
    refine but_startQ 10 (fun w' => w'.rangeAt M 0 (iW ⟨op, a, b, c, iA, m, cp, d, cs⟩).toList ∧ w'.rangeAt w.heap.size 0 (gR g).toList ∧ Hid (DiS w 28 g M ⟨op, a, b, c, iA, m, cp, d, cs⟩ w')) (by kernel_rfl) (by as_aux_lemma => kernel_rfl) ?_
    intro hTidy
    have hHeld := KP.out _ ((Below.refl _ _).drew)
    change AnyBut _ _ _ _ _ _ 11 _ _ _
    refine tkL 0 (ty := 39) (.tmp 10) (iW ⟨op, a, b, c, iA, m, cp, d, cs⟩) rfl hTidy hHeld rfl rfl (fun w h => h.1) Tryd.underlying39 rfl i39 ?_
    refine tkQ 1 rfl hTidy hHeld ?_
    refine tkL 2 (ty := 23) (.tmp 6) (gR g) rfl hTidy hHeld rfl rfl (fun w h => h.2.1) Tryd.underlying23 rfl i23 ?_
    refine tkL 4 (ty := 39) (.tmp 10) (iW ⟨op, a, b, c, iA, m, cp, d, cs⟩) rfl hTidy hHeld rfl rfl (fun w h => h.1) Tryd.underlying39 rfl i39 ?_
    refine tkL 5 (ty := 23) (.tmp 6) (gR g) rfl hTidy hHeld rfl rfl (fun w h => h.2.1) Tryd.underlying23 rfl i23 ?_
    refine tkQ 6 rfl hTidy hHeld ?_
    try simp only [List.getElem_toArray, List.getElem_cons_succ, List.getElem_cons_zero, Act.put, List.setIfInBounds_toArray, List.set_cons_zero, List.set_cons_succ]
    refine but_two (i := 3) (j := 9) (by kernel_rfl) rfl rfl ?_ ?_
    · intro K hK
      rw [if_pos (by first | kernel_rfl | rfl)]
      go_simp
      go_at_call 16
      refine (next_any HMay.out (k : Int) q5 HK.out g _).mono ?_
      rintro e2 w2 ⟨rfl, hbw2⟩
      have HBw2 := Lib.hid (((Below.refl W.heap.size W).drew).trans (hbw2.mono ((Below.refl W.heap.size W).drew).size))
      clear hbw2
      have hHeld2 := KP.out _ HBw2.out
      refine hK _ _ (fun _ => hHeld2) ?_
      clear hK K hHeld
      have hHeld := hHeld2
      clear hHeld2
      try simp only [List.getElem_toArray, List.getElem_cons_succ, List.getElem_cons_zero, Act.put, List.setIfInBounds_toArray, List.set_cons_zero, List.set_cons_succ]
      refine but_two (i := 7) (j := 9) (by kernel_rfl) rfl rfl ?_ ?_
      · intro K hK
        rw [if_pos (by first | kernel_rfl | rfl)]
        go_simp
        go_at_call 17
        refine (wri_any HMay.out g now _).mono ?_
        rintro e2 w3 ⟨rfl, hbw3⟩
        have HBw3 := Lib.hid (HBw2.out.trans (hbw3.mono HBw2.out.size))
        clear hbw3
        have hHeld2 := KP.out _ HBw3.out
        refine hK _ _ (fun _ => hHeld2) ?_
        clear hK K hHeld
        have hHeld := hHeld2
        clear hHeld2
        try simp only [List.getElem_toArray, List.getElem_cons_succ, List.getElem_cons_zero, Act.put, List.setIfInBounds_toArray, List.set_cons_zero, List.set_cons_succ]
        refine tkQ 8 (v := .agg (oR ⟨nxt ⟨op, a, b, c, iA, m, cp, d, cs⟩ (k : Int) g, wri ⟨op, a, b, c, iA, m, cp, d, cs⟩ g now, false, 0, false⟩)) rfl hTidy hHeld ?_ (hy := fun w _ => ex_b (vs := #[(0, .int .i64 (nxt ⟨op, a, b, c, iA, m, cp, d, cs⟩ (k : Int) g)), (1, .agg (gR (wri ⟨op, a, b, c, iA, m, cp, d, cs⟩ g now)))]) rfl (by simp [Act.eval]) (b28t _ _ _))
        try simp only [List.getElem_toArray, List.getElem_cons_succ, List.getElem_cons_zero, Act.put, List.setIfInBounds_toArray, List.set_cons_zero, List.set_cons_succ]
        refine but_one (i := 9) (by kernel_rfl) rfl ?_
        intro K hK
        rw [if_pos (by first | kernel_rfl | rfl)]
        refine wp_run (ex_al (N := w3.heap.size) rfl rfl (al28 _)) ?_
        have HBw4 : Hid (Below W.heap.size W (w3.alloc (.cells (oR zO) 28))) := HBw3.out.alloc HBw3.out.size _
        have HN : Hid (W.heap.size ≤ w3.heap.size) := HBw3.out.size
        have HP : Hid (Bk (w3.alloc (.cells (oR zO) 28)) w3.heap.size 28 (oR zO)) := Bk.new _ _ _
        generalize w3.heap.size = p at *
        generalize w3.alloc (.cells (oR zO) 28) = w4 at *
        have hHeld2 := KP.out _ HBw4.out
        refine hK _ _ (fun _ => hHeld2) ?_
        clear hK K hHeld
        have hHeld := hHeld2
        clear hHeld2
        try simp only [List.getElem_toArray, List.getElem_cons_succ, List.getElem_cons_zero, Act.put, List.setIfInBounds_toArray, List.set_cons_zero, List.set_cons_succ]
        refine but_one (i := 10) (by kernel_rfl) rfl ?_
        intro K hK
        rw [if_pos (by first | kernel_rfl | rfl)]
        refine wp_st1 (v := oR ⟨nxt ⟨op, a, b, c, iA, m, cp, d, cs⟩ (k : Int) g, wri ⟨op, a, b, c, iA, m, cp, d, cs⟩ g now, false, 0, false⟩) (.tmp 11) (.tmp 56) rfl rfl rfl HP.out rfl i28 (oR_one _) ?_
        refine hK _ _ (fun h => absurd rfl h) ?_
        clear hK K hHeld
        try simp only [List.getElem_toArray, List.getElem_cons_succ, List.getElem_cons_zero, Act.put]
        refine but_done (by kernel_rfl) ?_
        clear hTidy
        have HD : Hid (DpS w 28 g M ⟨op, a, b, c, iA, m, cp, d, cs⟩ p ⟨nxt ⟨op, a, b, c, iA, m, cp, d, cs⟩ (k : Int) g, wri ⟨op, a, b, c, iA, m, cp, d, cs⟩ g now, false, 0, false⟩ (w4.setRow p (oR ⟨nxt ⟨op, a, b, c, iA, m, cp, d, cs⟩ (k : Int) g, wri ⟨op, a, b, c, iA, m, cp, d, cs⟩ g now, false, 0, false⟩))) := (HI.out.out HBw4.out zO HP.out HN.out).row _
        clear KP HP HN
        go_wp2_with fail
        go_meet
        exact ⟨p, rfl, HD.out⟩
      · intro K hK
        rw [if_pos (by first | kernel_rfl | rfl)]
        refine wp_run (ex_al (N := w2.heap.size) rfl rfl (al28 _)) ?_
        have HBw4 : Hid (Below W.heap.size W (w2.alloc (.cells (oR zO) 28))) := HBw2.out.alloc HBw2.out.size _
        have HN : Hid (W.heap.size ≤ w2.heap.size) := HBw2.out.size
        have HP : Hid (Bk (w2.alloc (.cells (oR zO) 28)) w2.heap.size 28 (oR zO)) := Bk.new _ _ _
        generalize w2.heap.size = p at *
        generalize w2.alloc (.cells (oR zO) 28) = w4 at *
        have hHeld2 := KP.out _ HBw4.out
        refine hK _ _ (fun _ => hHeld2) ?_
        clear hK K hHeld
        have hHeld := hHeld2
        clear hHeld2
        try simp only [List.getElem_toArray, List.getElem_cons_succ, List.getElem_cons_zero, Act.put, List.setIfInBounds_toArray, List.set_cons_zero, List.set_cons_succ]
        refine but_one (i := 7) (by kernel_rfl) rfl ?_
        intro K hK
        rw [if_pos (by first | kernel_rfl | rfl)]
        go_simp
        go_at_call 17
        refine (wri_any HMay.out g now _).mono ?_
        rintro e2 w5 ⟨rfl, hbw5⟩
        have HP2 := Lib.hid (HP.out.later hbw5)
        clear HP
        have HP := HP2
        clear HP2
        have HBw5 := Lib.hid (HBw4.out.trans (hbw5.mono HBw4.out.size))
        clear hbw5
        have hHeld2 := KP.out _ HBw5.out
        refine hK _ _ (fun _ => hHeld2) ?_
        clear hK K hHeld
        have hHeld := hHeld2
        clear hHeld2
        try simp only [List.getElem_toArray, List.getElem_cons_succ, List.getElem_cons_zero, Act.put, List.setIfInBounds_toArray, List.set_cons_zero, List.set_cons_succ]
        refine tkQ 8 (v := .agg (oR ⟨nxt ⟨op, a, b, c, iA, m, cp, d, cs⟩ (k : Int) g, wri ⟨op, a, b, c, iA, m, cp, d, cs⟩ g now, false, 0, false⟩)) rfl hTidy hHeld ?_ (hy := fun w _ => ex_b (vs := #[(0, .int .i64 (nxt ⟨op, a, b, c, iA, m, cp, d, cs⟩ (k : Int) g)), (1, .agg (gR (wri ⟨op, a, b, c, iA, m, cp, d, cs⟩ g now)))]) rfl (by simp [Act.eval]) (b28t _ _ _))
        try simp only [List.getElem_toArray, List.getElem_cons_succ, List.getElem_cons_zero, Act.put, List.setIfInBounds_toArray, List.set_cons_zero, List.set_cons_succ]
        refine but_one (i := 10) (by kernel_rfl) rfl ?_
        intro K hK
        rw [if_pos (by first | kernel_rfl | rfl)]
        refine wp_st1 (v := oR ⟨nxt ⟨op, a, b, c, iA, m, cp, d, cs⟩ (k : Int) g, wri ⟨op, a, b, c, iA, m, cp, d, cs⟩ g now, false, 0, false⟩) (.tmp 11) (.tmp 56) rfl rfl rfl HP.out rfl i28 (oR_one _) ?_
        refine hK _ _ (fun h => absurd rfl h) ?_
        clear hK K hHeld
        try simp only [List.getElem_toArray, List.getElem_cons_succ, List.getElem_cons_zero, Act.put]
        refine but_done (by kernel_rfl) ?_
        clear hTidy
        have HD : Hid (DpS w 28 g M ⟨op, a, b, c, iA, m, cp, d, cs⟩ p ⟨nxt ⟨op, a, b, c, iA, m, cp, d, cs⟩ (k : Int) g, wri ⟨op, a, b, c, iA, m, cp, d, cs⟩ g now, false, 0, false⟩ (w5.setRow p (oR ⟨nxt ⟨op, a, b, c, iA, m, cp, d, cs⟩ (k : Int) g, wri ⟨op, a, b, c, iA, m, cp, d, cs⟩ g now, false, 0, false⟩))) := (HI.out.out HBw5.out zO HP.out HN.out).row _
        clear KP HP HN
        go_wp2_with fail
        go_meet
        exact ⟨p, rfl, HD.out⟩
    · intro K hK
      rw [if_pos (by first | kernel_rfl | rfl)]
      refine wp_run (ex_al (N := W.drew.heap.size) rfl rfl (al28 _)) ?_
      have HBw4 : Hid (Below W.heap.size W (W.drew.alloc (.cells (oR zO) 28))) := ((Below.refl W.heap.size W).drew).alloc (Nat.le_refl _) _
      have HN : Hid (W.heap.size ≤ W.drew.heap.size) := (Nat.le_refl _ : W.heap.size ≤ W.drew.heap.size)
      have HP : Hid (Bk (W.drew.alloc (.cells (oR zO) 28)) W.drew.heap.size 28 (oR zO)) := Bk.new _ _ _
      generalize W.drew.heap.size = p at *
      generalize W.drew.alloc (.cells (oR zO) 28) = w4 at *
      have hHeld2 := KP.out _ HBw4.out
      refine hK _ _ (fun _ => hHeld2) ?_
      clear hK K hHeld
      have hHeld := hHeld2
      clear hHeld2
      try simp only [List.getElem_toArray, List.getElem_cons_succ, List.getElem_cons_zero, Act.put, List.setIfInBounds_toArray, List.set_cons_zero, List.set_cons_succ]
      refine but_one (i := 3) (by kernel_rfl) rfl ?_
      intro K hK
      rw [if_pos (by first | kernel_rfl | rfl)]
      go_simp
      go_at_call 16
      refine (next_any HMay.out (k : Int) q5 HK.out g _).mono ?_
      rintro e2 w5 ⟨rfl, hbw5⟩
      have HP2 := Lib.hid (HP.out.later hbw5)
      clear HP
      have HP := HP2
      clear HP2
      have HBw5 := Lib.hid (HBw4.out.trans (hbw5.mono HBw4.out.size))
      clear hbw5
      have hHeld2 := KP.out _ HBw5.out
      refine hK _ _ (fun _ => hHeld2) ?_
      clear hK K hHeld
      have hHeld := hHeld2
      clear hHeld2
      try simp only [List.getElem_toArray, List.getElem_cons_succ, List.getElem_cons_zero, Act.put, List.setIfInBounds_toArray, List.set_cons_zero, List.set_cons_succ]
      refine but_one (i := 7) (by kernel_rfl) rfl ?_
      intro K hK
      rw [if_pos (by first | kernel_rfl | rfl)]
      go_simp
      go_at_call 17
      refine (wri_any HMay.out g now _).mono ?_
      rintro e2 w6 ⟨rfl, hbw6⟩
      have HP2 := Lib.hid (HP.out.later hbw6)
      clear HP
      have HP := HP2
      clear HP2
      have HBw6 := Lib.hid (HBw5.out.trans (hbw6.mono HBw5.out.size))
      clear hbw6
      have hHeld2 := KP.out _ HBw6.out
      refine hK _ _ (fun _ => hHeld2) ?_
      clear hK K hHeld
      have hHeld := hHeld2
      clear hHeld2
      try simp only [List.getElem_toArray, List.getElem_cons_succ, List.getElem_cons_zero, Act.put, List.setIfInBounds_toArray, List.set_cons_zero, List.set_cons_succ]
      refine tkQ 8 (v := .agg (oR ⟨nxt ⟨op, a, b, c, iA, m, cp, d, cs⟩ (k : Int) g, wri ⟨op, a, b, c, iA, m, cp, d, cs⟩ g now, false, 0, false⟩)) rfl hTidy hHeld ?_ (hy := fun w _ => ex_b (vs := #[(0, .int .i64 (nxt ⟨op, a, b, c, iA, m, cp, d, cs⟩ (k : Int) g)), (1, .agg (gR (wri ⟨op, a, b, c, iA, m, cp, d, cs⟩ g now)))]) rfl (by simp [Act.eval]) (b28t _ _ _))
      try simp only [List.getElem_toArray, List.getElem_cons_succ, List.getElem_cons_zero, Act.put, List.setIfInBounds_toArray, List.set_cons_zero, List.set_cons_succ]
      refine but_one (i := 10) (by kernel_rfl) rfl ?_
      intro K hK
      rw [if_pos (by first | kernel_rfl | rfl)]
      refine wp_st1 (v := oR ⟨nxt ⟨op, a, b, c, iA, m, cp, d, cs⟩ (k : Int) g, wri ⟨op, a, b, c, iA, m, cp, d, cs⟩ g now, false, 0, false⟩) (.tmp 11) (.tmp 56) rfl rfl rfl HP.out rfl i28 (oR_one _) ?_
      refine hK _ _ (fun h => absurd rfl h) ?_
      clear hK K hHeld
      try simp only [List.getElem_toArray, List.getElem_cons_succ, List.getElem_cons_zero, Act.put]
      refine but_done (by kernel_rfl) ?_
      clear hTidy
      have HD : Hid (DpS w 28 g M ⟨op, a, b, c, iA, m, cp, d, cs⟩ p ⟨nxt ⟨op, a, b, c, iA, m, cp, d, cs⟩ (k : Int) g, wri ⟨op, a, b, c, iA, m, cp, d, cs⟩ g now, false, 0, false⟩ (w6.setRow p (oR ⟨nxt ⟨op, a, b, c, iA, m, cp, d, cs⟩ (k : Int) g, wri ⟨op, a, b, c, iA, m, cp, d, cs⟩ g now, false, 0, false⟩))) := (HI.out.out HBw6.out zO HP.out HN.out).row _
      clear KP HP HN
      go_wp2_with fail
      go_meet
      exact ⟨p, rfl, HD.out⟩
  case rest =>
    obtain ⟨p, rfl, HD⟩ := hcut
    clear KP HI
    have k0 : wc.cell? ⟨M, 0, none⟩ = some (.int .i64 op) := HD.out.s.i.cell 0
    rw [E6.out] at k0
    go_wp2_with fail
    have KQ : Hid (∀ {u : Ot} w', DpS w 28 g M ⟨op, a, b, c, iA, m, cp, d, cs⟩ p u w' → w'.cell? ⟨M, 1, none⟩ = some (.int .i64 (na : Int)) ∧ w'.cell? ⟨w.heap.size, na, none⟩ = some (.int .i64 (g na))) := fun w' h => ⟨by have h9 := h.s.i.cell 1; rw [show (iW ⟨op, a, b, c, iA, m, cp, d, cs⟩)[1]? = some (.int .i64 a) from rfl, EA.out] at h9; exact h9, h.s.s.reg hna⟩
    have HD1 := Lib.hid (HD.out.later ((Below.refl _ _).drew))
    have b1 : (na : Int) < 8 := by omega
    refine but_startQ 7 (fun w' => w'.cell? ⟨M, 1, none⟩ = some (.int .i64 (na : Int)) ∧ w'.cell? ⟨w.heap.size, na, none⟩ = some (.int .i64 (g na))) (by kernel_rfl) (by as_aux_lemma => kernel_rfl) ?_
    intro hTidy
    have hHeld := KQ.out _ HD1.out
    change AnyBut _ _ _ _ _ _ 8 _ _ _
    refine but_takeQ (i := 0) (v := ?_) rfl hTidy (by kernel_rfl) (by kernel_rfl) (fun _ _ _ h => h) (Or.inl ⟨by first | kernel_rfl | rfl, ?_⟩) hHeld ?_
    rotate_left
    · intro w hSw
      (try dsimp only at hSw)
      go_split_ands
      go_simp
      try with_reducible rfl
    try simp only [List.getElem_toArray, List.getElem_cons_zero, Act.put, List.setIfInBounds_toArray, List.set_cons_zero, List.set_cons_succ]
    refine but_takeQ (i := 1) (v := ?_) rfl hTidy (by kernel_rfl) (by kernel_rfl) (fun _ _ _ h => h) (Or.inl ⟨by first | kernel_rfl | rfl, ?_⟩) hHeld ?_
    rotate_left
    · intro w hSw
      (try dsimp only at hSw)
      go_split_ands
      go_simp
      try with_reducible rfl
    try simp only [List.getElem_toArray, List.getElem_cons_succ, List.getElem_cons_zero, Act.put, List.setIfInBounds_toArray, List.set_cons_zero, List.set_cons_succ]
    refine but_takeQ (i := 2) (v := ?_) rfl hTidy (by kernel_rfl) (by kernel_rfl) (fun _ _ _ h => h) (Or.inl ⟨by first | kernel_rfl | rfl, ?_⟩) hHeld ?_
    rotate_left
    · intro w hSw
      (try dsimp only at hSw)
      go_split_ands
      go_simp
      try with_reducible rfl
    try simp only [List.getElem_toArray, List.getElem_cons_succ, List.getElem_cons_zero, Act.put, List.setIfInBounds_toArray, List.set_cons_zero, List.set_cons_succ]
    refine but_takeQ (i := 3) (v := ?_) rfl hTidy (by kernel_rfl) (by kernel_rfl) (fun _ _ _ h => h) (Or.inl ⟨by first | kernel_rfl | rfl, ?_⟩) hHeld ?_
    rotate_left
    · intro w hSw
      (try dsimp only at hSw)
      go_split_ands
      go_simp
      try with_reducible rfl
    try simp only [List.getElem_toArray, List.getElem_cons_succ, List.getElem_cons_zero, Act.put, List.setIfInBounds_toArray, List.set_cons_zero, List.set_cons_succ]
    refine but_takeQ (i := 4) (v := ?_) rfl hTidy (by kernel_rfl) (by kernel_rfl) (fun _ _ _ h => h) (Or.inl ⟨by first | kernel_rfl | rfl, ?_⟩) hHeld ?_
    rotate_left
    · intro w hSw
      (try dsimp only at hSw)
      go_split_ands
      go_simp
      try with_reducible rfl
    try simp only [List.getElem_toArray, List.getElem_cons_succ, List.getElem_cons_zero, Act.put, List.setIfInBounds_toArray, List.set_cons_zero, List.set_cons_succ]
    refine but_one (i := 5) (by kernel_rfl) rfl ?_
    intro K hK
    rw [if_pos (by first | kernel_rfl | rfl)]
    refine wp_stU (.tmp 65) (.const (.bool true)) rfl rfl rfl HD1.out.q (by rw [oR_size]; omega) ?_
    have HD2 : Hid (DpS w 28 g M ⟨op, a, b, c, iA, m, cp, d, cs⟩ p ⟨nxt ⟨op, a, b, c, iA, m, cp, d, cs⟩ (k : Int) g, wri ⟨op, a, b, c, iA, m, cp, d, cs⟩ g now, true, 0, false⟩ (wc.drew.setCell ⟨p, 9, none⟩ (.bool true))) := HD1.out.set rfl
    have hHeld2 := KQ.out _ HD2.out
    refine hK _ _ (fun _ => hHeld2) ?_
    clear hK K hHeld
    have hHeld := hHeld2
    clear hHeld2
    try simp only [List.getElem_toArray, List.getElem_cons_succ, List.getElem_cons_zero, Act.put]
    refine but_takeQ (i := 6) (v := ?_) rfl hTidy (by kernel_rfl) (by kernel_rfl) (fun _ _ _ h => h) (Or.inl ⟨by first | kernel_rfl | rfl, ?_⟩) hHeld ?_
    rotate_left
    · intro w hSw
      (try dsimp only at hSw)
      go_split_ands
      go_simp
      try with_reducible rfl
    try simp only [List.getElem_toArray, List.getElem_cons_succ, List.getElem_cons_zero, Act.put, List.setIfInBounds_toArray, List.set_cons_zero, List.set_cons_succ]
    refine but_one (i := 7) (by kernel_rfl) rfl ?_
    intro K hK
    rw [if_pos (by first | kernel_rfl | rfl)]
    refine wp_stJ (.tmp 66) (.tmp 64) rfl rfl rfl HD2.out.q (by rw [oR_size]; omega) ?_
    refine hK _ _ (fun h => absurd rfl h) ?_
    clear hK K hHeld
    try simp only [List.getElem_toArray, List.getElem_cons_succ, List.getElem_cons_zero, Act.put]
    refine but_done (by kernel_rfl) ?_
    try clear hHeld
    clear hTidy
    have HD3 : Hid (DpS w 28 g M ⟨op, a, b, c, iA, m, cp, d, cs⟩ p ⟨nxt ⟨op, a, b, c, iA, m, cp, d, cs⟩ (k : Int) g, wri ⟨op, a, b, c, iA, m, cp, d, cs⟩ g now, true, g na, false⟩ ((wc.drew.setCell ⟨p, 9, none⟩ (.bool true)).setCell ⟨p, 10, none⟩ (.int .i64 (g na)))) := HD2.out.set rfl
    change Exit.inBlock _ _ _ _ ((wc.drew.setCell ⟨p, 9, none⟩ (.bool true)).setCell ⟨p, 10, none⟩ (.int .i64 (g na)))
    generalize (wc.drew.setCell ⟨p, 9, none⟩ (.bool true)).setCell ⟨p, 10, none⟩ (.int .i64 (g na)) = W6 at *
    clear HD1 HD2 KQ k0 HD
    go_wp2_with (first
      | (refine wp_ldB rfl (.tmp 11) rfl rfl HD3.out.q Tryd.underlying28 rfl i28 ?_)
      | (refine wp_stB (v := oR ⟨nxt ⟨op, a, b, c, iA, m, cp, d, cs⟩ (k : Int) g, wri ⟨op, a, b, c, iA, m, cp, d, cs⟩ g now, true, g na, false⟩) rfl (.tmp 8) (.tmp 70) rfl rfl rfl HD3.out.s.s.r rfl i28 (oR_one _) ?_))
    refine bodyPost_ret (v := .tuple #[.agg (oR ⟨nxt ⟨op, a, b, c, iA, m, cp, d, cs⟩ (k : Int) g, wri ⟨op, a, b, c, iA, m, cp, d, cs⟩ g now, true, g na, false⟩), .int .i64 0]) ?_ rfl (by have h := HD3.out.s.s.ret (⟨nxt ⟨op, a, b, c, iA, m, cp, d, cs⟩ (k : Int) g, wri ⟨op, a, b, c, iA, m, cp, d, cs⟩ g now, true, g na, false⟩) 0; first | exact h | simpa [doO] using h)
    exact (res_cell (p := 8) (q := 9) (ty := 28) (b := w.heap.size + 1) (u := oR ⟨nxt ⟨op, a, b, c, iA, m, cp, d, cs⟩ (k : Int) g, wri ⟨op, a, b, c, iA, m, cp, d, cs⟩ g now, true, g na, false⟩) rfl _ rfl (HD3.out.s.s.r.row _) Tryd.underlying28 rfl i28).trans rfl
end
end Go.Proofs.YtgojnhbmelnpnaaDoor.Pg
