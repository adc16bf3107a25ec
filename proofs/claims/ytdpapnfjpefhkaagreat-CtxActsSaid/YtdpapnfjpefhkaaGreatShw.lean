/- Both sides show the same. Conditions: each theorem's own premises. -/
import Derived.Test.YtdpapnfjpefhkaaGreatDow5m
import Derived.Test.YtdpapnfjpefhkaaGreatTkem
namespace Go.Proofs.YtdpapnfjpefhkaaGreat
open Go.RowKit Tr
set_option linter.unusedVariables false
set_option maxRecDepth 100000
section
variable {W w w' w'' : World} {t ts m mo b R1 R2 : Nat} {d : St} {now : Int}
set_option maxHeartbeats 64000000 in
theorem shows_yes (h : BM W b ts t mo m now R1 R2 d d w) : Calls Tryz.prog 7 #[.pointer (some ⟨b, 0, none⟩)] w fun e w' => e = .returned (.bool true) ∧ Hid (BM W b ts t mo m now R1 R2 d d w') := by
 obtain ⟨N, hN, hl42, hl38⟩ := pack_len h
 have HL42 := Lib.hid hl42
 have HL38 := Lib.hid hl38
 have HC := Lib.hid h.cellsL
 have HK : Hid (∀ k, ∃ er cs r wh has P P', ShP t m k er cs r wh has P P' w ∧ ((P = none ∧ P' = none) ∨ ∃ p p' cl, P = some ⟨p, 0, none⟩ ∧ P' = some ⟨p', 0, none⟩ ∧ Lk 41 #[.pointer (some ⟨p, 0, none⟩)] (.bool cl) w ∧ ∀ w1, Below w.heap.size w w1 → w1.cell? ⟨p', 3, none⟩ = some (.bool cl))) := pack h
 have HE : Hid (∀ w1, Below w.heap.size w w1 → BM W b ts t mo m now R1 R2 d d w1) := fun w1 hb => h.later hb
 have hN' : (N : Int) ≤ 64 := by omega
 clear hl42 hl38 h hN
 go_enter Tryz.func7, Tryz.ntmps7
 go_wp2_with fail
 go_loopw [3] (fun v wr => ∃ i : Int, v = .int .i64 i ∧ -1 ≤ i ∧ i ≤ (N : Int) + 1 ∧ Hid (Below w.heap.size w wr)) (fun v _ => ((N : Int) + 1 - intOf v).toNat)
 case atStart => exact ⟨-1, rfl, by omega, by omega, Below.refl _ _⟩
 case round =>
  obtain ⟨i, rfl, hi1, hi2, hwr⟩ := hrel
  obtain ⟨b1, b3⟩ := HC.out wr hwr.out
  go_wp2_with fail
  refine (HL38.out _ hwr.out).mono ?_
  rintro e w1 ⟨rfl, hw1⟩
  clear b1 b3
  obtain ⟨b1, b3⟩ := HC.out w1 hw1.out
  by_cases hlt : i ≤ (N : Int)
  · obtain ⟨er, cs, r, wh, has, P, P', hP, hPP⟩ := HK.out i
    have HP := Lib.hid hP
    have HPP := Lib.hid hPP
    clear hP hPP
    go_wp2_with fail
    refine (HP.out.e14 _ hw1.out).mono ?_
    rintro e w2 ⟨rfl, hw2⟩
    clear b1 b3
    obtain ⟨b1, b3⟩ := HC.out w2 hw2.out
    go_wp2_with fail
    refine (HP.out.e15 _ hw2.out).mono ?_
    rintro e w3 ⟨rfl, hw3⟩
    clear b1 b3
    obtain ⟨b1, b3⟩ := HC.out w3 hw3.out
    go_wp2_with fail
    refine (HP.out.e39 _ hw3.out).mono ?_
    rintro e w4 ⟨rfl, hw4⟩
    clear b1 b3
    obtain ⟨b1, b3⟩ := HC.out w4 hw4.out
    go_wp2_with fail
    refine (HP.out.e12 _ hw4.out).mono ?_
    rintro e w5 ⟨rfl, hw5⟩
    clear b1 b3
    obtain ⟨b1, b3⟩ := HC.out w5 hw5.out
    go_wp2_with fail
    refine (HP.out.e40 _ hw5.out).mono ?_
    rintro e w6 ⟨rfl, hw6⟩
    clear b1 b3
    obtain ⟨b1, b3⟩ := HC.out w6 hw6.out
    go_wp2_with fail
    refine (HP.out.e34 _ hw6.out).mono ?_
    rintro e w7 ⟨rfl, hw7⟩
    clear b1 b3
    obtain ⟨b1, b3⟩ := HC.out w7 hw7.out
    go_wp2_with fail
    refine (HP.out.e35 _ hw7.out).mono ?_
    rintro e w8 ⟨rfl, hw8⟩
    clear b1 b3
    obtain ⟨b1, b3⟩ := HC.out w8 hw8.out
    rcases HPP.out with ⟨rfl, rfl⟩ | ⟨p, p', cl, rfl, rfl, h41, hcl⟩
    · clear HP HPP
      go_wp2_with fail
      refine but_startQ 1000 (fun w' => True) (by kernel_rfl) (by as_aux_lemma => kernel_rfl) ?_
      intro hTidy
      have hHeld := True.intro
      change AnyBut _ _ _ _ _ _ 58 _ _ _
      refine tkQ 0 rfl hTidy hHeld ?_
      refine tkQ 1 rfl hTidy hHeld ?_
      refine tkQ 2 rfl hTidy hHeld ?_
      refine tkQ 3 rfl hTidy hHeld ?_
      refine tkQ 4 rfl hTidy hHeld ?_
      refine tkQ 5 rfl hTidy hHeld ?_
      refine tkQ 6 rfl hTidy hHeld ?_
      refine tkQ 7 rfl hTidy hHeld ?_
      refine tkQ 8 rfl hTidy hHeld ?_
      refine tkQ 9 rfl hTidy hHeld ?_
      refine tkQ 10 rfl hTidy hHeld ?_
      refine tkQ 11 rfl hTidy hHeld ?_
      refine tkQ 12 rfl hTidy hHeld ?_
      refine tkQ 13 rfl hTidy hHeld ?_
      refine tkQ 14 rfl hTidy hHeld ?_
      refine tkQ 15 rfl hTidy hHeld ?_
      refine tkQ 16 rfl hTidy hHeld ?_
      refine tkQ 17 rfl hTidy hHeld ?_
      refine tkQ 18 rfl hTidy hHeld ?_
      refine tkQ 19 rfl hTidy hHeld ?_
      refine tkQ 20 rfl hTidy hHeld ?_
      refine tkQ 21 rfl hTidy hHeld ?_
      refine tkQ 22 rfl hTidy hHeld ?_
      refine tkQ 23 rfl hTidy hHeld ?_
      refine tkQ 24 rfl hTidy hHeld ?_
      refine tkQ 25 rfl hTidy hHeld ?_
      refine tkQ 26 rfl hTidy hHeld ?_
      refine tkQ 27 rfl hTidy hHeld ?_
      refine tkQ 28 rfl hTidy hHeld ?_
      refine tkQ 29 rfl hTidy hHeld ?_
      refine tkQ 30 rfl hTidy hHeld ?_
      refine tkQ 31 rfl hTidy hHeld ?_
      refine tkQ 32 rfl hTidy hHeld ?_
      refine tkQ 33 rfl hTidy hHeld ?_
      refine tkQ 34 rfl hTidy hHeld ?_
      refine tkQ 35 rfl hTidy hHeld ?_
      refine tkQ 36 rfl hTidy hHeld ?_
      refine tkQ 37 rfl hTidy hHeld ?_
      refine tkQ 38 rfl hTidy hHeld ?_
      refine tkQ 39 rfl hTidy hHeld ?_
      refine tkQ 40 rfl hTidy hHeld ?_
      refine tkQ 41 rfl hTidy hHeld ?_
      refine tkQ 42 rfl hTidy hHeld ?_
      refine tkQ 43 rfl hTidy hHeld ?_
      refine tkQ 44 rfl hTidy hHeld ?_
      refine tkQ 45 rfl hTidy hHeld ?_
      refine tkQ 46 rfl hTidy hHeld ?_
      refine tkQ 47 rfl hTidy hHeld ?_
      refine tkQ 48 rfl hTidy hHeld ?_
      refine unQ 49 rfl hTidy hHeld ?_
      refine unQ 50 rfl hTidy hHeld ?_
      refine unQ 51 rfl hTidy hHeld ?_
      refine unQ 52 rfl hTidy hHeld ?_
      refine unQ 53 rfl hTidy hHeld ?_
      refine unQ 54 rfl hTidy hHeld ?_
      refine unQ 55 rfl hTidy hHeld ?_
      refine tkQ 56 rfl hTidy hHeld ?_
      refine tkQ 57 rfl hTidy hHeld ?_
      try simp only [l1, l2, l3, Act.put, l4, l5, l6]
      refine but_done (by kernel_rfl) ?_
      try clear hHeld
      clear hTidy
      go_wp2_with fail
      go_roundw
      case rel => exact ⟨i + 1, by go_num, by omega, by omega, hw8.out.drew⟩
      case measure => simp [intOf]; omega
    · have H41 := Lib.hid h41
      have HCL := Lib.hid hcl
      clear HP HPP h41 hcl
      go_wp2_with fail
      refine but_startQ 1000 (fun w' => w'.cell? ⟨p', 3, none⟩ = some (.bool cl)) (by kernel_rfl) (by as_aux_lemma => kernel_rfl) ?_
      intro hTidy
      have hHeld := (show w8.drew.cell? ⟨p', 3, none⟩ = some (.bool cl) from HCL.out _ hw8.out.drew)
      change AnyBut _ _ _ _ _ _ 58 _ _ _
      refine tkQ 0 rfl hTidy hHeld ?_
      refine tkQ 1 rfl hTidy hHeld ?_
      refine tkQ 2 rfl hTidy hHeld ?_
      refine tkQ 3 rfl hTidy hHeld ?_
      refine tkQ 4 rfl hTidy hHeld ?_
      refine tkQ 5 rfl hTidy hHeld ?_
      refine tkQ 6 rfl hTidy hHeld ?_
      refine tkQ 7 rfl hTidy hHeld ?_
      refine tkQ 8 rfl hTidy hHeld ?_
      refine tkQ 9 rfl hTidy hHeld ?_
      refine tkQ 10 rfl hTidy hHeld ?_
      refine tkQ 11 rfl hTidy hHeld ?_
      refine tkQ 12 rfl hTidy hHeld ?_
      refine tkQ 13 rfl hTidy hHeld ?_
      refine tkQ 14 rfl hTidy hHeld ?_
      refine tkQ 15 rfl hTidy hHeld ?_
      refine tkQ 16 rfl hTidy hHeld ?_
      refine tkQ 17 rfl hTidy hHeld ?_
      refine tkQ 18 rfl hTidy hHeld ?_
      refine tkQ 19 rfl hTidy hHeld ?_
      refine tkQ 20 rfl hTidy hHeld ?_
      refine tkQ 21 rfl hTidy hHeld ?_
      refine tkQ 22 rfl hTidy hHeld ?_
      refine tkQ 23 rfl hTidy hHeld ?_
      refine tkQ 24 rfl hTidy hHeld ?_
      refine tkQ 25 rfl hTidy hHeld ?_
      refine tkQ 26 rfl hTidy hHeld ?_
      refine tkQ 27 rfl hTidy hHeld ?_
      refine tkQ 28 rfl hTidy hHeld ?_
      refine tkQ 29 rfl hTidy hHeld ?_
      refine tkQ 30 rfl hTidy hHeld ?_
      refine tkQ 31 rfl hTidy hHeld ?_
      refine tkQ 32 rfl hTidy hHeld ?_
      refine tkQ 33 rfl hTidy hHeld ?_
      refine tkQ 34 rfl hTidy hHeld ?_
      refine tkQ 35 rfl hTidy hHeld ?_
      refine tkQ 36 rfl hTidy hHeld ?_
      refine tkQ 37 rfl hTidy hHeld ?_
      refine tkQ 38 rfl hTidy hHeld ?_
      refine tkQ 39 rfl hTidy hHeld ?_
      refine tkQ 40 rfl hTidy hHeld ?_
      refine tkQ 41 rfl hTidy hHeld ?_
      refine tkQ 42 rfl hTidy hHeld ?_
      refine tkQ 43 rfl hTidy hHeld ?_
      refine tkQ 44 rfl hTidy hHeld ?_
      refine tkQ 45 rfl hTidy hHeld ?_
      refine tkQ 46 rfl hTidy hHeld ?_
      refine tkQ 47 rfl hTidy hHeld ?_
      refine tkQ 48 rfl hTidy hHeld ?_
      refine tkQ 49 rfl hTidy hHeld ?_
      refine tkQ 51 rfl hTidy hHeld ?_
      refine tkQ 52 rfl hTidy hHeld ?_
      refine tkQ 53 rfl hTidy hHeld ?_
      refine tkQ 54 rfl hTidy hHeld ?_
      try simp only [l1, l2, l3, Act.put, l4, l5, l6]
      refine but_one (i := 50) (by kernel_rfl) rfl ?_
      intro K hK
      go_simp
      go_at_call 41
      refine (H41.out _ hw8.out.drew).mono ?_
      rintro e w9 ⟨rfl, hw9⟩
      have hHeld2 := (show w9.cell? ⟨p', 3, none⟩ = some (.bool cl) from HCL.out _ hw9.out)
      refine hK _ _ (fun _ => hHeld2) ?_
      clear hK K hHeld
      have hHeld := hHeld2
      clear hHeld2
      refine tkQ 55 rfl hTidy hHeld ?_
      refine tkQ 56 rfl hTidy hHeld ?_
      refine tkQ 57 rfl hTidy hHeld ?_
      try simp only [l1, l2, l3, Act.put, l4, l5, l6]
      refine but_done (by kernel_rfl) ?_
      try clear hHeld
      clear hTidy
      go_wp2_with fail
      go_roundw
      case rel => exact ⟨i + 1, by go_num, by omega, by omega, hw9⟩
      case measure => simp [intOf]; omega
  · have hi3 : i = (N : Int) + 1 := by omega
    have HI := Lib.hid hi3
    clear hi3
    go_wp2_with fail
    refine but_startQ 1000 (fun w' => w'.cell? ⟨b, 1, none⟩ = some (.pointer (some ⟨t, 0, none⟩)) ∧ w'.cell? ⟨b, 3, none⟩ = some (.pointer (some ⟨m, 0, none⟩))) (by kernel_rfl) (by as_aux_lemma => kernel_rfl) ?_
    intro hTidy
    have hHeld := HC.out _ hw1.out.drew
    change AnyBut _ _ _ _ _ _ 12 _ _ _
    refine tkQ 0 rfl hTidy hHeld ?_
    refine tkQ 1 rfl hTidy hHeld ?_
    refine tkQ 2 rfl hTidy hHeld ?_
    refine tkQ 3 rfl hTidy hHeld ?_
    refine tkQ 5 rfl hTidy hHeld ?_
    refine tkQ 6 rfl hTidy hHeld ?_
    refine tkQ 7 rfl hTidy hHeld ?_
    refine tkQ 8 rfl hTidy hHeld ?_
    try simp only [l1, l2, l3, Act.put, l4, l5, l6]
    refine but_one (i := 4) (by kernel_rfl) rfl ?_
    intro K hK
    go_simp
    go_at_call 42
    refine (HL42.out _ hw1.out.drew).mono ?_
    rintro e w2 ⟨rfl, hw2⟩
    have hHeld2 := HC.out _ hw2.out
    refine hK _ _ (fun _ => hHeld2) ?_
    clear hK K hHeld
    have hHeld := hHeld2
    clear hHeld2
    try simp only [l1, l2, l3, Act.put, l4, l5, l6]
    refine but_one (i := 9) (by kernel_rfl) rfl ?_
    intro K hK
    go_simp
    go_at_call 38
    refine (HL38.out _ hw2.out).mono ?_
    rintro e w3 ⟨rfl, hw3⟩
    have hHeld2 := HC.out _ hw3.out
    refine hK _ _ (fun _ => hHeld2) ?_
    clear hK K hHeld
    have hHeld := hHeld2
    clear hHeld2
    refine tkQ 10 rfl hTidy hHeld ?_
    refine tkQ 11 rfl hTidy hHeld ?_
    try simp only [l1, l2, l3, Act.put, l4, l5, l6]
    refine but_done (by kernel_rfl) ?_
    try clear hHeld
    clear hTidy
    go_wp2_with fail
    go_ret
    exact ⟨rfl, HE.out _ hw3.out⟩
end
end Go.Proofs.YtdpapnfjpefhkaaGreat
