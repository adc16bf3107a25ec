/- One act on both sides: the same. Conditions: each theorem's own premises. -/
import Derived.Test.YtdpapnfjpefhkaaGreatDow5m
namespace Go.Proofs.YtdpapnfjpefhkaaGreat
open Go.RowKit Tr
set_option linter.unusedVariables false
set_option maxRecDepth 100000
section
variable {W w w' w'' w1 : World} {t ts m mo b i j q R R1 R2 : Nat} {d d1 d2 d' : St} {now k a c : Int}
theorem wB_cells (h : w.heap[q]? = some (.cells #[.int .i64 c, .int .i64 0, .int .i64 0] 103 (0, 0))) : w.cell? ⟨q, 0, none⟩ = some (.int .i64 c) ∧ w.cell? ⟨q, 1, none⟩ = some (.int .i64 0) ∧ w.cell? ⟨q, 2, none⟩ = some (.int .i64 0) := by
 refine ⟨?_, ?_, ?_⟩
 · rw [cell_of_row w q 0 _ _ _ h]; rfl
 · rw [cell_of_row w q 1 _ _ _ h]; rfl
 · rw [cell_of_row w q 2 _ _ _ h]; rfl
set_option maxHeartbeats 64000000 in
theorem does_8 (h : BM W b ts t mo m now R R d d w) (hR : R + 1 ≤ 1000) (hc : Ch.Wf c) : Calls Tryz.prog 6 #[.pointer (some ⟨b, 0, none⟩), .agg (aB 8 a c)] w (DoR W b ts t mo m R) := by
 have h0 := h.later (below_al w (.cells (aB 8 a c) 29))
 obtain ⟨P, P', r, v, hPP, hP, hD, hW⟩ := pair_done h0 hR a c hc
 have hx := heap_alloc_new w (.cells (aB 8 a c) 29)
 have hck := ck_of h0 hx
 have HP := Lib.hid hP
 have HD := Lib.hid hD
 have HW := Lib.hid hW
 have HB := Lib.hid h0
 have HX := Lib.hid hx
 have k0 := (aB_cells hx).1
 clear h h0 hx hP hD hW hR hc
 unfold aB at *
 rcases hPP with ⟨rfl, rfl⟩ | ⟨p, p', rfl, rfl⟩
 all_goals
  simp only [cp, Option.map_none, Option.map_some] at HP HD HW
  go_enter Tryz.func6, Tryz.ntmps6
  go_wp2_with fail
  clear k0
  generalize w.alloc (.cells #[.int .i64 8, .int .i64 a, .int .i64 c] 29) = w0 at *
  generalize w.heap.size = q at *
  go_wp2_with fail
  refine but_startQ 1000 (fun w' => w'.cell? ⟨b, 0, none⟩ = some (.pointer (some ⟨ts, 0, none⟩)) ∧ w'.cell? ⟨b, 1, none⟩ = some (.pointer (some ⟨t, 0, none⟩)) ∧ w'.cell? ⟨b, 2, none⟩ = some (.pointer (some ⟨mo, 0, none⟩)) ∧ w'.cell? ⟨b, 3, none⟩ = some (.pointer (some ⟨m, 0, none⟩)) ∧ w'.cell? ⟨b, 4, none⟩ = some (.int .i64 now) ∧ w'.cell? ⟨q, 1, none⟩ = some (.int .i64 a) ∧ w'.cell? ⟨q, 2, none⟩ = some (.int .i64 c)) (by kernel_rfl) (by as_aux_lemma => kernel_rfl) ?_
  intro hTidy
  have hHeld := hck
  change AnyBut _ _ _ _ _ _ 12 _ _ _
  refine tkQ 0 rfl hTidy hHeld ?_
  refine tkQ 1 rfl hTidy hHeld ?_
  refine tkQ 2 rfl hTidy hHeld ?_
  refine tkQ 3 rfl hTidy hHeld ?_
  refine tkQ 4 rfl hTidy hHeld ?_
  refine tkQ 5 rfl hTidy hHeld ?_
  try simp only [l1, l2, l3, Act.put, l4, l5, l6]
  refine but_one (i := 6) (by kernel_rfl) rfl ?_
  intro K hK
  go_simp
  go_at_call 34
  refine (HP.out _ (by exact (Below.refl _ _).drew)).mono ?_
  rintro e w4 ⟨rfl, hb⟩
  have hBw4 := Lib.hid ((Below.refl w0.heap.size w0).drew.trans (hb.out.mono ((Below.refl w0.heap.size w0).drew).size))
  clear hb
  have hHeld2 := ck_of (HB.out.later hBw4.out) ((hBw4.out.block _ (lt_of_blk HX.out)).trans HX.out)
  refine hK _ _ (fun _ => hHeld2) ?_
  clear hK K hHeld
  have hHeld := hHeld2
  clear hHeld2
  refine tkQ 7 rfl hTidy hHeld ?_
  refine tkQ 8 rfl hTidy hHeld ?_
  refine tkQ 9 rfl hTidy hHeld ?_
  refine tkQ 10 rfl hTidy hHeld ?_
  refine tkQ 11 rfl hTidy hHeld ?_
  try simp only [l1, l2, l3, Act.put, l4, l5, l6]
  refine but_done (by kernel_rfl) ?_
  try clear hHeld
  clear hTidy
  have hck := ck_of (HB.out.later hBw4.out) ((hBw4.out.block _ (lt_of_blk HX.out)).trans HX.out)
  go_wp2_with fail
  refine but_startQ 1000 (fun w' => w'.cell? ⟨b, 0, none⟩ = some (.pointer (some ⟨ts, 0, none⟩)) ∧ w'.cell? ⟨b, 1, none⟩ = some (.pointer (some ⟨t, 0, none⟩)) ∧ w'.cell? ⟨b, 2, none⟩ = some (.pointer (some ⟨mo, 0, none⟩)) ∧ w'.cell? ⟨b, 3, none⟩ = some (.pointer (some ⟨m, 0, none⟩)) ∧ w'.cell? ⟨b, 4, none⟩ = some (.int .i64 now) ∧ w'.cell? ⟨q, 1, none⟩ = some (.int .i64 a) ∧ w'.cell? ⟨q, 2, none⟩ = some (.int .i64 c)) (by kernel_rfl) (by as_aux_lemma => kernel_rfl) ?_
  intro hTidy
  have hHeld := hck
  change AnyBut _ _ _ _ _ _ 12 _ _ _
  refine tkQ 0 rfl hTidy hHeld ?_
  refine tkQ 1 rfl hTidy hHeld ?_
  refine tkQ 2 rfl hTidy hHeld ?_
  refine tkQ 3 rfl hTidy hHeld ?_
  refine tkQ 4 rfl hTidy hHeld ?_
  refine tkQ 5 rfl hTidy hHeld ?_
  try simp only [l1, l2, l3, Act.put, l4, l5, l6]
  refine but_one (i := 6) (by kernel_rfl) rfl ?_
  intro K hK
  go_simp
  go_at_call 35
  refine (HD.out _ hBw4.out.drew).mono ?_
  rintro e w5 ⟨rfl, hb⟩
  have hBw5 := Lib.hid (hBw4.out.drew.trans (hb.out.mono (hBw4.out.drew).size))
  clear hb
  have hHeld2 := ck_of (HB.out.later hBw5.out) ((hBw5.out.block _ (lt_of_blk HX.out)).trans HX.out)
  refine hK _ _ (fun _ => hHeld2) ?_
  clear hK K hHeld
  have hHeld := hHeld2
  clear hHeld2
  refine tkQ 7 rfl hTidy hHeld ?_
  refine tkQ 8 rfl hTidy hHeld ?_
  refine tkQ 9 rfl hTidy hHeld ?_
  refine tkQ 10 rfl hTidy hHeld ?_
  refine tkQ 11 rfl hTidy hHeld ?_
  try simp only [l1, l2, l3, Act.put, l4, l5, l6]
  refine but_done (by kernel_rfl) ?_
  try clear hHeld
  clear hTidy
  clear HP HD
  have hck := ck_of (HB.out.later hBw5.out) ((hBw5.out.block _ (lt_of_blk HX.out)).trans HX.out)
  go_split_ands
  go_upto_region 46 with (fail)
  have HX6 := Lib.hid (heap_alloc_new w5 (.cells #[.int .i64 c, .int .i64 0, .int .i64 0] 103))
  have HB6 := Lib.hid (hBw5.out.trans ((below_al w5 (.cells #[.int .i64 c, .int .i64 0, .int .i64 0] 103)).mono hBw5.out.size))
  generalize w5.alloc (.cells #[.int .i64 c, .int .i64 0, .int .i64 0] 103) = w6 at *
  generalize w5.heap.size = q2 at *
  refine but_startQ 1000 (fun w' => w'.cell? ⟨q2, 0, none⟩ = some (.int .i64 c) ∧ w'.cell? ⟨q2, 1, none⟩ = some (.int .i64 0) ∧ w'.cell? ⟨q2, 2, none⟩ = some (.int .i64 0)) (by kernel_rfl) (by as_aux_lemma => kernel_rfl) ?_
  intro hTidy
  have hHeld := (show w6.drew.cell? ⟨q2, 0, none⟩ = some (.int .i64 c) ∧ w6.drew.cell? ⟨q2, 1, none⟩ = some (.int .i64 0) ∧ w6.drew.cell? ⟨q2, 2, none⟩ = some (.int .i64 0) from wB_cells HX6.out)
  change AnyBut _ _ _ _ _ _ 20 _ _ _
  refine tkQ 0 rfl hTidy hHeld ?_
  refine tkQ 1 rfl hTidy hHeld ?_
  refine tkQ 2 rfl hTidy hHeld ?_
  refine tkQ 3 rfl hTidy hHeld ?_
  refine tkQ 4 rfl hTidy hHeld ?_
  refine tkQ 5 rfl hTidy hHeld ?_
  refine tkQ 6 rfl hTidy hHeld ?_
  refine tkQ 7 rfl hTidy hHeld ?_
  refine tkQ 8 rfl hTidy hHeld ?_
  refine tkQ 9 rfl hTidy hHeld ?_
  refine tkQ 10 rfl hTidy hHeld ?_
  refine tkQ 11 rfl hTidy hHeld ?_
  refine tkQ 12 rfl hTidy hHeld ?_
  refine tkQ 14 rfl hTidy hHeld ?_
  refine tkQ 15 rfl hTidy hHeld ?_
  try simp only [l1, l2, l3, Act.put, l4, l5, l6]
  refine but_one (i := 13) (by kernel_rfl) rfl ?_
  intro K hK
  go_simp
  go_at_call 36
  refine (HW.out _ HB6.out.drew).mono ?_
  rintro e w7 ⟨rfl, hK7, hN⟩
  have hx7 := Lib.hid (hK7.out.2 _ _ _ _ HX6.out (by decide))
  have hHeld2 := wB_cells hx7.out
  refine hK _ _ (fun _ => hHeld2) ?_
  clear hK K hHeld
  have hHeld := hHeld2
  clear hHeld2
  try simp only [l1, l2, l3, Act.put, l4, l5, l6]
  refine but_one (i := 16) (by kernel_rfl) rfl ?_
  intro K hK
  go_simp
  go_at_call 37
  refine (hN.out _ (Below.refl _ _)).mono ?_
  rintro e w8 ⟨rfl, hK8, hE⟩
  have hx8 := Lib.hid (hK8.out.2 _ _ _ _ hx7.out (by decide))
  have hHeld2 := wB_cells hx8.out
  refine hK _ _ (fun _ => hHeld2) ?_
  clear hK K hHeld
  have hHeld := hHeld2
  clear hHeld2
  refine tkQ 17 rfl hTidy hHeld ?_
  refine tkQ 18 rfl hTidy hHeld ?_
  refine tkQ 19 rfl hTidy hHeld ?_
  try simp only [l1, l2, l3, Act.put, l4, l5, l6]
  refine but_done (by kernel_rfl) ?_
  try clear hHeld
  clear hTidy
  go_wp2_with fail
  go_ret
  refine ⟨rfl, ?_⟩
  obtain ⟨d', h9⟩ := hE.out
  exact ⟨now, d', R + 1, Nat.le_refl _, h9⟩
end
end Go.Proofs.YtdpapnfjpefhkaaGreat
