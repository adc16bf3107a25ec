/- An act of no kind is none. Conditions: each theorem's own premises.
Two rows that both sides told are alike. Conditions: each theorem's own premises.
One act on both sides: the same. Conditions: each theorem's own premises.
One act on both sides: the same. Conditions: each theorem's own premises.
One act on both sides: the same. Conditions: each theorem's own premises.
One act on both sides: the same. Conditions: each theorem's own premises. -/
import Derived.Test.YtdpapnfjpefhkaaGreatBlpm
namespace Go.Proofs.YtdpapnfjpefhkaaGreat
open Go.RowKit Tr
set_option linter.unusedVariables false
set_option maxRecDepth 100000
section
variable {W w w' w'' w1 : World} {t ts m mo b i j q R R1 R2 : Nat} {d d1 d2 d' : St} {now k a c : Int}
set_option maxHeartbeats 64000000 in
theorem does_0 (h : BM W b ts t mo m now R R d d w) (h1 : ¬ k = 1) (h2 : ¬ k = 2) (h3 : ¬ k = 3) (h4 : ¬ k = 4) (h5 : ¬ k = 5) (h6 : ¬ k = 6) (h7 : ¬ k = 7) (h8 : ¬ k = 8) (h9 : ¬ k = 9) : Calls Tryz.prog 6 #[.pointer (some ⟨b, 0, none⟩), .agg (aB k a c)] w (DoR W b ts t mo m R) := by
 have H0 := Lib.hid (h.later (below_al w (.cells (aB k a c) 29)))
 have hx := heap_alloc_new w (.cells (aB k a c) 29)
 have k0 := (aB_cells hx).1
 clear h hx
 unfold aB at *
 go_enter Tryz.func6, Tryz.ntmps6
 go_wp2_with fail
 go_ret
 exact ⟨rfl, now, d, R, Nat.le_succ R, H0.out⟩
end
end Go.Proofs.YtdpapnfjpefhkaaGreat
namespace Go.Proofs.YtdpapnfjpefhkaaGreat
open Go.RowKit Tr
set_option linter.unusedVariables false
set_option maxRecDepth 100000
section
variable {w4 w5 : World} {P1 P2 : Option Addr} {n1 n2 k1 k2 B1 B2 : Nat} {er cs : Int} {l : List Lap} {st : List Mp}
theorem lapsed_two (hl1 : LRt 57 B1 w4 P1 k1 er cs l) (hl2 : LRt 160 B2 w5 P2 k2 er cs l) (hK : KB w4 w5) (h1 : n1 = l.length) (h2 : n2 = l.length) (hs : Sm l st) :
  Calls Tryz.prog 22 #[.slice P1 n1 k1, .slice P2 n2 k2] w5 fun e w' => e = .returned (.bool true) ∧ ∃ m, w' = w5.drewN m := by
 subst h1
 obtain rfl : n2 = l.length := h2
 have a1 : RdS w5 P1 l.length er cs l := (hK.lrt (by decide) hl1).rds
 have a2 : RdS w5 P2 l.length er cs l := hl2.rds
 exact lapsed_yes a1 a2 rfl hs.1 hs.2.2
theorem starts_two (hl1 : SRt 59 B1 w4 P1 k1 st) (hl2 : SRt 164 B2 w5 P2 k2 st) (hK : KB w4 w5) (h1 : n1 = st.length) (h2 : n2 = st.length) (hs : Sm l st) (z : Nat) :
  Calls Tryz.prog 26 #[.slice P1 n1 k1, .slice P2 n2 k2] (w5.drewN z) fun e w' => e = .returned (.bool true) ∧ ∃ m, w' = w5.drewN m := by
 subst h1
 obtain rfl : n2 = st.length := h2
 have hD := below_drewN w5 z
 have a1 : RdM (w5.drewN z) P1 st := ((hK.trans (KB.of_below hD)).srt (by decide) hl1).rdm
 have a2 : RdM (w5.drewN z) P2 st := ((KB.of_below hD).srt (by decide) hl2).rdm
 refine (starts_yes a1 a2 rfl hs.2.1).mono ?_
 rintro e w' ⟨rfl, m, rfl⟩
 exact ⟨rfl, z + m, by rw [World.drewN_drewN]⟩
end
end Go.Proofs.YtdpapnfjpefhkaaGreat
namespace Go.Proofs.YtdpapnfjpefhkaaGreat
open Go.RowKit Tr
set_option linter.unusedVariables false
set_option maxRecDepth 100000
section
variable {W w w' w'' w1 : World} {t ts m mo b i j q R R1 R2 : Nat} {d d1 d2 d' : St} {now k a c : Int}
set_option maxHeartbeats 64000000 in
theorem does_1 (h : BM W b ts t mo m now R R d d w) : Calls Tryz.prog 6 #[.pointer (some ⟨b, 0, none⟩), .agg (aB 1 a c)] w (DoR W b ts t mo m R) := by
 obtain ⟨o, hs, hP, hD⟩ := pair_cancels a R d
 have h0 := h.later (below_al w (.cells (aB 1 a c) 29))
 have hx := heap_alloc_new w (.cells (aB 1 a c) 29)
 have hck := ck_of h0 hx
 have HP : Hid (∀ w1, Below (w.alloc (.cells (aB 1 a c) 29)).heap.size (w.alloc (.cells (aB 1 a c) 29)) w1 → Calls Tryz.prog 8 #[pS t, .int .i64 a] w1 fun e w' => Po3 57 o w1 e w' ∧ Hid (BM W b ts t mo m now R R o.d d w') ∧ Hid (w'.heap[w.heap.size]? = some (.cells (aB 1 a c) 29 (0, 0)))) := fun w1 hb => (hP (h0.later hb)).mono fun e w' hh => ⟨hh.1, hh.2.1, hh.2.2.kb.box ((hb.block _ (lt_of_blk hx)).trans hx)⟩
 have HD : Hid (∀ {w0 w1 : World}, BM W b ts t mo m now R R o.d d w0 → w0.heap[w.heap.size]? = some (.cells (aB 1 a c) 29 (0, 0)) → Below w0.heap.size w0 w1 → Calls Tryz.prog 21 #[pM' m, .int .i64 a] w1 fun e w' => Po3 160 o w1 e w' ∧ Hid (BM W b ts t mo m now R R o.d o.d w') ∧ Hid (KB w0 w') ∧ Hid (w'.heap[w.heap.size]? = some (.cells (aB 1 a c) 29 (0, 0)))) := fun hB hX hb => (hD (hB.later hb)).mono fun e w' hh => ⟨hh.1, hh.2.1, (KB.of_below hb).trans hh.2.2.kb, hh.2.2.kb.box ((hb.block _ (lt_of_blk hX)).trans hX)⟩
 have HS := Lib.hid hs
 clear hs
 have k0 := (aB_cells hx).1
 clear h h0 hx hP hD
 unfold aB at *
 go_enter Tryz.func6, Tryz.ntmps6
 go_wp2_with fail
 clear k0
 generalize w.alloc (.cells #[.int .i64 1, .int .i64 a, .int .i64 c] 29) = w0 at *
 generalize w.heap.size = q at *
 refine but_startQ 1000 (fun w' => w'.cell? ⟨b, 0, none⟩ = some (.pointer (some ⟨ts, 0, none⟩)) ∧ w'.cell? ⟨b, 1, none⟩ = some (.pointer (some ⟨t, 0, none⟩)) ∧ w'.cell? ⟨b, 2, none⟩ = some (.pointer (some ⟨mo, 0, none⟩)) ∧ w'.cell? ⟨b, 3, none⟩ = some (.pointer (some ⟨m, 0, none⟩)) ∧ w'.cell? ⟨b, 4, none⟩ = some (.int .i64 now) ∧ w'.cell? ⟨q, 1, none⟩ = some (.int .i64 a) ∧ w'.cell? ⟨q, 2, none⟩ = some (.int .i64 c)) (by kernel_rfl) (by as_aux_lemma => kernel_rfl) ?_
 intro hTidy
 have hHeld := hck
 change AnyBut _ _ _ _ _ _ 14 _ _ _
 refine tkQ 0 rfl hTidy hHeld ?_
 refine tkQ 1 rfl hTidy hHeld ?_
 refine tkQ 2 rfl hTidy hHeld ?_
 refine tkQ 3 rfl hTidy hHeld ?_
 refine tkQ 4 rfl hTidy hHeld ?_
 refine tkQ 5 rfl hTidy hHeld ?_
 try simp only [l1, l2, l3, Act.put, l4, l5, l6]
 refine but_one (i := 6) (by kernel_rfl) rfl ?_
 intro K hK
 go_simp
 go_at_call 8
 refine (HP.out _ (by exact (Below.refl _ _).drew)).mono ?_
 rintro e w4 ⟨⟨P1, n1, k1, hn1, rfl, hl1⟩, hB4, hX4⟩
 have hHeld2 := ck_of hB4.out hX4.out
 refine hK _ _ (fun _ => hHeld2) ?_
 clear hK K hHeld
 have hHeld := hHeld2
 clear hHeld2
 refine tkQ 7 rfl hTidy hHeld ?_
 refine tkQ 8 rfl hTidy hHeld ?_
 refine tkQ 9 rfl hTidy hHeld ?_
 refine tkQ 10 rfl hTidy hHeld ?_
 refine tkQ 11 rfl hTidy hHeld ?_
 refine tkQ 12 rfl hTidy hHeld ?_
 refine tkQ 13 rfl hTidy hHeld ?_
 try simp only [l1, l2, l3, Act.put, l4, l5, l6]
 refine but_done (by kernel_rfl) ?_
 try clear hHeld
 clear hTidy
 have hck := ck_of hB4.out hX4.out
 go_wp2_with fail
 refine but_startQ 1000 (fun w' => w'.cell? ⟨b, 0, none⟩ = some (.pointer (some ⟨ts, 0, none⟩)) ∧ w'.cell? ⟨b, 1, none⟩ = some (.pointer (some ⟨t, 0, none⟩)) ∧ w'.cell? ⟨b, 2, none⟩ = some (.pointer (some ⟨mo, 0, none⟩)) ∧ w'.cell? ⟨b, 3, none⟩ = some (.pointer (some ⟨m, 0, none⟩)) ∧ w'.cell? ⟨b, 4, none⟩ = some (.int .i64 now) ∧ w'.cell? ⟨q, 1, none⟩ = some (.int .i64 a) ∧ w'.cell? ⟨q, 2, none⟩ = some (.int .i64 c)) (by kernel_rfl) (by as_aux_lemma => kernel_rfl) ?_
 intro hTidy
 have hHeld := hck
 change AnyBut _ _ _ _ _ _ 14 _ _ _
 refine tkQ 0 rfl hTidy hHeld ?_
 refine tkQ 1 rfl hTidy hHeld ?_
 refine tkQ 2 rfl hTidy hHeld ?_
 refine tkQ 3 rfl hTidy hHeld ?_
 refine tkQ 4 rfl hTidy hHeld ?_
 refine tkQ 5 rfl hTidy hHeld ?_
 try simp only [l1, l2, l3, Act.put, l4, l5, l6]
 refine but_one (i := 6) (by kernel_rfl) rfl ?_
 intro K hK
 go_simp
 go_at_call 21
 refine (HD.out hB4.out hX4.out (by exact (Below.refl _ _).drew)).mono ?_
 rintro e w5 ⟨⟨P2, n2, k2, hn2, rfl, hl2⟩, hB5, hK5, hX5⟩
 have hHeld2 := ck_of hB5.out hX5.out
 refine hK _ _ (fun _ => hHeld2) ?_
 clear hK K hHeld
 have hHeld := hHeld2
 clear hHeld2
 refine tkQ 7 rfl hTidy hHeld ?_
 refine tkQ 8 rfl hTidy hHeld ?_
 refine tkQ 9 rfl hTidy hHeld ?_
 refine tkQ 10 rfl hTidy hHeld ?_
 refine tkQ 11 rfl hTidy hHeld ?_
 refine tkQ 12 rfl hTidy hHeld ?_
 refine tkQ 13 rfl hTidy hHeld ?_
 try simp only [l1, l2, l3, Act.put, l4, l5, l6]
 refine but_done (by kernel_rfl) ?_
 try clear hHeld
 clear hTidy
 clear HP HD
 have HL := Lib.hid (lapsed_two hl1.out hl2.out hK5.out hn1.out hn2.out HS.out)
 clear hl1 hl2
 go_wp2_with fail
 refine HL.out.mono ?_
 rintro e w6 ⟨rfl, mq, rfl⟩
 go_wp2_with fail
 go_ret
 exact ⟨rfl, now, o.d, R, Nat.le_succ R, hB5.out.later (below_drewN w5 mq)⟩
end
end Go.Proofs.YtdpapnfjpefhkaaGreat
namespace Go.Proofs.YtdpapnfjpefhkaaGreat
open Go.RowKit Tr
set_option linter.unusedVariables false
set_option maxRecDepth 100000
section
variable {W w w' w'' w1 : World} {t ts m mo b i j q R R1 R2 : Nat} {d d1 d2 d' : St} {now k a c : Int}
set_option maxHeartbeats 64000000 in
theorem does_2 (h : BM W b ts t mo m now R R d d w) : Calls Tryz.prog 6 #[.pointer (some ⟨b, 0, none⟩), .agg (aB 2 a c)] w (DoR W b ts t mo m R) := by
 obtain ⟨o, hs, hP, hD⟩ := pair_deadline a c now R d
 have h0 := h.later (below_al w (.cells (aB 2 a c) 29))
 have hx := heap_alloc_new w (.cells (aB 2 a c) 29)
 have hck := ck_of h0 hx
 have HP : Hid (∀ w1, Below (w.alloc (.cells (aB 2 a c) 29)).heap.size (w.alloc (.cells (aB 2 a c) 29)) w1 → Calls Tryz.prog 9 #[pS t, .int .i64 a, .int .i64 c, .int .i64 now] w1 fun e w' => Po3 57 o w1 e w' ∧ Hid (BM W b ts t mo m now R R o.d d w') ∧ Hid (w'.heap[w.heap.size]? = some (.cells (aB 2 a c) 29 (0, 0)))) := fun w1 hb => (hP (h0.later hb)).mono fun e w' hh => ⟨hh.1, hh.2.1, hh.2.2.kb.box ((hb.block _ (lt_of_blk hx)).trans hx)⟩
 have HD : Hid (∀ {w0 w1 : World}, BM W b ts t mo m now R R o.d d w0 → w0.heap[w.heap.size]? = some (.cells (aB 2 a c) 29 (0, 0)) → Below w0.heap.size w0 w1 → Calls Tryz.prog 23 #[pM' m, .int .i64 a, .int .i64 c, .int .i64 now] w1 fun e w' => Po3 160 o w1 e w' ∧ Hid (BM W b ts t mo m now R R o.d o.d w') ∧ Hid (KB w0 w') ∧ Hid (w'.heap[w.heap.size]? = some (.cells (aB 2 a c) 29 (0, 0)))) := fun hB hX hb => (hD (hB.later hb)).mono fun e w' hh => ⟨hh.1, hh.2.1, (KB.of_below hb).trans hh.2.2.kb, hh.2.2.kb.box ((hb.block _ (lt_of_blk hX)).trans hX)⟩
 have HS := Lib.hid hs
 clear hs
 have k0 := (aB_cells hx).1
 clear h h0 hx hP hD
 unfold aB at *
 go_enter Tryz.func6, Tryz.ntmps6
 go_wp2_with fail
 clear k0
 generalize w.alloc (.cells #[.int .i64 2, .int .i64 a, .int .i64 c] 29) = w0 at *
 generalize w.heap.size = q at *
 refine but_startQ 1000 (fun w' => w'.cell? ⟨b, 0, none⟩ = some (.pointer (some ⟨ts, 0, none⟩)) ∧ w'.cell? ⟨b, 1, none⟩ = some (.pointer (some ⟨t, 0, none⟩)) ∧ w'.cell? ⟨b, 2, none⟩ = some (.pointer (some ⟨mo, 0, none⟩)) ∧ w'.cell? ⟨b, 3, none⟩ = some (.pointer (some ⟨m, 0, none⟩)) ∧ w'.cell? ⟨b, 4, none⟩ = some (.int .i64 now) ∧ w'.cell? ⟨q, 1, none⟩ = some (.int .i64 a) ∧ w'.cell? ⟨q, 2, none⟩ = some (.int .i64 c)) (by kernel_rfl) (by as_aux_lemma => kernel_rfl) ?_
 intro hTidy
 have hHeld := hck
 change AnyBut _ _ _ _ _ _ 20 _ _ _
 refine tkQ 0 rfl hTidy hHeld ?_
 refine tkQ 1 rfl hTidy hHeld ?_
 refine tkQ 2 rfl hTidy hHeld ?_
 refine tkQ 3 rfl hTidy hHeld ?_
 refine tkQ 4 rfl hTidy hHeld ?_
 refine tkQ 5 rfl hTidy hHeld ?_
 refine tkQ 6 rfl hTidy hHeld ?_
 refine tkQ 7 rfl hTidy hHeld ?_
 refine tkQ 8 rfl hTidy hHeld ?_
 refine tkQ 9 rfl hTidy hHeld ?_
 refine tkQ 10 rfl hTidy hHeld ?_
 refine tkQ 11 rfl hTidy hHeld ?_
 try simp only [l1, l2, l3, Act.put, l4, l5, l6]
 refine but_one (i := 12) (by kernel_rfl) rfl ?_
 intro K hK
 go_simp
 go_at_call 9
 refine (HP.out _ (by exact (Below.refl _ _).drew)).mono ?_
 rintro e w4 ⟨⟨P1, n1, k1, hn1, rfl, hl1⟩, hB4, hX4⟩
 have hHeld2 := ck_of hB4.out hX4.out
 refine hK _ _ (fun _ => hHeld2) ?_
 clear hK K hHeld
 have hHeld := hHeld2
 clear hHeld2
 refine tkQ 13 rfl hTidy hHeld ?_
 refine tkQ 14 rfl hTidy hHeld ?_
 refine tkQ 15 rfl hTidy hHeld ?_
 refine tkQ 16 rfl hTidy hHeld ?_
 refine tkQ 17 rfl hTidy hHeld ?_
 refine tkQ 18 rfl hTidy hHeld ?_
 refine tkQ 19 rfl hTidy hHeld ?_
 try simp only [l1, l2, l3, Act.put, l4, l5, l6]
 refine but_done (by kernel_rfl) ?_
 try clear hHeld
 clear hTidy
 have hck := ck_of hB4.out hX4.out
 go_wp2_with fail
 refine but_startQ 1000 (fun w' => w'.cell? ⟨b, 0, none⟩ = some (.pointer (some ⟨ts, 0, none⟩)) ∧ w'.cell? ⟨b, 1, none⟩ = some (.pointer (some ⟨t, 0, none⟩)) ∧ w'.cell? ⟨b, 2, none⟩ = some (.pointer (some ⟨mo, 0, none⟩)) ∧ w'.cell? ⟨b, 3, none⟩ = some (.pointer (some ⟨m, 0, none⟩)) ∧ w'.cell? ⟨b, 4, none⟩ = some (.int .i64 now) ∧ w'.cell? ⟨q, 1, none⟩ = some (.int .i64 a) ∧ w'.cell? ⟨q, 2, none⟩ = some (.int .i64 c)) (by kernel_rfl) (by as_aux_lemma => kernel_rfl) ?_
 intro hTidy
 have hHeld := hck
 change AnyBut _ _ _ _ _ _ 20 _ _ _
 refine tkQ 0 rfl hTidy hHeld ?_
 refine tkQ 1 rfl hTidy hHeld ?_
 refine tkQ 2 rfl hTidy hHeld ?_
 refine tkQ 3 rfl hTidy hHeld ?_
 refine tkQ 4 rfl hTidy hHeld ?_
 refine tkQ 5 rfl hTidy hHeld ?_
 refine tkQ 6 rfl hTidy hHeld ?_
 refine tkQ 7 rfl hTidy hHeld ?_
 refine tkQ 8 rfl hTidy hHeld ?_
 refine tkQ 9 rfl hTidy hHeld ?_
 refine tkQ 10 rfl hTidy hHeld ?_
 refine tkQ 11 rfl hTidy hHeld ?_
 try simp only [l1, l2, l3, Act.put, l4, l5, l6]
 refine but_one (i := 12) (by kernel_rfl) rfl ?_
 intro K hK
 go_simp
 go_at_call 23
 refine (HD.out hB4.out hX4.out (by exact (Below.refl _ _).drew)).mono ?_
 rintro e w5 ⟨⟨P2, n2, k2, hn2, rfl, hl2⟩, hB5, hK5, hX5⟩
 have hHeld2 := ck_of hB5.out hX5.out
 refine hK _ _ (fun _ => hHeld2) ?_
 clear hK K hHeld
 have hHeld := hHeld2
 clear hHeld2
 refine tkQ 13 rfl hTidy hHeld ?_
 refine tkQ 14 rfl hTidy hHeld ?_
 refine tkQ 15 rfl hTidy hHeld ?_
 refine tkQ 16 rfl hTidy hHeld ?_
 refine tkQ 17 rfl hTidy hHeld ?_
 refine tkQ 18 rfl hTidy hHeld ?_
 refine tkQ 19 rfl hTidy hHeld ?_
 try simp only [l1, l2, l3, Act.put, l4, l5, l6]
 refine but_done (by kernel_rfl) ?_
 try clear hHeld
 clear hTidy
 clear HP HD
 have HL := Lib.hid (lapsed_two hl1.out hl2.out hK5.out hn1.out hn2.out HS.out)
 clear hl1 hl2
 go_wp2_with fail
 refine HL.out.mono ?_
 rintro e w6 ⟨rfl, mq, rfl⟩
 go_wp2_with fail
 go_ret
 exact ⟨rfl, now, o.d, R, Nat.le_succ R, hB5.out.later (below_drewN w5 mq)⟩
end
end Go.Proofs.YtdpapnfjpefhkaaGreat
namespace Go.Proofs.YtdpapnfjpefhkaaGreat
open Go.RowKit Tr
set_option linter.unusedVariables false
set_option maxRecDepth 100000
section
variable {W w w' w'' w1 : World} {t ts m mo b i j q R R1 R2 : Nat} {d d1 d2 d' : St} {now k a c : Int}
set_option maxHeartbeats 64000000 in
theorem does_3 (h : BM W b ts t mo m now R R d d w) : Calls Tryz.prog 6 #[.pointer (some ⟨b, 0, none⟩), .agg (aB 3 a c)] w (DoR W b ts t mo m R) := by
 obtain ⟨v, r, d', hP, hD⟩ := pair_without a R d
 have h0 := h.later (below_al w (.cells (aB 3 a c) 29))
 have hx := heap_alloc_new w (.cells (aB 3 a c) 29)
 have hck := ck_of h0 hx
 have HP : Hid (∀ w1, Below (w.alloc (.cells (aB 3 a c) 29)).heap.size (w.alloc (.cells (aB 3 a c) 29)) w1 → Calls Tryz.prog 10 #[pS t, .int .i64 a] w1 fun e w' => Pov (.tuple #[.int .i64 v, .int .i64 r]) w1 e w' ∧ Hid (BM W b ts t mo m now R R d' d w') ∧ Hid (w'.heap[w.heap.size]? = some (.cells (aB 3 a c) 29 (0, 0)))) := fun w1 hb => (hP (h0.later hb)).mono fun e w' hh => ⟨hh.1, hh.2.1, hh.2.2.kb.box ((hb.block _ (lt_of_blk hx)).trans hx)⟩
 have HD : Hid (∀ {w0 w1 : World}, BM W b ts t mo m now R R d' d w0 → w0.heap[w.heap.size]? = some (.cells (aB 3 a c) 29 (0, 0)) → Below w0.heap.size w0 w1 → Calls Tryz.prog 24 #[pM' m, .int .i64 a] w1 fun e w' => Pov (.tuple #[.int .i64 v, .int .i64 r]) w1 e w' ∧ Hid (BM W b ts t mo m now R R d' d' w') ∧ Hid (KB w0 w') ∧ Hid (w'.heap[w.heap.size]? = some (.cells (aB 3 a c) 29 (0, 0)))) := fun hB hX hb => (hD (hB.later hb)).mono fun e w' hh => ⟨hh.1, hh.2.1, (KB.of_below hb).trans hh.2.2.kb, hh.2.2.kb.box ((hb.block _ (lt_of_blk hX)).trans hX)⟩
 simp only [Pov] at *
 have k0 := (aB_cells hx).1
 clear h h0 hx hP hD
 unfold aB at *
 go_enter Tryz.func6, Tryz.ntmps6
 go_wp2_with fail
 clear k0
 generalize w.alloc (.cells #[.int .i64 3, .int .i64 a, .int .i64 c] 29) = w0 at *
 generalize w.heap.size = q at *
 refine but_startQ 1000 (fun w' => w'.cell? ⟨b, 0, none⟩ = some (.pointer (some ⟨ts, 0, none⟩)) ∧ w'.cell? ⟨b, 1, none⟩ = some (.pointer (some ⟨t, 0, none⟩)) ∧ w'.cell? ⟨b, 2, none⟩ = some (.pointer (some ⟨mo, 0, none⟩)) ∧ w'.cell? ⟨b, 3, none⟩ = some (.pointer (some ⟨m, 0, none⟩)) ∧ w'.cell? ⟨b, 4, none⟩ = some (.int .i64 now) ∧ w'.cell? ⟨q, 1, none⟩ = some (.int .i64 a) ∧ w'.cell? ⟨q, 2, none⟩ = some (.int .i64 c)) (by kernel_rfl) (by as_aux_lemma => kernel_rfl) ?_
 intro hTidy
 have hHeld := hck
 change AnyBut _ _ _ _ _ _ 12 _ _ _
 refine tkQ 0 rfl hTidy hHeld ?_
 refine tkQ 1 rfl hTidy hHeld ?_
 refine tkQ 2 rfl hTidy hHeld ?_
 refine tkQ 3 rfl hTidy hHeld ?_
 refine tkQ 4 rfl hTidy hHeld ?_
 refine tkQ 5 rfl hTidy hHeld ?_
 try simp only [l1, l2, l3, Act.put, l4, l5, l6]
 refine but_one (i := 6) (by kernel_rfl) rfl ?_
 intro K hK
 go_simp
 go_at_call 10
 refine (HP.out _ (by exact (Below.refl _ _).drew)).mono ?_
 rintro e w4 ⟨rfl, hB4, hX4⟩
 have hHeld2 := ck_of hB4.out hX4.out
 refine hK _ _ (fun _ => hHeld2) ?_
 clear hK K hHeld
 have hHeld := hHeld2
 clear hHeld2
 refine tkQ 7 rfl hTidy hHeld ?_
 refine tkQ 8 rfl hTidy hHeld ?_
 refine tkQ 9 rfl hTidy hHeld ?_
 refine tkQ 10 rfl hTidy hHeld ?_
 refine tkQ 11 rfl hTidy hHeld ?_
 try simp only [l1, l2, l3, Act.put, l4, l5, l6]
 refine but_done (by kernel_rfl) ?_
 try clear hHeld
 clear hTidy
 have hck := ck_of hB4.out hX4.out
 go_wp2_with fail
 refine but_startQ 1000 (fun w' => w'.cell? ⟨b, 0, none⟩ = some (.pointer (some ⟨ts, 0, none⟩)) ∧ w'.cell? ⟨b, 1, none⟩ = some (.pointer (some ⟨t, 0, none⟩)) ∧ w'.cell? ⟨b, 2, none⟩ = some (.pointer (some ⟨mo, 0, none⟩)) ∧ w'.cell? ⟨b, 3, none⟩ = some (.pointer (some ⟨m, 0, none⟩)) ∧ w'.cell? ⟨b, 4, none⟩ = some (.int .i64 now) ∧ w'.cell? ⟨q, 1, none⟩ = some (.int .i64 a) ∧ w'.cell? ⟨q, 2, none⟩ = some (.int .i64 c)) (by kernel_rfl) (by as_aux_lemma => kernel_rfl) ?_
 intro hTidy
 have hHeld := hck
 change AnyBut _ _ _ _ _ _ 12 _ _ _
 refine tkQ 0 rfl hTidy hHeld ?_
 refine tkQ 1 rfl hTidy hHeld ?_
 refine tkQ 2 rfl hTidy hHeld ?_
 refine tkQ 3 rfl hTidy hHeld ?_
 refine tkQ 4 rfl hTidy hHeld ?_
 refine tkQ 5 rfl hTidy hHeld ?_
 try simp only [l1, l2, l3, Act.put, l4, l5, l6]
 refine but_one (i := 6) (by kernel_rfl) rfl ?_
 intro K hK
 go_simp
 go_at_call 24
 refine (HD.out hB4.out hX4.out (by exact (Below.refl _ _).drew)).mono ?_
 rintro e w5 ⟨rfl, hB5, hK5, hX5⟩
 have hHeld2 := ck_of hB5.out hX5.out
 refine hK _ _ (fun _ => hHeld2) ?_
 clear hK K hHeld
 have hHeld := hHeld2
 clear hHeld2
 refine tkQ 7 rfl hTidy hHeld ?_
 refine tkQ 8 rfl hTidy hHeld ?_
 refine tkQ 9 rfl hTidy hHeld ?_
 refine tkQ 10 rfl hTidy hHeld ?_
 refine tkQ 11 rfl hTidy hHeld ?_
 try simp only [l1, l2, l3, Act.put, l4, l5, l6]
 refine but_done (by kernel_rfl) ?_
 try clear hHeld
 clear hTidy
 clear HP HD
 go_wp2_with fail
 go_ret
 exact ⟨rfl, now, d', R, Nat.le_succ R, hB5.out⟩
end
end Go.Proofs.YtdpapnfjpefhkaaGreat
namespace Go.Proofs.YtdpapnfjpefhkaaGreat
open Go.RowKit Tr
set_option linter.unusedVariables false
set_option maxRecDepth 100000
section
variable {W w w' w'' w1 : World} {t ts m mo b i j q R R1 R2 : Nat} {d d1 d2 d' : St} {now k a c : Int}
set_option maxHeartbeats 64000000 in
theorem does_4 (h : BM W b ts t mo m now R R d d w) : Calls Tryz.prog 6 #[.pointer (some ⟨b, 0, none⟩), .agg (aB 4 a c)] w (DoR W b ts t mo m R) := by
 obtain ⟨o, hs, hP, hD⟩ := pair_cancel a c R d h.hd
 have h0 := h.later (below_al w (.cells (aB 4 a c) 29))
 have hx := heap_alloc_new w (.cells (aB 4 a c) 29)
 have hck := ck_of h0 hx
 have HP : Hid (∀ w1, Below (w.alloc (.cells (aB 4 a c) 29)).heap.size (w.alloc (.cells (aB 4 a c) 29)) w1 → Calls Tryz.prog 13 #[pS t, .int .i64 a, .int .i64 c] w1 fun e w' => PoC 57 59 o w1 e w' ∧ Hid (BM W b ts t mo m now R R o.d d w') ∧ Hid (w'.heap[w.heap.size]? = some (.cells (aB 4 a c) 29 (0, 0)))) := fun w1 hb => (hP (h0.later hb)).mono fun e w' hh => ⟨hh.1, hh.2.1, hh.2.2.kb.box ((hb.block _ (lt_of_blk hx)).trans hx)⟩
 have HD : Hid (∀ {w0 w1 : World}, BM W b ts t mo m now R R o.d d w0 → w0.heap[w.heap.size]? = some (.cells (aB 4 a c) 29 (0, 0)) → Below w0.heap.size w0 w1 → Calls Tryz.prog 25 #[pM' m, .int .i64 a, .int .i64 c] w1 fun e w' => PoC 160 164 o w1 e w' ∧ Hid (BM W b ts t mo m now R R o.d o.d w') ∧ Hid (KB w0 w') ∧ Hid (w'.heap[w.heap.size]? = some (.cells (aB 4 a c) 29 (0, 0)))) := fun hB hX hb => (hD (hB.later hb)).mono fun e w' hh => ⟨hh.1, hh.2.1, (KB.of_below hb).trans hh.2.2.kb, hh.2.2.kb.box ((hb.block _ (lt_of_blk hX)).trans hX)⟩
 have HS := Lib.hid hs
 clear hs
 have k0 := (aB_cells hx).1
 clear h h0 hx hP hD
 unfold aB at *
 go_enter Tryz.func6, Tryz.ntmps6
 go_wp2_with fail
 clear k0
 generalize w.alloc (.cells #[.int .i64 4, .int .i64 a, .int .i64 c] 29) = w0 at *
 generalize w.heap.size = q at *
 refine but_startQ 1000 (fun w' => w'.cell? ⟨b, 0, none⟩ = some (.pointer (some ⟨ts, 0, none⟩)) ∧ w'.cell? ⟨b, 1, none⟩ = some (.pointer (some ⟨t, 0, none⟩)) ∧ w'.cell? ⟨b, 2, none⟩ = some (.pointer (some ⟨mo, 0, none⟩)) ∧ w'.cell? ⟨b, 3, none⟩ = some (.pointer (some ⟨m, 0, none⟩)) ∧ w'.cell? ⟨b, 4, none⟩ = some (.int .i64 now) ∧ w'.cell? ⟨q, 1, none⟩ = some (.int .i64 a) ∧ w'.cell? ⟨q, 2, none⟩ = some (.int .i64 c)) (by kernel_rfl) (by as_aux_lemma => kernel_rfl) ?_
 intro hTidy
 have hHeld := hck
 change AnyBut _ _ _ _ _ _ 16 _ _ _
 refine tkQ 0 rfl hTidy hHeld ?_
 refine tkQ 1 rfl hTidy hHeld ?_
 refine tkQ 2 rfl hTidy hHeld ?_
 refine tkQ 3 rfl hTidy hHeld ?_
 refine tkQ 4 rfl hTidy hHeld ?_
 refine tkQ 5 rfl hTidy hHeld ?_
 refine tkQ 6 rfl hTidy hHeld ?_
 refine tkQ 7 rfl hTidy hHeld ?_
 try simp only [l1, l2, l3, Act.put, l4, l5, l6]
 refine but_one (i := 8) (by kernel_rfl) rfl ?_
 intro K hK
 go_simp
 go_at_call 13
 refine (HP.out _ (by exact (Below.refl _ _).drew)).mono ?_
 rintro e w4 ⟨⟨P1, n1, k1, P3, n3, k3, hn1, rfl, hl1, hm1⟩, hB4, hX4⟩
 have hHeld2 := ck_of hB4.out hX4.out
 refine hK _ _ (fun _ => hHeld2) ?_
 clear hK K hHeld
 have hHeld := hHeld2
 clear hHeld2
 refine tkQ 9 rfl hTidy hHeld ?_
 refine tkQ 10 rfl hTidy hHeld ?_
 refine tkQ 11 rfl hTidy hHeld ?_
 refine tkQ 12 rfl hTidy hHeld ?_
 refine tkQ 13 rfl hTidy hHeld ?_
 refine tkQ 14 rfl hTidy hHeld ?_
 refine tkQ 15 rfl hTidy hHeld ?_
 try simp only [l1, l2, l3, Act.put, l4, l5, l6]
 refine but_done (by kernel_rfl) ?_
 try clear hHeld
 clear hTidy
 have hck := ck_of hB4.out hX4.out
 go_wp2_with fail
 refine but_startQ 1000 (fun w' => w'.cell? ⟨b, 0, none⟩ = some (.pointer (some ⟨ts, 0, none⟩)) ∧ w'.cell? ⟨b, 1, none⟩ = some (.pointer (some ⟨t, 0, none⟩)) ∧ w'.cell? ⟨b, 2, none⟩ = some (.pointer (some ⟨mo, 0, none⟩)) ∧ w'.cell? ⟨b, 3, none⟩ = some (.pointer (some ⟨m, 0, none⟩)) ∧ w'.cell? ⟨b, 4, none⟩ = some (.int .i64 now) ∧ w'.cell? ⟨q, 1, none⟩ = some (.int .i64 a) ∧ w'.cell? ⟨q, 2, none⟩ = some (.int .i64 c)) (by kernel_rfl) (by as_aux_lemma => kernel_rfl) ?_
 intro hTidy
 have hHeld := hck
 change AnyBut _ _ _ _ _ _ 16 _ _ _
 refine tkQ 0 rfl hTidy hHeld ?_
 refine tkQ 1 rfl hTidy hHeld ?_
 refine tkQ 2 rfl hTidy hHeld ?_
 refine tkQ 3 rfl hTidy hHeld ?_
 refine tkQ 4 rfl hTidy hHeld ?_
 refine tkQ 5 rfl hTidy hHeld ?_
 refine tkQ 6 rfl hTidy hHeld ?_
 refine tkQ 7 rfl hTidy hHeld ?_
 try simp only [l1, l2, l3, Act.put, l4, l5, l6]
 refine but_one (i := 8) (by kernel_rfl) rfl ?_
 intro K hK
 go_simp
 go_at_call 25
 refine (HD.out hB4.out hX4.out (by exact (Below.refl _ _).drew)).mono ?_
 rintro e w5 ⟨⟨P2, n2, k2, P4, n4, k4, hn2, rfl, hl2, hm2⟩, hB5, hK5, hX5⟩
 have hHeld2 := ck_of hB5.out hX5.out
 refine hK _ _ (fun _ => hHeld2) ?_
 clear hK K hHeld
 have hHeld := hHeld2
 clear hHeld2
 refine tkQ 9 rfl hTidy hHeld ?_
 refine tkQ 10 rfl hTidy hHeld ?_
 refine tkQ 11 rfl hTidy hHeld ?_
 refine tkQ 12 rfl hTidy hHeld ?_
 refine tkQ 13 rfl hTidy hHeld ?_
 refine tkQ 14 rfl hTidy hHeld ?_
 refine tkQ 15 rfl hTidy hHeld ?_
 try simp only [l1, l2, l3, Act.put, l4, l5, l6]
 refine but_done (by kernel_rfl) ?_
 try clear hHeld
 clear hTidy
 clear HP HD
 have HL := Lib.hid (lapsed_two hl1.out hl2.out hK5.out hn1.out.1 hn2.out.1 HS.out)
 have HM : Hid (∀ z, Calls Tryz.prog 26 #[.slice P3 n3 k3, .slice P4 n4 k4] (w5.drewN z) fun e w' => e = .returned (.bool true) ∧ ∃ m, w' = w5.drewN m) := fun z => starts_two hm1.out hm2.out hK5.out hn1.out.2 hn2.out.2 HS.out z
 clear hl1 hl2 hm1 hm2
 go_wp2_with fail
 refine HL.out.mono ?_
 rintro e w6 ⟨rfl, mq, rfl⟩
 go_wp2_with fail
 refine (HM.out _).mono ?_
 rintro e w6 ⟨rfl, mq2, rfl⟩
 go_wp2_with fail
 go_ret
 exact ⟨rfl, now, o.d, R, Nat.le_succ R, hB5.out.later (below_drewN w5 mq2)⟩
end
end Go.Proofs.YtdpapnfjpefhkaaGreat
