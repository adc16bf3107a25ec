/- One act on both sides: the same. Conditions: each theorem's own premises.
One act on both sides: the same. Conditions: each theorem's own premises.
Done and a wait at a context's channel, on both sides: the same answer. Conditions: each theorem's own premises.
Time goes on, on both sides: what fires, whom it concerns; blocks that keep what was told. Conditions: each theorem's own premises.
One act on both sides: the same. Conditions: each theorem's own premises.
What both sides' contexts show: the same. Conditions: each theorem's own premises. -/
import Derived.Test.YtdpapnfjpefhkaaGreatDow0m
namespace Go.Proofs.YtdpapnfjpefhkaaGreat
open Go.RowKit Tr
set_option linter.unusedVariables false
set_option maxRecDepth 100000
section
variable {W w w' w'' w1 : World} {t ts m mo b i j q R R1 R2 : Nat} {d d1 d2 d' : St} {now k a c : Int}
set_option maxHeartbeats 64000000 in
theorem does_5 (h : BM W b ts t mo m now R R d d w) : Calls Tryz.prog 6 #[.pointer (some ⟨b, 0, none⟩), .agg (aB 5 a c)] w (DoR W b ts t mo m R) := by
 obtain ⟨o, hs, hP, hD⟩ := pair_after a c R d h.hd
 have h0 := h.later (below_al w (.cells (aB 5 a c) 29))
 have hx := heap_alloc_new w (.cells (aB 5 a c) 29)
 have hck := ck_of h0 hx
 have HP : Hid (∀ w1, Below (w.alloc (.cells (aB 5 a c) 29)).heap.size (w.alloc (.cells (aB 5 a c) 29)) w1 → Calls Tryz.prog 11 #[pS t, .int .i64 a, .int .i64 c] w1 fun e w' => PoA 59 o w1 e w' ∧ Hid (BM W b ts t mo m now R R o.d d w') ∧ Hid (w'.heap[w.heap.size]? = some (.cells (aB 5 a c) 29 (0, 0)))) := fun w1 hb => (hP (h0.later hb)).mono fun e w' hh => ⟨hh.1, hh.2.1, hh.2.2.kb.box ((hb.block _ (lt_of_blk hx)).trans hx)⟩
 have HD : Hid (∀ {w0 w1 : World}, BM W b ts t mo m now R R o.d d w0 → w0.heap[w.heap.size]? = some (.cells (aB 5 a c) 29 (0, 0)) → Below w0.heap.size w0 w1 → Calls Tryz.prog 27 #[pM' m, .int .i64 a, .int .i64 c] w1 fun e w' => PoA 164 o w1 e w' ∧ Hid (BM W b ts t mo m now R R o.d o.d w') ∧ Hid (KB w0 w') ∧ Hid (w'.heap[w.heap.size]? = some (.cells (aB 5 a c) 29 (0, 0)))) := fun hB hX hb => (hD (hB.later hb)).mono fun e w' hh => ⟨hh.1, hh.2.1, (KB.of_below hb).trans hh.2.2.kb, hh.2.2.kb.box ((hb.block _ (lt_of_blk hX)).trans hX)⟩
 have HS := Lib.hid hs
 clear hs
 have k0 := (aB_cells hx).1
 clear h h0 hx hP hD
 unfold aB at *
 go_enter Tryz.func6, Tryz.ntmps6
 go_wp2_with fail
 clear k0
 generalize w.alloc (.cells #[.int .i64 5, .int .i64 a, .int .i64 c] 29) = w0 at *
 generalize w.heap.size = q at *
 refine but_startQ 1000 (fun w' => w'.cell? ⟨b, 0, none⟩ = some (.pointer (some ⟨ts, 0, none⟩)) ∧ w'.cell? ⟨b, 1, none⟩ = some (.pointer (some ⟨t, 0, none⟩)) ∧ w'.cell? ⟨b, 2, none⟩ = some (.pointer (some ⟨mo, 0, none⟩)) ∧ w'.cell? ⟨b, 3, none⟩ = some (.pointer (some ⟨m, 0, none⟩)) ∧ w'.cell? ⟨b, 4, none⟩ = some (.int .i64 now) ∧ w'.cell? ⟨q, 1, none⟩ = some (.int .i64 a) ∧ w'.cell? ⟨q, 2, none⟩ = some (.int .i64 c)) (by kernel_rfl) (by as_aux_lemma => kernel_rfl) ?_
 intro hTidy
 have hHeld := hck
 change AnyBut _ _ _ _ _ _ 16 _ _ _
 refine tkQ 0 rfl hTidy hHeld ?_
 refine tkQ 1 rfl hTidy hHeld ?_
 refine tkQ 2 rfl hTidy hHeld ?_
 refine tkQ 3 rfl hTidy hHeld ?_
 refine tkQ 4 rfl hTidy hHeld ?_
 refine tkQ 5 rfl hTidy hHeld ?_
 refine tkQ 6 rfl hTidy hHeld ?_
 refine tkQ 7 rfl hTidy hHeld ?_
 try simp only [l1, l2, l3, Act.put, l4, l5, l6]
 refine but_one (i := 8) (by kernel_rfl) rfl ?_
 intro K hK
 go_simp
 go_at_call 11
 refine (HP.out _ (by exact (Below.refl _ _).drew)).mono ?_
 rintro e w4 ⟨⟨P3, n3, k3, hn1, rfl, hm1⟩, hB4, hX4⟩
 have hHeld2 := ck_of hB4.out hX4.out
 refine hK _ _ (fun _ => hHeld2) ?_
 clear hK K hHeld
 have hHeld := hHeld2
 clear hHeld2
 refine tkQ 9 rfl hTidy hHeld ?_
 refine tkQ 10 rfl hTidy hHeld ?_
 refine tkQ 11 rfl hTidy hHeld ?_
 refine tkQ 12 rfl hTidy hHeld ?_
 refine tkQ 13 rfl hTidy hHeld ?_
 refine tkQ 14 rfl hTidy hHeld ?_
 refine tkQ 15 rfl hTidy hHeld ?_
 try simp only [l1, l2, l3, Act.put, l4, l5, l6]
 refine but_done (by kernel_rfl) ?_
 try clear hHeld
 clear hTidy
 have hck := ck_of hB4.out hX4.out
 go_wp2_with fail
 refine but_startQ 1000 (fun w' => w'.cell? ⟨b, 0, none⟩ = some (.pointer (some ⟨ts, 0, none⟩)) ∧ w'.cell? ⟨b, 1, none⟩ = some (.pointer (some ⟨t, 0, none⟩)) ∧ w'.cell? ⟨b, 2, none⟩ = some (.pointer (some ⟨mo, 0, none⟩)) ∧ w'.cell? ⟨b, 3, none⟩ = some (.pointer (some ⟨m, 0, none⟩)) ∧ w'.cell? ⟨b, 4, none⟩ = some (.int .i64 now) ∧ w'.cell? ⟨q, 1, none⟩ = some (.int .i64 a) ∧ w'.cell? ⟨q, 2, none⟩ = some (.int .i64 c)) (by kernel_rfl) (by as_aux_lemma => kernel_rfl) ?_
 intro hTidy
 have hHeld := hck
 change AnyBut _ _ _ _ _ _ 16 _ _ _
 refine tkQ 0 rfl hTidy hHeld ?_
 refine tkQ 1 rfl hTidy hHeld ?_
 refine tkQ 2 rfl hTidy hHeld ?_
 refine tkQ 3 rfl hTidy hHeld ?_
 refine tkQ 4 rfl hTidy hHeld ?_
 refine tkQ 5 rfl hTidy hHeld ?_
 refine tkQ 6 rfl hTidy hHeld ?_
 refine tkQ 7 rfl hTidy hHeld ?_
 try simp only [l1, l2, l3, Act.put, l4, l5, l6]
 refine but_one (i := 8) (by kernel_rfl) rfl ?_
 intro K hK
 go_simp
 go_at_call 27
 refine (HD.out hB4.out hX4.out (by exact (Below.refl _ _).drew)).mono ?_
 rintro e w5 ⟨⟨P4, n4, k4, hn2, rfl, hm2⟩, hB5, hK5, hX5⟩
 have hHeld2 := ck_of hB5.out hX5.out
 refine hK _ _ (fun _ => hHeld2) ?_
 clear hK K hHeld
 have hHeld := hHeld2
 clear hHeld2
 refine tkQ 9 rfl hTidy hHeld ?_
 refine tkQ 10 rfl hTidy hHeld ?_
 refine tkQ 11 rfl hTidy hHeld ?_
 refine tkQ 12 rfl hTidy hHeld ?_
 refine tkQ 13 rfl hTidy hHeld ?_
 refine tkQ 14 rfl hTidy hHeld ?_
 refine tkQ 15 rfl hTidy hHeld ?_
 try simp only [l1, l2, l3, Act.put, l4, l5, l6]
 refine but_done (by kernel_rfl) ?_
 try clear hHeld
 clear hTidy
 clear HP HD
 have HM : Hid (∀ z, Calls Tryz.prog 26 #[.slice P3 n3 k3, .slice P4 n4 k4] (w5.drewN z) fun e w' => e = .returned (.bool true) ∧ ∃ m, w' = w5.drewN m) := fun z => starts_two hm1.out hm2.out hK5.out hn1.out hn2.out HS.out z
 clear hm1 hm2
 go_wp2_with fail
 refine (HM.out 0).mono ?_
 rintro e w6 ⟨rfl, mq2, rfl⟩
 go_wp2_with fail
 go_ret
 exact ⟨rfl, now, o.d, R, Nat.le_succ R, hB5.out.later (below_drewN w5 mq2)⟩
end
end Go.Proofs.YtdpapnfjpefhkaaGreat
namespace Go.Proofs.YtdpapnfjpefhkaaGreat
open Go.RowKit Tr
set_option linter.unusedVariables false
set_option maxRecDepth 100000
section
variable {W w w' w'' w1 : World} {t ts m mo b i j q R R1 R2 : Nat} {d d1 d2 d' : St} {now k a c : Int}
set_option maxHeartbeats 64000000 in
theorem does_6 (h : BM W b ts t mo m now R R d d w) : Calls Tryz.prog 6 #[.pointer (some ⟨b, 0, none⟩), .agg (aB 6 a c)] w (DoR W b ts t mo m R) := by
 obtain ⟨v, r, d', hP, hD⟩ := pair_unafter a R d
 have h0 := h.later (below_al w (.cells (aB 6 a c) 29))
 have hx := heap_alloc_new w (.cells (aB 6 a c) 29)
 have hck := ck_of h0 hx
 have HP : Hid (∀ w1, Below (w.alloc (.cells (aB 6 a c) 29)).heap.size (w.alloc (.cells (aB 6 a c) 29)) w1 → Calls Tryz.prog 16 #[pS t, .int .i64 a] w1 fun e w' => Pov (un2 v r) w1 e w' ∧ Hid (BM W b ts t mo m now R R d' d w') ∧ Hid (w'.heap[w.heap.size]? = some (.cells (aB 6 a c) 29 (0, 0)))) := fun w1 hb => (hP (h0.later hb)).mono fun e w' hh => ⟨hh.1, hh.2.1, hh.2.2.kb.box ((hb.block _ (lt_of_blk hx)).trans hx)⟩
 have HD : Hid (∀ {w0 w1 : World}, BM W b ts t mo m now R R d' d w0 → w0.heap[w.heap.size]? = some (.cells (aB 6 a c) 29 (0, 0)) → Below w0.heap.size w0 w1 → Calls Tryz.prog 28 #[pM' m, .int .i64 a] w1 fun e w' => Pov (un2 v r) w1 e w' ∧ Hid (BM W b ts t mo m now R R d' d' w') ∧ Hid (KB w0 w') ∧ Hid (w'.heap[w.heap.size]? = some (.cells (aB 6 a c) 29 (0, 0)))) := fun hB hX hb => (hD (hB.later hb)).mono fun e w' hh => ⟨hh.1, hh.2.1, (KB.of_below hb).trans hh.2.2.kb, hh.2.2.kb.box ((hb.block _ (lt_of_blk hX)).trans hX)⟩
 simp only [Pov, un2] at *
 have k0 := (aB_cells hx).1
 clear h h0 hx hP hD
 unfold aB at *
 go_enter Tryz.func6, Tryz.ntmps6
 go_wp2_with fail
 clear k0
 generalize w.alloc (.cells #[.int .i64 6, .int .i64 a, .int .i64 c] 29) = w0 at *
 generalize w.heap.size = q at *
 refine but_startQ 1000 (fun w' => w'.cell? ⟨b, 0, none⟩ = some (.pointer (some ⟨ts, 0, none⟩)) ∧ w'.cell? ⟨b, 1, none⟩ = some (.pointer (some ⟨t, 0, none⟩)) ∧ w'.cell? ⟨b, 2, none⟩ = some (.pointer (some ⟨mo, 0, none⟩)) ∧ w'.cell? ⟨b, 3, none⟩ = some (.pointer (some ⟨m, 0, none⟩)) ∧ w'.cell? ⟨b, 4, none⟩ = some (.int .i64 now) ∧ w'.cell? ⟨q, 1, none⟩ = some (.int .i64 a) ∧ w'.cell? ⟨q, 2, none⟩ = some (.int .i64 c)) (by kernel_rfl) (by as_aux_lemma => kernel_rfl) ?_
 intro hTidy
 have hHeld := hck
 change AnyBut _ _ _ _ _ _ 12 _ _ _
 refine tkQ 0 rfl hTidy hHeld ?_
 refine tkQ 1 rfl hTidy hHeld ?_
 refine tkQ 2 rfl hTidy hHeld ?_
 refine tkQ 3 rfl hTidy hHeld ?_
 refine tkQ 4 rfl hTidy hHeld ?_
 refine tkQ 5 rfl hTidy hHeld ?_
 try simp only [l1, l2, l3, Act.put, l4, l5, l6]
 refine but_one (i := 6) (by kernel_rfl) rfl ?_
 intro K hK
 go_simp
 go_at_call 16
 refine (HP.out _ (by exact (Below.refl _ _).drew)).mono ?_
 rintro e w4 ⟨rfl, hB4, hX4⟩
 have hHeld2 := ck_of hB4.out hX4.out
 refine hK _ _ (fun _ => hHeld2) ?_
 clear hK K hHeld
 have hHeld := hHeld2
 clear hHeld2
 refine tkQ 7 rfl hTidy hHeld ?_
 refine tkQ 8 rfl hTidy hHeld ?_
 refine tkQ 9 rfl hTidy hHeld ?_
 refine tkQ 10 rfl hTidy hHeld ?_
 refine tkQ 11 rfl hTidy hHeld ?_
 try simp only [l1, l2, l3, Act.put, l4, l5, l6]
 refine but_done (by kernel_rfl) ?_
 try clear hHeld
 clear hTidy
 have hck := ck_of hB4.out hX4.out
 go_wp2_with fail
 refine but_startQ 1000 (fun w' => w'.cell? ⟨b, 0, none⟩ = some (.pointer (some ⟨ts, 0, none⟩)) ∧ w'.cell? ⟨b, 1, none⟩ = some (.pointer (some ⟨t, 0, none⟩)) ∧ w'.cell? ⟨b, 2, none⟩ = some (.pointer (some ⟨mo, 0, none⟩)) ∧ w'.cell? ⟨b, 3, none⟩ = some (.pointer (some ⟨m, 0, none⟩)) ∧ w'.cell? ⟨b, 4, none⟩ = some (.int .i64 now) ∧ w'.cell? ⟨q, 1, none⟩ = some (.int .i64 a) ∧ w'.cell? ⟨q, 2, none⟩ = some (.int .i64 c)) (by kernel_rfl) (by as_aux_lemma => kernel_rfl) ?_
 intro hTidy
 have hHeld := hck
 change AnyBut _ _ _ _ _ _ 12 _ _ _
 refine tkQ 0 rfl hTidy hHeld ?_
 refine tkQ 1 rfl hTidy hHeld ?_
 refine tkQ 2 rfl hTidy hHeld ?_
 refine tkQ 3 rfl hTidy hHeld ?_
 refine tkQ 4 rfl hTidy hHeld ?_
 refine tkQ 5 rfl hTidy hHeld ?_
 try simp only [l1, l2, l3, Act.put, l4, l5, l6]
 refine but_one (i := 6) (by kernel_rfl) rfl ?_
 intro K hK
 go_simp
 go_at_call 28
 refine (HD.out hB4.out hX4.out (by exact (Below.refl _ _).drew)).mono ?_
 rintro e w5 ⟨rfl, hB5, hK5, hX5⟩
 have hHeld2 := ck_of hB5.out hX5.out
 refine hK _ _ (fun _ => hHeld2) ?_
 clear hK K hHeld
 have hHeld := hHeld2
 clear hHeld2
 refine tkQ 7 rfl hTidy hHeld ?_
 refine tkQ 8 rfl hTidy hHeld ?_
 refine tkQ 9 rfl hTidy hHeld ?_
 refine tkQ 10 rfl hTidy hHeld ?_
 refine tkQ 11 rfl hTidy hHeld ?_
 try simp only [l1, l2, l3, Act.put, l4, l5, l6]
 refine but_done (by kernel_rfl) ?_
 try clear hHeld
 clear hTidy
 clear HP HD
 go_wp2_with fail
 go_ret
 exact ⟨rfl, now, d', R, Nat.le_succ R, hB5.out⟩
end
end Go.Proofs.YtdpapnfjpefhkaaGreat
namespace Go.Proofs.YtdpapnfjpefhkaaGreat
open Go.RowKit Tr
set_option linter.unusedVariables false
set_option maxRecDepth 100000
section
variable {W w w' w'' w1 : World} {t ts m mo b i j R R' R1 R2 c : Nat} {s s2 s' : St} {d d1 d2 d' : St} {now k : Int} {x y : Cx} {O : Nat → Prop} {a : Ch.Wt}
structure BX (W : World) (b ts t mo m : Nat) (now : Int) (R1 R2 : Nat) (s s2 : St) (w : World) : Prop where
 ex : ∃ O O2, FS W t (some ts) s O w ∧ RC W m mo s2 O2 w ∧ IX R1 s ∧ IX R2 s2 ∧ ∀ k, O k → ¬ O2 k
 bed : w.heap[b]? = some (.cells #[.pointer (some ⟨ts, 0, none⟩), .pointer (some ⟨t, 0, none⟩), .pointer (some ⟨mo, 0, none⟩), .pointer (some ⟨m, 0, none⟩), .int .i64 now] 39 (0, 0))
 hb : W.heap.size ≤ b
theorem BM.bx (h : BM W b ts t mo m now R1 R2 d1 d2 w) : ∃ s s2, BX W b ts t mo m now R1 R2 s s2 w ∧ eS s = d1 ∧ eS s2 = d2 := by
 obtain ⟨s, s2, O, O2, fs, rc, e1, e2, i1, i2, dis⟩ := h.ex
 exact ⟨s, s2, ⟨⟨O, O2, fs, rc, i1, i2, dis⟩, h.bed, h.hb⟩, e1, e2⟩
theorem BX.bm (h : BX W b ts t mo m now R1 R2 s s2 w) : BM W b ts t mo m now R1 R2 (eS s) (eS s2) w := by
 obtain ⟨O, O2, fs, rc, i1, i2, dis⟩ := h.ex
 exact ⟨⟨s, s2, O, O2, fs, rc, rfl, rfl, i1, i2, dis⟩, h.bed, h.hb⟩
theorem BX.later (h : BX W b ts t mo m now R1 R2 s s2 w) (hb : Below w.heap.size w w') : BX W b ts t mo m now R1 R2 s s2 w' := by
 obtain ⟨O, O2, f, r, e⟩ := h.ex
 exact ⟨⟨O, O2, f.later hb, r.later hb, e⟩, (hb.block b (lt_of_blk h.bed)).trans h.bed, h.hb⟩
theorem BX.up (h : BX W b ts t mo m now R1 R2 s s2 w) (h1 : R1 + 1 ≤ 1000) (h2 : R2 + 1 ≤ 1000) : BX W b ts t mo m now (R1 + 1) (R2 + 1) s s2 w := by
 obtain ⟨O, O2, f, r, i1, i2, e⟩ := h.ex
 exact ⟨⟨O, O2, f, r, i1.up (by omega) h1, i2.up (by omega) h2, e⟩, h.bed, h.hb⟩
theorem BX.prog {f : Nat} {a : Array Value} {Q : Ending → World → Prop} (h : BX W b ts t mo m now R1 R2 s s2 w) (hi : IX R' s') (hc : ∀ O, FS W t (some ts) s O w → Calls Tryz.prog f a w fun e w' => Q e w' ∧ GS W t (some ts) s' O w w') :
  Calls Tryz.prog f a w fun e w' => Q e w' ∧ BX W b ts t mo m now R' R2 s' s2 w' ∧ KP w w' := by
 obtain ⟨O, O2, fs, rc, i1, i2, dis⟩ := h.ex
 refine (hc O fs).mono ?_
 rintro e w' ⟨hQ, ⟨O', fs', hs, fm⟩⟩
 refine ⟨hQ, ⟨⟨O', O2, fs', rc.keepG fm (fun k hk => fs.tag hk) fs'.bel dis, hi, i2, fun k hk h2 => ?_⟩, fm.2 b _ 39 _ h.bed (by decide) (fun hk => (fs.tag hk).not h.bed (by decide)), h.hb⟩, fm.1, fun k cs ty fr e3 h3 h4 => fm.2 k cs ty fr e3 h3 fun hk => (fs.tag hk).not e3 h4⟩
 rcases hs k hk with h1 | h1
 · exact dis k h1 h2
 · have := rc.lt h2; omega
theorem BX.doc {f : Nat} {a : Array Value} {Q : Ending → World → Prop} (h : BX W b ts t mo m now R1 R2 s s2 w) (hi : IX R' s') (hc : ∀ O, RC W m mo s2 O w → Calls Tryz.prog f a w fun e w' => Q e w' ∧ RG W m mo s' O w w') :
  Calls Tryz.prog f a w fun e w' => Q e w' ∧ BX W b ts t mo m now R1 R' s s' w' ∧ KD w w' := by
 obtain ⟨O, O2, fs, rc, i1, i2, dis⟩ := h.ex
 refine (hc O2 rc).mono ?_
 rintro e w' ⟨hQ, ⟨O', rc', hs, fm⟩⟩
 refine ⟨hQ, ⟨⟨O, O', fs.keepR fm rc'.bel dis (fun k hk => rc.tag hk), rc', i1, hi, fun k hk h2 => ?_⟩, fm.cells h.bed (fun hk => (rc.tag hk).not h.bed (by decide)) (by decide), h.hb⟩, fm.1, fun k cs ty fr e3 h3 h4 => fm.cells e3 (fun hk => (rc.tag hk).not e3 h3) h4⟩
 rcases hs k h2 with h1 | h1
 · exact dis k hk h1
 · have := fs.lt hk; omega
theorem BX.fs (h : BX W b ts t mo m now R1 R2 s s2 w) : ∃ O, FS W t (some ts) s O w := by
 obtain ⟨O, O2, fs, rc, i1, i2, dis⟩ := h.ex; exact ⟨O, fs⟩
theorem BX.rc (h : BX W b ts t mo m now R1 R2 s s2 w) : ∃ O, RC W m mo s2 O w := by
 obtain ⟨O, O2, fs, rc, i1, i2, dis⟩ := h.ex; exact ⟨O2, rc⟩
theorem BX.ix (h : BX W b ts t mo m now R1 R2 s s2 w) : IX R1 s ∧ IX R2 s2 := by
 obtain ⟨O, O2, fs, rc, i1, i2, dis⟩ := h.ex; exact ⟨i1, i2⟩
theorem cA_two (h : eS s = eS s2) (k : Int) : (cA s k).2 = (cA s2 k).2 ∧ er0 (cA s k).1 = er0 (cA s2 k).1 := by
 have h1 := eS_cA s k
 have h2 := eS_cA s2 k
 rw [h] at h1
 exact ⟨h1.1.symm.trans h2.1, h1.2.symm.trans h2.2⟩
theorem BX.done (h : BX W b ts t mo m now R1 R2 s s2 w) (he : eS s = eS s2) (k : Int) {P P' : Option Nat} {r : Int} (hP : (cA s k).1.ch = P) (hP' : (cA s2 k).1.ch = P') (hr : (cA s k).2 = r) :
  (∀ w1, Below w.heap.size w w1 → Calls Tryz.prog 34 #[pS t, .int .i64 k] w1 fun e w' => e = .returned (.tuple #[.pointer (cp P), .int .i64 r]) ∧ Hid (Below w1.heap.size w1 w')) ∧
  (∀ w1, Below w.heap.size w w1 → Calls Tryz.prog 35 #[pM' m, .int .i64 k] w1 fun e w' => e = .returned (.tuple #[.pointer (cp P'), .int .i64 r]) ∧ Hid (Below w1.heap.size w1 w')) := by
 subst hP hP' hr
 refine ⟨fun w1 hb => ?_, fun w1 hb => ?_⟩
 · obtain ⟨O, fs⟩ := (h.later hb).fs
   exact (cdone_any k fs).mono fun e w' h => ⟨h.1, h.2⟩
 · obtain ⟨O, rc⟩ := (h.later hb).rc
   rw [(cA_two he k).1]
   refine (rdone_any rc k).mono ?_
   rintro e w' ⟨rfl, nq, rfl⟩
   exact ⟨rfl, below_drewN _ _⟩
def WaB (W : World) (b ts t mo m : Nat) (now : Int) (R : Nat) (P P' : Option Addr) (c v : Int) (w : World) : Prop :=
 ∀ w1, Below w.heap.size w w1 → Calls Tryz.prog 36 #[.pointer P, .agg #[.int .i64 c, .int .i64 0, .int .i64 0], .bool false] w1 fun e w' => e = .returned (.int .i64 v) ∧ Hid (KB w1 w') ∧
  Hid (∀ w2, Below w'.heap.size w' w2 → Calls Tryz.prog 37 #[.pointer P', .agg #[.int .i64 c, .int .i64 0, .int .i64 0], .bool false] w2 fun e w3 => e = .returned (.int .i64 v) ∧ Hid (KB w2 w3) ∧ Hid (∃ d', BM W b ts t mo m now (R + 1) (R + 1) d' d' w3))
theorem BX.wait_none (h : BX W b ts t mo m now R R s s2 w) (he : eS s = eS s2) (hR : R + 1 ≤ 1000) (c : Int) : WaB W b ts t mo m now R none none c 6 w := fun w1 hb => by
 have h1 := h.later hb
 refine (Ch.wait_nil ⟨c, 0, 0⟩ false w1).mono ?_
 rintro e w' ⟨rfl, hb1⟩
 refine ⟨rfl, KB.of_below hb1, fun w2 hb2 => ?_⟩
 refine (Ch.mwait_nil ⟨c, 0, 0⟩ false w2).mono ?_
 rintro e w3 ⟨rfl, hb3⟩
 have h4 := (((h1.later hb1).later hb2).later hb3).up hR hR |>.bm
 rw [he] at h4
 exact ⟨rfl, KB.of_below hb3, _, h4⟩
theorem BX.wait_some {p p' : Nat} (h : BX W b ts t mo m now R R s s2 w) (he : eS s = eS s2) (hR : R + 1 ≤ 1000) (hc : Ch.Wf k) (hx : s.C[i]? = some x) (hy : s2.C[i]? = some y) (hxy : er0 x = er0 y) (hp : x.ch = some p) (hp' : y.ch = some p') :
  WaB W b ts t mo m now R (some ⟨p, 0, none⟩) (some ⟨p', 0, none⟩) k (wtr x ⟨k, 0, 0⟩) w := fun w1 hb => by
 have h1 := h.later hb
 have ix := h.ix
 have e1 := ix.1.iw.rs i x hx
 have e2 := ix.2.iw.rs i y hy
 have n1 := (wt_chS x ⟨k, 0, 0⟩).2
 have n2 := (wt_chS y ⟨k, 0, 0⟩).2
 have j1 : IX (R + 1) { s with C := s.C.set i (wtx x ⟨k, 0, 0⟩) } := ix.1.wait hx rfl (by omega) hR
 have j2 : IX (R + 1) { s2 with C := s2.C.set i (wtx y ⟨k, 0, 0⟩) } := ix.2.wait hy rfl (by omega) hR
 refine (h1.prog j1 (fun O fs => fs.wait (a := ⟨k, 0, 0⟩) hx hp hc (by omega))).mono ?_
 rintro e w' ⟨rfl, h2, hk⟩
 refine ⟨rfl, hk.kb, fun w2 hb2 => ?_⟩
 have h3 := h2.later hb2
 refine (h3.doc j2 (fun O rc => rc.wait (a := ⟨k, 0, 0⟩) ix.2 hy hp' (by omega))).mono ?_
 rintro e w3 ⟨rfl, h4, hk4⟩
 have h5 := h4.bm
 rw [eS_wait, eS_wait, he, hxy] at h5
 refine ⟨by rw [← er0_wtr x, hxy, er0_wtr], hk4.kb, _, h5⟩
theorem pair_done (h : BM W b ts t mo m now R R d d w) (hR : R + 1 ≤ 1000) (k c : Int) (hc : Ch.Wf c) :
  ∃ (P P' : Option Nat) (r v : Int), ((P = none ∧ P' = none) ∨ ∃ p p', P = some p ∧ P' = some p') ∧
   (∀ w1, Below w.heap.size w w1 → Calls Tryz.prog 34 #[pS t, .int .i64 k] w1 fun e w' => e = .returned (.tuple #[.pointer (cp P), .int .i64 r]) ∧ Hid (Below w1.heap.size w1 w')) ∧
   (∀ w1, Below w.heap.size w w1 → Calls Tryz.prog 35 #[pM' m, .int .i64 k] w1 fun e w' => e = .returned (.tuple #[.pointer (cp P'), .int .i64 r]) ∧ Hid (Below w1.heap.size w1 w')) ∧
   WaB W b ts t mo m now R (cp P) (cp P') c v w := by
 obtain ⟨s, s2, hx, e1, e2⟩ := h.bx
 have he : eS s = eS s2 := e1.trans e2.symm
 have h2 := cA_two he k
 rcases cA_out s k with hk | ⟨i, x, rfl, hx1⟩
 · have hk2 : k < 0 ∨ (s2.C.length : Int) ≤ k := by
    have : s.C.length = s2.C.length := by rw [← eS_len s, he, eS_len]
    omega
   obtain ⟨g1, g2⟩ := hx.done he k (P := none) (P' := none) (r := 4) (by rw [cA_no hk]; rfl) (by rw [cA_no hk2]; rfl) (by rw [cA_no hk])
   exact ⟨none, none, 4, 6, .inl ⟨rfl, rfl⟩, g1, g2, hx.wait_none he hR c⟩
 · obtain ⟨y, hy1, hxy⟩ : ∃ y, s2.C[i]? = some y ∧ er0 x = er0 y := by
    have h3 : (eS s2).C[i]? = some (er0 x) := by rw [← he]; exact eS_at hx1
    obtain ⟨y, h4, h5⟩ := eS_back h3
    exact ⟨y, h4, h5.symm⟩
   have ca1 : cA s (i : Int) = (x, 0) := cA_at hx1
   have ca2 : cA s2 (i : Int) = (y, 0) := cA_at hy1
   cases hp : x.ch with
   | none =>
    have hp' : y.ch = none := er0_none (by rw [← hxy]; unfold er0; rw [hp]; rfl)
    obtain ⟨g1, g2⟩ := hx.done he (i : Int) (P := none) (P' := none) (r := 0) (by rw [ca1]; exact hp) (by rw [ca2]; exact hp') (by rw [ca1])
    exact ⟨none, none, 0, 6, .inl ⟨rfl, rfl⟩, g1, g2, hx.wait_none he hR c⟩
   | some p =>
    obtain ⟨p', hp'⟩ := (er0_live y).1 (by rw [← hxy]; exact (er0_live x).2 ⟨p, hp⟩)
    obtain ⟨g1, g2⟩ := hx.done he (i : Int) (P := some p) (P' := some p') (r := 0) (by rw [ca1]; exact hp) (by rw [ca2]; exact hp') (by rw [ca1])
    exact ⟨some p, some p', 0, _, .inr ⟨p, p', rfl, rfl⟩, g1, g2, hx.wait_some he hR hc hx1 hy1 hxy hp hp'⟩
end
end Go.Proofs.YtdpapnfjpefhkaaGreat
namespace Go.Proofs.YtdpapnfjpefhkaaGreat
open Go.RowKit Tr
set_option linter.unusedVariables false
set_option maxRecDepth 100000
def Tz (T0 : TypeId) (w w' : World) : Prop := w.heap.size ≤ w'.heap.size ∧ ∀ (k : Nat) (o : Obj), w.heap[k]? = some o → (∀ cs fr, o ≠ .cells cs T0 fr) → w'.heap[k]? = some o
def Tt (ty : TypeId) : Prop := ty = 39 ∨ ty = 88 ∨ ty = 91
def Tb (ty : TypeId) (r : Nat) (id kd yw at_ dt : Int) (w : World) : Prop := ∃ A l c z, w.heap[r]? = some (.cells #[.int .i64 id, .int .i64 kd, .int .i64 yw, .int .i64 at_, .int .i64 dt, .slice A l c, .bool z] ty (0, 0))
abbrev zF (ty : TypeId) : Obj := .cells #[.int .i64 0, .int .i64 0, .int .i64 0, .int .i64 0, .int .i64 0, .slice none 0 0, .bool false] ty
def Zb (ty : TypeId) (r : Nat) (w : World) : Prop := w.heap[r]? = some (.cells #[.int .i64 0, .int .i64 0, .int .i64 0, .int .i64 0, .int .i64 0, .slice none 0 0, .bool false] ty (0, 0))
def fillW (r : Nat) (id kd yw at_ dt : Int) (A : Option Addr) (l c : Nat) (z : Bool) (w : World) : World :=
 ((((((w.setCell ⟨r, 0, none⟩ (.int .i64 id)).setCell ⟨r, 1, none⟩ (.int .i64 kd)).setCell ⟨r, 2, none⟩ (.int .i64 yw)).setCell ⟨r, 3, none⟩ (.int .i64 at_)).setCell ⟨r, 4, none⟩ (.int .i64 dt)).setCell ⟨r, 5, none⟩ (.slice A l c)).setCell ⟨r, 6, none⟩ (.bool z)
section
variable {W w w' w'' w1 : World} {t ts m mo b i j r R R' R1 R2 : Nat} {s s2 s' : St} {d d1 d2 d' : St} {now now' k z er cs : Int} {x y : Cx} {T0 ty ty' : TypeId} {id kd yw at_ dt : Int}
theorem Tz.at (h : Tz T0 w w') {k : Nat} {cs : Array Value} {ty0 : TypeId} {fr : Nat × Nat} (hk : w.heap[k]? = some (.cells cs ty0 fr)) (ht : ty0 ≠ T0) : w'.heap[k]? = some (.cells cs ty0 fr) :=
 h.2 k _ hk fun cs' fr' e => by injection e with _ e _; exact ht e
theorem Tz.set {cs : Array Value} {fr : Nat × Nat} (h : w.heap[r]? = some (.cells cs T0 fr)) (i : Nat) (u : Value) : Tz T0 w (w.setCell ⟨r, i, none⟩ u) :=
 ⟨by simp [World.setCell], fun k o hk hn => by
  rw [Below.heap_setCell _ _ _ _ (show k ≠ r from fun e => by subst e; rw [h] at hk; cases hk; exact hn _ _ rfl)]
  exact hk⟩
theorem Tz.trans {u v w : World} (h : Tz T0 u v) (k : Tz T0 v w) : Tz T0 u w := ⟨Nat.le_trans h.1 k.1, fun i o h1 h2 => k.2 i o (h.2 i o h1 h2) h2⟩
theorem BM.tz (h : BM W b ts t mo m now R1 R2 d1 d2 w) (hz : Tz T0 w w') (hT : Tt T0) (hb : Below W.heap.size W w') (hbed : w'.heap[b]? = some (.cells #[.pointer (some ⟨ts, 0, none⟩), .pointer (some ⟨t, 0, none⟩), .pointer (some ⟨mo, 0, none⟩), .pointer (some ⟨m, 0, none⟩), .int .i64 now'] 39 (0, 0))) : BM W b ts t mo m now' R1 R2 d1 d2 w' := by
 obtain ⟨s, s2, O, O2, fs, rc, e⟩ := h.ex
 refine ⟨⟨s, s2, O, O2, ?_, ?_, e⟩, hbed, h.hb⟩
 · obtain ⟨⟨F, G, o, y, e⟩, mm⟩ := fs
   refine ⟨⟨F, G, o, y.keep (fun k hk => ?_) hb, e⟩, mm.tm hb fun j hj hi => ?_⟩
   · obtain ⟨cs, ty, fr, e1, h1⟩ := y.tag hk
     rw [e1]
     exact hz.at e1 (by rcases hT with rfl | rfl | rfl <;> rcases h1 with h1 | h1 | h1 | h1 | h1 | h1 | h1 | h1 | h1 <;> subst h1 <;> decide)
   · rcases hi with ⟨cs, ty, fr, e1, h1⟩ | ⟨es, cl, e1⟩
     · rw [e1]
       exact hz.at e1 fun e2 => h1 (by subst e2; rcases hT with rfl | rfl | rfl <;> decide)
     · rw [e1]
       exact hz.2 j _ e1 fun cs fr h => by cases h
 · obtain ⟨⟨N, o, hr, r, e⟩, t⟩ := rc
   refine ⟨⟨N, o, hr.keep hz.1 (fun k hk => ?_) (fun k cs e1 => hz.at e1 (by rcases hT with rfl | rfl | rfl <;> decide)) hb, r, e⟩, t.keepT fun k cs ty fr e1 h1 => hz.at e1 (by rcases hT with rfl | rfl | rfl <;> rcases h1 with h1 | h1 | h1 <;> subst h1 <;> decide)⟩
   obtain ⟨cs, ty, fr, e1, h1⟩ := hr.tag hk
   rw [e1]
   exact hz.at e1 (by rcases hT with rfl | rfl | rfl <;> rcases h1 with h1 | h1 | h1 | h1 | h1 <;> subst h1 <;> decide)
theorem BM.turn (h : BM W b ts t mo m now R1 R2 d1 d2 w) (z : Int) : BM W b ts t mo m z R1 R2 d1 d2 (w.setCell ⟨b, 4, none⟩ (.int .i64 z)) :=
 h.tz (Tz.set h.bed 4 _) (.inl rfl) (h.bel.setCell h.hb _) (by rw [heap_setCell_same w b 4 _ _ (.int .i64 z) h.bed]; rfl)
theorem Zb.cells (h : Zb ty r w) : w.cell? ⟨r, 0, none⟩ = some (.int .i64 0) ∧ w.cell? ⟨r, 1, none⟩ = some (.int .i64 0) ∧ w.cell? ⟨r, 2, none⟩ = some (.int .i64 0) ∧ w.cell? ⟨r, 3, none⟩ = some (.int .i64 0) ∧ w.cell? ⟨r, 4, none⟩ = some (.int .i64 0) ∧ w.cell? ⟨r, 5, none⟩ = some (.slice none 0 0) ∧ w.cell? ⟨r, 6, none⟩ = some (.bool false) ∧ ∀ k, w.frozen? ⟨r, k, none⟩ = false := by
 refine ⟨?_, ?_, ?_, ?_, ?_, ?_, ?_, fun k => frozen_of_row w r k _ _ h⟩
 · rw [cell_of_row w r 0 _ _ _ h]; rfl
 · rw [cell_of_row w r 1 _ _ _ h]; rfl
 · rw [cell_of_row w r 2 _ _ _ h]; rfl
 · rw [cell_of_row w r 3 _ _ _ h]; rfl
 · rw [cell_of_row w r 4 _ _ _ h]; rfl
 · rw [cell_of_row w r 5 _ _ _ h]; rfl
 · rw [cell_of_row w r 6 _ _ _ h]; rfl
theorem Tb.cells (h : Tb ty r id kd yw at_ dt w) : w.cell? ⟨r, 0, none⟩ = some (.int .i64 id) ∧ w.cell? ⟨r, 1, none⟩ = some (.int .i64 kd) ∧ w.cell? ⟨r, 2, none⟩ = some (.int .i64 yw) ∧ w.cell? ⟨r, 4, none⟩ = some (.int .i64 dt) := by
 obtain ⟨A, l, c, z, h⟩ := h
 refine ⟨?_, ?_, ?_, ?_⟩
 · rw [cell_of_row w r 0 _ _ _ h]; rfl
 · rw [cell_of_row w r 1 _ _ _ h]; rfl
 · rw [cell_of_row w r 2 _ _ _ h]; rfl
 · rw [cell_of_row w r 4 _ _ _ h]; rfl
theorem Tb.new (ty : TypeId) (id kd yw at_ dt : Int) (A : Option Addr) (l c : Nat) (z : Bool) (w : World) : Tb ty w.heap.size id kd yw at_ dt (w.alloc (.cells #[.int .i64 id, .int .i64 kd, .int .i64 yw, .int .i64 at_, .int .i64 dt, .slice A l c, .bool z] ty)) := ⟨A, l, c, z, heap_alloc_new w _⟩
theorem Tb.later (h : Tb ty r id kd yw at_ dt w) (hb : Below w.heap.size w w') : Tb ty r id kd yw at_ dt w' := by
 obtain ⟨A, l, c, z, h⟩ := h
 exact ⟨A, l, c, z, (hb.block r (lt_of_blk h)).trans h⟩
theorem Tb.kb (ht : TgB ty) (h : Tb ty r id kd yw at_ dt w) (hb : KB w w') : Tb ty r id kd yw at_ dt w' := by
 obtain ⟨A, l, c, z, h⟩ := h
 exact ⟨A, l, c, z, hb.2 _ _ _ _ h ht⟩
theorem Tb.tz (hne : ty ≠ ty') (h : Tb ty r id kd yw at_ dt w) (k : Tz ty' w w') : Tb ty r id kd yw at_ dt w' := by
 obtain ⟨A, l, c, z, h⟩ := h
 exact ⟨A, l, c, z, k.at h hne⟩
theorem Zb.new (ty : TypeId) (w : World) : Zb ty w.heap.size (w.alloc (zF ty)) := heap_alloc_new w _
theorem Zb.kb (ht : TgB ty) (h : Zb ty r w) (hb : KB w w') : Zb ty r w' := hb.2 _ _ _ _ h ht
theorem Zb.fill {A : Option Addr} {l c : Nat} {z : Bool} (h : Zb ty r w) : Tb ty r id kd yw at_ dt (fillW r id kd yw at_ dt A l c z w) ∧ Tz ty w (fillW r id kd yw at_ dt A l c z w) ∧ ∀ (N : Nat) (w0 : World), N ≤ r → Below N w0 w → Below N w0 (fillW r id kd yw at_ dt A l c z w) := by
 unfold fillW
 have h1 := heap_setCell_same w r 0 _ _ (.int .i64 id) h
 have h2 := heap_setCell_same _ r 1 _ _ (.int .i64 kd) h1
 have h3 := heap_setCell_same _ r 2 _ _ (.int .i64 yw) h2
 have h4 := heap_setCell_same _ r 3 _ _ (.int .i64 at_) h3
 have h5 := heap_setCell_same _ r 4 _ _ (.int .i64 dt) h4
 have h6 := heap_setCell_same _ r 5 _ _ (.slice A l c) h5
 have h7 := heap_setCell_same _ r 6 _ _ (.bool z) h6
 refine ⟨⟨A, l, c, z, by rw [h7]; rfl⟩, ((((((Tz.set h 0 _).trans (Tz.set h1 1 _)).trans (Tz.set h2 2 _)).trans (Tz.set h3 3 _)).trans (Tz.set h4 4 _)).trans (Tz.set h5 5 _)).trans (Tz.set h6 6 _), fun N w0 hN hb => ?_⟩
 exact ((((((hb.setCell hN _).setCell hN _).setCell hN _).setCell hN _).setCell hN _).setCell hN _).setCell hN _
theorem BM.fill {A : Option Addr} {l c : Nat} {zz : Bool} (h : BM W b ts t mo m now R1 R2 d1 d2 w) (hT : ty = 88 ∨ ty = 91) (hr : W.heap.size ≤ r) (hz : Zb ty r w) : BM W b ts t mo m now R1 R2 d1 d2 (fillW r id kd yw at_ dt A l c zz w) := by
 obtain ⟨h1, h2, h3⟩ := hz.fill (id := id) (kd := kd) (yw := yw) (at_ := at_) (dt := dt) (A := A) (l := l) (c := c) (z := zz)
 exact h.tz h2 (.inr hT) (h3 _ _ hr h.bel) (h2.at h.bed (by rcases hT with rfl | rfl <;> decide))
theorem BM.lenL (h : BM W b ts t mo m now R1 R2 d1 d2 w) : ∃ P c, w.cell? ⟨mo, 3, none⟩ = some (.slice P d2.E.length c) := by
 obtain ⟨s, s2, O, O2, fs, rc, e1, e2, _⟩ := h.ex
 obtain ⟨P, c, h1, _⟩ := rc.2.cells
 subst e2
 exact ⟨P, c, h1⟩
theorem BM.sml (h : BM W b ts t mo m now R1 R2 d1 d2 w) : d1.S.length ≤ d1.E.length ∧ d2.S.length ≤ d2.E.length ∧ d2.E.length ≤ 64 := by
 obtain ⟨s, s2, O, O2, fs, rc, e1, e2, i1, i2, dis⟩ := h.ex
 subst e1 e2
 have h1 := i1.iw.v.sl
 have h2 := i2.iw.v.sl
 have h3 := i2.iw.v.el
 have h4 := i2.iw.v.cl
 exact ⟨h1, h2, by show s2.E.length ≤ 64; omega⟩
theorem cst_SE (er cs : Int) (s : St) (k : Nat) : (cst er cs s k).E = s.E ∧ (cst er cs s k).S.length ≤ s.S.length := by
 cases hz : s.K[k]? with
 | none => unfold cst; rw [hz]; exact ⟨rfl, Nat.le_refl _⟩
 | some z =>
  obtain ⟨af, j⟩ := z
  cases af with
  | true => rw [cst_af hz]; exact ⟨rfl, Nat.le_refl _⟩
  | false =>
   cases hx : s.C[j]? with
   | none => unfold cst; rw [hz]; simp only [hx]; exact ⟨by first | rfl | trivial, Nat.le_refl _⟩
   | some x =>
    rw [cst_cx hz hx]
    refine ⟨rfl, ?_⟩
    show (del x.lp s.S).length ≤ s.S.length
    unfold del; exact List.length_filter_le _ _
theorem fold_SE (er cs : Int) : ∀ (ws : List Nat) (s : St), (cfold er cs ws s).1.E = s.E ∧ (cfold er cs ws s).1.S.length ≤ s.S.length
 | [], s => ⟨rfl, Nat.le_refl _⟩
 | k :: r, s => by
  obtain ⟨h1, h2⟩ := fold_SE er cs r (cst er cs s k)
  obtain ⟨h3, h4⟩ := cst_SE er cs s k
  exact ⟨h1.trans h3, Nat.le_trans h2 h4⟩
theorem cn_SE (s : St) (x : Cx) (er cs : Int) : (cnS s x er cs).1.E = s.E ∧ (cnS s x er cs).1.S.length ≤ s.S.length := by
 unfold cnS
 split
 · exact ⟨rfl, Nat.le_refl _⟩
 · exact fold_SE er cs _ s
theorem lapse_eS {p : Option Nat} {O : Nat → Prop} (fs : FS W t p s O w) (ix : IX R s) (hx : s.C[i]? = some x) (hc : ∃ c, x.ch = some c) (how : x.own = true) : Calls Tryz.prog 32 #[pS t, .int .i64 (i : Int)] w (CnR W t p (cnS s x 2 2).1 O 2 2 (cnS (eS s) (er0 x) 2 2).2.1 (cnS (eS s) (er0 x) 2 2).2.2 w) := by
 rw [(eS_cn s x 2 2).2]; exact lapse_call fs ix.iw.v hx hc how
theorem rlapse_eS {O : Nat → Prop} (rc : RC W m mo s O w) (ix : IX R s) (hx : s.C[i]? = some x) (hc : ∃ c, x.ch = some c) (how : x.own = true) : Calls Tryz.prog 33 #[pM' m, .int .i64 (i : Int)] w (RCn W m mo (cnS s x 2 2).1 O 2 2 (cnS (eS s) (er0 x) 2 2).2.1 (cnS (eS s) (er0 x) 2 2).2.2 w) := by
 rw [(eS_cn s x 2 2).2]; exact rlapse_call rc ix.iw hx hc how
theorem pair_lapse7 (k : Int) (R : Nat) (d : St) (hd : ∃ s, IX R s ∧ eS s = d) : ∃ o : CO, Sm o.l o.st ∧ PP 32 (fun t => #[pS t, .int .i64 k]) R d o.d (PoC 57 59 o) ∧ DD 33 (fun m => #[pM' m, .int .i64 k]) R d o.d (PoC 160 164 o) ∧ o.d.E = d.E ∧ o.d.S.length ≤ d.S.length := by
 have hno : ∀ (r : Int), (∀ {W w : World} {t ts : Nat} {s : St} {O : Nat → Prop}, FS W t (some ts) s O w → eS s = d → Calls Tryz.prog 32 #[pS t, .int .i64 k] w fun e w' => e = .returned (cn3 r) ∧ Below w.heap.size w w') → (∀ {W w : World} {m mo : Nat} {s : St} {O : Nat → Prop}, RC W m mo s O w → eS s = d → Calls Tryz.prog 33 #[pM' m, .int .i64 k] w fun e w' => e = .returned (cn3 r) ∧ Below w.heap.size w w') → ∃ o : CO, Sm o.l o.st ∧ PP 32 (fun t => #[pS t, .int .i64 k]) R d o.d (PoC 57 59 o) ∧ DD 33 (fun m => #[pM' m, .int .i64 k]) R d o.d (PoC 160 164 o) ∧ o.d.E = d.E ∧ o.d.S.length ≤ d.S.length := fun r hP hD =>
  ⟨⟨0, 0, [], [], r, d⟩, nil_sm [] (by simp), PP.no (d := d) (R := R) (f := 32) (a := fun t => #[pS t, .int .i64 k]) (v := cn3 r) (Q := PoC 57 59 ⟨0, 0, [], [], r, d⟩) hP fun w w' => poC_no 57 59 r d w w', DD.no (d := d) (R := R) (f := 33) (a := fun m => #[pM' m, .int .i64 k]) (v := cn3 r) (Q := PoC 160 164 ⟨0, 0, [], [], r, d⟩) hD fun w w' => poC_no 160 164 r d w w', rfl, Nat.le_refl _⟩
 rcases cA_out d k with hk | ⟨i, y, rfl, hy⟩
 · refine hno 4 (fun {W w t ts s O} fs es => ?_) (fun {W w m mo s O} rc es => ?_)
   · subst es
     rw [eS_len] at hk
     exact (lapse_none fs hk).mono fun e w' h => ⟨h.1, same_below h.2⟩
   · subst es
     rw [eS_len] at hk
     exact (rlapse_none rc hk).mono fun e w' h => ⟨h.1, same_below h.2⟩
 · cases how : y.own with
   | false =>
    refine hno 1 (fun {W w t ts s O} fs es => ?_) (fun {W w m mo s O} rc es => ?_)
    · subst es
      obtain ⟨x, hx, rfl⟩ := eS_sub hy
      exact (lapse_plain fs hx how).mono fun e w' h => ⟨h.1, same_below h.2⟩
    · subst es
      obtain ⟨x, hx, rfl⟩ := eS_sub hy
      refine (rlapse_plain rc hx how).mono ?_
      rintro e w' ⟨rfl, nq, rfl⟩
      exact ⟨rfl, below_drewN _ _⟩
   | true =>
    have hc : ∃ c, y.ch = some c := by
     obtain ⟨s, ix, rfl⟩ := hd
     obtain ⟨x, hx, rfl⟩ := eS_sub hy
     exact (er0_live x).2 (ix.ow _ x hx how)
    have hsm : Sm (cnS d y 2 2).2.1 (cnS d y 2 2).2.2 := by
     obtain ⟨s, ix, rfl⟩ := hd
     obtain ⟨x, hx, rfl⟩ := eS_sub hy
     have := ix.sm hx 2 2
     rw [← (eS_cn s x 2 2).2] at this
     exact this
    obtain ⟨c1, c2⟩ := cn_SE d y 2 2
    refine ⟨⟨2, 2, (cnS d y 2 2).2.1, (cnS d y 2 2).2.2, 0, (cnS d y 2 2).1⟩, hsm, fun h => h.prog fun s O fs ix es => ?_, fun h => h.doc fun s O rc ix es => ?_, c1, c2⟩
    · subst es
      obtain ⟨x, hx, rfl⟩ := eS_sub hy
      obtain ⟨e1, e2⟩ := eS_cn s x 2 2
      refine (lapse_eS fs ix hx ((er0_live x).1 hc) how).mono ?_
      rintro e w' ⟨P1, n1, c1, P2, n2, c2, hn, hn2, rfl, hg, hl, hm⟩
      exact ⟨⟨P1, n1, c1, P2, n2, c2, ⟨hn.out, hn2.out⟩, rfl, hl.out, hm.out⟩, _, hg.out, ix.cn (er := 2) (cs := 2) hx ((er0_live x).1 hc) (by decide), e1⟩
    · subst es
      obtain ⟨x, hx, rfl⟩ := eS_sub hy
      obtain ⟨e1, e2⟩ := eS_cn s x 2 2
      refine (rlapse_eS rc ix hx ((er0_live x).1 hc) how).mono ?_
      rintro e w' ⟨P1, n1, c1, P2, n2, c2, hn, rfl, hg, hl, hm⟩
      exact ⟨⟨P1, n1, c1, P2, n2, c2, hn, rfl, hl.out, hm.out⟩, _, hg.out, ix.cn (er := 2) (cs := 2) hx ((er0_live x).1 hc) (by decide), e1⟩
theorem pair_fire (h : BM W b ts t mo m now R R d d w) (z : Int) : ∃ (f0 f1 f2 f3 f4 : Int) (ok : Bool) (d' : St), ((ok = false ∧ d' = d) ∨ (ok = true ∧ d'.E = d.E ∧ d'.S.length + 1 = d.S.length)) ∧
  (∀ {w : World} {R2 : Nat} {d2 : St}, BM W b ts t mo m now R R2 d d2 w → Calls Tryz.prog 30 #[pS ts, .int .i64 z] w fun e w' => PoF f0 f1 f2 f3 f4 ok w e w' ∧ BM W b ts t mo m now R R2 d' d2 w' ∧ KP w w') ∧
  (∀ {w : World} {R1 : Nat} {d1 : St}, BM W b ts t mo m now R1 R d1 d w → Calls Tryz.prog 31 #[.pointer (some ⟨mo, 0, none⟩), .int .i64 z] w fun e w' => PoF f0 f1 f2 f3 f4 ok w e w' ∧ BM W b ts t mo m now R1 R d1 d' w' ∧ KD w w') := by
 by_cases hn : ∀ x r, d.S = x :: r → z < x.w
 · exact ⟨0, 0, 0, 0, 0, false, d, .inl ⟨rfl, rfl⟩, fun h => h.fireN hn, fun h => h.rfireN hn⟩
 · cases hS : d.S with
   | nil => exact absurd (fun x r e => by rw [hS] at e; cases e) hn
   | cons q l =>
    have hq : q.w ≤ z := by
     refine Int.not_lt.1 fun hz => hn fun x r e => ?_
     rw [hS] at e; cases e; exact hz
    obtain ⟨n, ⟨i, y, hi, hy, hny⟩, -⟩ := h.fireD hS hq
    refine ⟨q.id, 4, q.w, z, n, true, { d with S := l }, .inr ⟨rfl, rfl, rfl⟩, fun h => ?_, fun h => ?_⟩
    · obtain ⟨n2, ⟨i2, y2, hi2, hy2, hny2⟩, hc⟩ := h.fireD hS hq
      obtain rfl : i2 = i := by omega
      obtain rfl : y2 = y := by rw [hy] at hy2; cases hy2; rfl
      rw [hny, ← hny2]
      exact hc
    · rw [hny]
      exact h.rfireD hS hq hi hy
end
end Go.Proofs.YtdpapnfjpefhkaaGreat
namespace Go.Proofs.YtdpapnfjpefhkaaGreat
open Go.RowKit Tr
set_option linter.unusedVariables false
set_option maxRecDepth 100000
section
variable {W w w' w'' w1 : World} {t ts m mo b i j q R R1 R2 : Nat} {d d1 d2 d' : St} {now k a c : Int}
set_option maxHeartbeats 64000000 in
theorem does_9 (h : BM W b ts t mo m now R R d d w) : Calls Tryz.prog 6 #[.pointer (some ⟨b, 0, none⟩), .agg (aB 9 a c)] w (DoR W b ts t mo m R) := by
 obtain ⟨o, hs, hP, hD⟩ := pair_lapse a R d h.hd
 have h0 := h.later (below_al w (.cells (aB 9 a c) 29))
 have hx := heap_alloc_new w (.cells (aB 9 a c) 29)
 have hck := ck_of h0 hx
 have HP : Hid (∀ w1, Below (w.alloc (.cells (aB 9 a c) 29)).heap.size (w.alloc (.cells (aB 9 a c) 29)) w1 → Calls Tryz.prog 32 #[pS t, .int .i64 a] w1 fun e w' => PoC 57 59 o w1 e w' ∧ Hid (BM W b ts t mo m now R R o.d d w') ∧ Hid (w'.heap[w.heap.size]? = some (.cells (aB 9 a c) 29 (0, 0)))) := fun w1 hb => (hP (h0.later hb)).mono fun e w' hh => ⟨hh.1, hh.2.1, hh.2.2.kb.box ((hb.block _ (lt_of_blk hx)).trans hx)⟩
 have HD : Hid (∀ {w0 w1 : World}, BM W b ts t mo m now R R o.d d w0 → w0.heap[w.heap.size]? = some (.cells (aB 9 a c) 29 (0, 0)) → Below w0.heap.size w0 w1 → Calls Tryz.prog 33 #[pM' m, .int .i64 a] w1 fun e w' => PoC 160 164 o w1 e w' ∧ Hid (BM W b ts t mo m now R R o.d o.d w') ∧ Hid (KB w0 w') ∧ Hid (w'.heap[w.heap.size]? = some (.cells (aB 9 a c) 29 (0, 0)))) := fun hB hX hb => (hD (hB.later hb)).mono fun e w' hh => ⟨hh.1, hh.2.1, (KB.of_below hb).trans hh.2.2.kb, hh.2.2.kb.box ((hb.block _ (lt_of_blk hX)).trans hX)⟩
 have HS := Lib.hid hs
 clear hs
 have k0 := (aB_cells hx).1
 clear h h0 hx hP hD
 unfold aB at *
 go_enter Tryz.func6, Tryz.ntmps6
 go_wp2_with fail
 clear k0
 generalize w.alloc (.cells #[.int .i64 9, .int .i64 a, .int .i64 c] 29) = w0 at *
 generalize w.heap.size = q at *
 refine but_startQ 1000 (fun w' => w'.cell? ⟨b, 0, none⟩ = some (.pointer (some ⟨ts, 0, none⟩)) ∧ w'.cell? ⟨b, 1, none⟩ = some (.pointer (some ⟨t, 0, none⟩)) ∧ w'.cell? ⟨b, 2, none⟩ = some (.pointer (some ⟨mo, 0, none⟩)) ∧ w'.cell? ⟨b, 3, none⟩ = some (.pointer (some ⟨m, 0, none⟩)) ∧ w'.cell? ⟨b, 4, none⟩ = some (.int .i64 now) ∧ w'.cell? ⟨q, 1, none⟩ = some (.int .i64 a) ∧ w'.cell? ⟨q, 2, none⟩ = some (.int .i64 c)) (by kernel_rfl) (by as_aux_lemma => kernel_rfl) ?_
 intro hTidy
 have hHeld := hck
 change AnyBut _ _ _ _ _ _ 14 _ _ _
 refine tkQ 0 rfl hTidy hHeld ?_
 refine tkQ 1 rfl hTidy hHeld ?_
 refine tkQ 2 rfl hTidy hHeld ?_
 refine tkQ 3 rfl hTidy hHeld ?_
 refine tkQ 4 rfl hTidy hHeld ?_
 refine tkQ 5 rfl hTidy hHeld ?_
 try simp only [l1, l2, l3, Act.put, l4, l5, l6]
 refine but_one (i := 6) (by kernel_rfl) rfl ?_
 intro K hK
 go_simp
 go_at_call 32
 refine (HP.out _ (by exact (Below.refl _ _).drew)).mono ?_
 rintro e w4 ⟨⟨P1, n1, k1, P3, n3, k3, hn1, rfl, hl1, hm1⟩, hB4, hX4⟩
 have hHeld2 := ck_of hB4.out hX4.out
 refine hK _ _ (fun _ => hHeld2) ?_
 clear hK K hHeld
 have hHeld := hHeld2
 clear hHeld2
 refine tkQ 7 rfl hTidy hHeld ?_
 refine tkQ 8 rfl hTidy hHeld ?_
 refine tkQ 9 rfl hTidy hHeld ?_
 refine tkQ 10 rfl hTidy hHeld ?_
 refine tkQ 11 rfl hTidy hHeld ?_
 refine tkQ 12 rfl hTidy hHeld ?_
 refine tkQ 13 rfl hTidy hHeld ?_
 try simp only [l1, l2, l3, Act.put, l4, l5, l6]
 refine but_done (by kernel_rfl) ?_
 try clear hHeld
 clear hTidy
 have hck := ck_of hB4.out hX4.out
 go_wp2_with fail
 refine but_startQ 1000 (fun w' => w'.cell? ⟨b, 0, none⟩ = some (.pointer (some ⟨ts, 0, none⟩)) ∧ w'.cell? ⟨b, 1, none⟩ = some (.pointer (some ⟨t, 0, none⟩)) ∧ w'.cell? ⟨b, 2, none⟩ = some (.pointer (some ⟨mo, 0, none⟩)) ∧ w'.cell? ⟨b, 3, none⟩ = some (.pointer (some ⟨m, 0, none⟩)) ∧ w'.cell? ⟨b, 4, none⟩ = some (.int .i64 now) ∧ w'.cell? ⟨q, 1, none⟩ = some (.int .i64 a) ∧ w'.cell? ⟨q, 2, none⟩ = some (.int .i64 c)) (by kernel_rfl) (by as_aux_lemma => kernel_rfl) ?_
 intro hTidy
 have hHeld := hck
 change AnyBut _ _ _ _ _ _ 14 _ _ _
 refine tkQ 0 rfl hTidy hHeld ?_
 refine tkQ 1 rfl hTidy hHeld ?_
 refine tkQ 2 rfl hTidy hHeld ?_
 refine tkQ 3 rfl hTidy hHeld ?_
 refine tkQ 4 rfl hTidy hHeld ?_
 refine tkQ 5 rfl hTidy hHeld ?_
 try simp only [l1, l2, l3, Act.put, l4, l5, l6]
 refine but_one (i := 6) (by kernel_rfl) rfl ?_
 intro K hK
 go_simp
 go_at_call 33
 refine (HD.out hB4.out hX4.out (by exact (Below.refl _ _).drew)).mono ?_
 rintro e w5 ⟨⟨P2, n2, k2, P4, n4, k4, hn2, rfl, hl2, hm2⟩, hB5, hK5, hX5⟩
 have hHeld2 := ck_of hB5.out hX5.out
 refine hK _ _ (fun _ => hHeld2) ?_
 clear hK K hHeld
 have hHeld := hHeld2
 clear hHeld2
 refine tkQ 7 rfl hTidy hHeld ?_
 refine tkQ 8 rfl hTidy hHeld ?_
 refine tkQ 9 rfl hTidy hHeld ?_
 refine tkQ 10 rfl hTidy hHeld ?_
 refine tkQ 11 rfl hTidy hHeld ?_
 refine tkQ 12 rfl hTidy hHeld ?_
 refine tkQ 13 rfl hTidy hHeld ?_
 try simp only [l1, l2, l3, Act.put, l4, l5, l6]
 refine but_done (by kernel_rfl) ?_
 try clear hHeld
 clear hTidy
 clear HP HD
 have HL := Lib.hid (lapsed_two hl1.out hl2.out hK5.out hn1.out.1 hn2.out.1 HS.out)
 have HM : Hid (∀ z, Calls Tryz.prog 26 #[.slice P3 n3 k3, .slice P4 n4 k4] (w5.drewN z) fun e w' => e = .returned (.bool true) ∧ ∃ m, w' = w5.drewN m) := fun z => starts_two hm1.out hm2.out hK5.out hn1.out.2 hn2.out.2 HS.out z
 clear hl1 hl2 hm1 hm2
 go_wp2_with fail
 refine HL.out.mono ?_
 rintro e w6 ⟨rfl, mq, rfl⟩
 go_wp2_with fail
 refine (HM.out _).mono ?_
 rintro e w6 ⟨rfl, mq2, rfl⟩
 go_wp2_with fail
 go_ret
 exact ⟨rfl, now, o.d, R, Nat.le_succ R, hB5.out.later (below_drewN w5 mq2)⟩
end
end Go.Proofs.YtdpapnfjpefhkaaGreat
namespace Go.Proofs.YtdpapnfjpefhkaaGreat
open Go.RowKit Tr
set_option linter.unusedVariables false
set_option maxRecDepth 100000
def Lk (f : Nat) (a : Array Value) (v : Value) (w : World) : Prop := ∀ w1, Below w.heap.size w w1 → Calls Tryz.prog f a w1 fun e w' => e = .returned v ∧ Hid (Below w.heap.size w w')
structure ShP (t m : Nat) (k er cs r wh : Int) (has : Bool) (P P' : Option Addr) (w : World) : Prop where
 e14 : Lk 14 #[pS t, .int .i64 k] (.tuple #[.int .i64 er, .int .i64 r]) w
 e15 : Lk 15 #[pS t, .int .i64 k] (.tuple #[.int .i64 cs, .int .i64 r]) w
 e39 : Lk 39 #[pM' m, .int .i64 k] (.tuple #[.int .i64 er, .int .i64 cs, .int .i64 r]) w
 e12 : Lk 12 #[pS t, .int .i64 k] (.tuple #[.int .i64 wh, .bool has, .int .i64 r]) w
 e40 : Lk 40 #[pM' m, .int .i64 k] (.tuple #[.int .i64 wh, .bool has, .int .i64 r]) w
 e34 : Lk 34 #[pS t, .int .i64 k] (.tuple #[.pointer P, .int .i64 r]) w
 e35 : Lk 35 #[pM' m, .int .i64 k] (.tuple #[.pointer P', .int .i64 r]) w
section
variable {W w w' w'' w1 : World} {t ts m mo b i j R R' R1 R2 c : Nat} {s s2 s' : St} {d d1 d2 d' : St} {now k : Int} {x y : Cx} {f : Nat} {a : Array Value} {v : Value}
theorem BX.lkP (h : BX W b ts t mo m now R1 R2 s s2 w) (hc : ∀ {w : World} {O : Nat → Prop}, FS W t (some ts) s O w → Calls Tryz.prog f a w fun e w' => e = .returned v ∧ Below w.heap.size w w') : Lk f a v w := fun w1 hb => by
 obtain ⟨O, fs⟩ := (h.later hb).fs
 refine (hc fs).mono ?_
 rintro e w' ⟨rfl, h1⟩
 exact ⟨rfl, hb.trans (h1.mono hb.size)⟩
theorem BX.lkD (h : BX W b ts t mo m now R1 R2 s s2 w) (hc : ∀ {w : World} {O : Nat → Prop}, RC W m mo s2 O w → Calls Tryz.prog f a w fun e w' => e = .returned v ∧ Below w.heap.size w w') : Lk f a v w := fun w1 hb => by
 obtain ⟨O, rc⟩ := (h.later hb).rc
 refine (hc rc).mono ?_
 rintro e w' ⟨rfl, h1⟩
 exact ⟨rfl, hb.trans (h1.mono hb.size)⟩
theorem drew_to {Q : Ending → Prop} {e : Ending} (h : Q e ∧ ∃ nq, w' = w.drewN nq) : Q e ∧ Below w.heap.size w w' := by
 obtain ⟨h1, nq, rfl⟩ := h
 exact ⟨h1, below_drewN _ _⟩
theorem er0_eq (h : er0 x = er0 y) : x.er = y.er ∧ x.cs = y.cs ∧ x.wh = y.wh ∧ x.has = y.has ∧ x.cl = y.cl :=
 ⟨(show (er0 x).er = (er0 y).er by rw [h]), (show (er0 x).cs = (er0 y).cs by rw [h]), (show (er0 x).wh = (er0 y).wh by rw [h]), (show (er0 x).has = (er0 y).has by rw [h]), (show (er0 x).cl = (er0 y).cl by rw [h])⟩
theorem BX.shp (h : BX W b ts t mo m now R1 R2 s s2 w) (he : eS s = eS s2) (k : Int) {P P' : Option Addr} (hP : cp (cA s k).1.ch = P) (hP' : cp (cA s2 k).1.ch = P') : ShP t m k (cA s k).1.er (cA s k).1.cs (cA s k).2 (cA s k).1.wh (cA s k).1.has P P' w := by
 subst hP hP'
 obtain ⟨h1, h2⟩ := cA_two he k
 obtain ⟨g1, g2, g3, g4, g5⟩ := er0_eq h2
 refine ⟨h.lkP fun fs => cerr_any k fs, h.lkP fun fs => ccause_any k fs, ?_, h.lkP fun fs => cuntil_any k fs, ?_, h.lkP fun fs => cdone_any k fs, ?_⟩
 · rw [g1, g2, h1]; exact h.lkD fun rc => (rerr_any rc k).mono fun e w' h => drew_to (Q := fun e => e = _) h
 · rw [g3, g4, h1]; exact h.lkD fun rc => (runtil_any rc k).mono fun e w' h => drew_to (Q := fun e => e = _) h
 · rw [h1]; exact h.lkD fun rc => (rdone_any rc k).mono fun e w' h => drew_to (Q := fun e => e = _) h
theorem BX.len (h : BX W b ts t mo m now R1 R2 s s2 w) (he : eS s = eS s2) : Lk 42 #[pS t] (.int .i64 (s.C.length : Int)) w ∧ Lk 38 #[pM' m] (.int .i64 (s.C.length : Int)) w ∧ s.C.length ≤ 64 := by
 have hl : s.C.length = s2.C.length := by rw [← eS_len s, he, eS_len]
 refine ⟨h.lkP fun fs => (clen_any fs).mono fun e w' h => ⟨h.1, same_below h.2⟩, ?_, h.ix.1.iw.v.cl⟩
 rw [hl]
 exact h.lkD fun rc => by
  obtain ⟨⟨N, o, hr, r, e⟩, t⟩ := rc
  exact (rlen_any hr).mono fun e w' h => ⟨h.1, same_below h.2⟩
theorem BX.shut {p p' : Nat} (h : BX W b ts t mo m now R1 R2 s s2 w) (hx : s.C[i]? = some x) (hy : s2.C[i]? = some y) (hxy : er0 x = er0 y) (hp : x.ch = some p) (hp' : y.ch = some p') :
  Lk 41 #[.pointer (some ⟨p, 0, none⟩)] (.bool x.cl) w ∧ ∀ w1, Below w.heap.size w w1 → w1.cell? ⟨p', 3, none⟩ = some (.bool x.cl) := by
 refine ⟨h.lkP fun fs => ?_, fun w1 hb => ?_⟩
 · obtain ⟨⟨F, G, o, y, e⟩, mm⟩ := fs
   exact (Ch.closed_chan (y.ch i x p hx hp)).mono fun e w' h => ⟨h.1, same_below h.2⟩
 · obtain ⟨O, rc⟩ := (h.later hb).rc
   obtain ⟨⟨N, o, hr, r, e⟩, t⟩ := rc
   rw [(er0_eq hxy).2.2.2.2]
   exact (hr.ch i y p' hy hp').2.cl
theorem pack (h : BM W b ts t mo m now R1 R2 d d w) (k : Int) : ∃ er cs r wh has P P', ShP t m k er cs r wh has P P' w ∧ ((P = none ∧ P' = none) ∨ ∃ p p' cl, P = some ⟨p, 0, none⟩ ∧ P' = some ⟨p', 0, none⟩ ∧ Lk 41 #[.pointer (some ⟨p, 0, none⟩)] (.bool cl) w ∧ ∀ w1, Below w.heap.size w w1 → w1.cell? ⟨p', 3, none⟩ = some (.bool cl)) := by
 obtain ⟨s, s2, hx, e1, e2⟩ := h.bx
 have he : eS s = eS s2 := e1.trans e2.symm
 rcases cA_out s k with hk | ⟨i, x, rfl, hx1⟩
 · have hk2 : k < 0 ∨ (s2.C.length : Int) ≤ k := by
    have : s.C.length = s2.C.length := by rw [← eS_len s, he, eS_len]
    omega
   exact ⟨_, _, _, _, _, none, none, hx.shp he k (by rw [cA_no hk]; rfl) (by rw [cA_no hk2]; rfl), .inl ⟨rfl, rfl⟩⟩
 · obtain ⟨y, hy1, hxy⟩ : ∃ y, s2.C[i]? = some y ∧ er0 x = er0 y := by
    have h3 : (eS s2).C[i]? = some (er0 x) := by rw [← he]; exact eS_at hx1
    obtain ⟨y, h4, h5⟩ := eS_back h3
    exact ⟨y, h4, h5.symm⟩
   have ca1 : cA s (i : Int) = (x, 0) := cA_at hx1
   have ca2 : cA s2 (i : Int) = (y, 0) := cA_at hy1
   cases hp : x.ch with
   | none =>
    have hp' : y.ch = none := er0_none (by rw [← hxy]; unfold er0; rw [hp]; rfl)
    exact ⟨_, _, _, _, _, none, none, hx.shp he (i : Int) (by rw [ca1]; show cp x.ch = none; rw [hp]; rfl) (by rw [ca2]; show cp y.ch = none; rw [hp']; rfl), .inl ⟨rfl, rfl⟩⟩
   | some p =>
    obtain ⟨p', hp'⟩ := (er0_live y).1 (by rw [← hxy]; exact (er0_live x).2 ⟨p, hp⟩)
    obtain ⟨g1, g2⟩ := hx.shut hx1 hy1 hxy hp hp'
    exact ⟨_, _, _, _, _, some ⟨p, 0, none⟩, some ⟨p', 0, none⟩, hx.shp he (i : Int) (by rw [ca1]; show cp x.ch = _; rw [hp]; rfl) (by rw [ca2]; show cp y.ch = _; rw [hp']; rfl), .inr ⟨p, p', x.cl, rfl, rfl, g1, g2⟩⟩
theorem pack_len (h : BM W b ts t mo m now R1 R2 d d w) : ∃ N : Nat, N ≤ 64 ∧ Lk 42 #[pS t] (.int .i64 (N : Int)) w ∧ Lk 38 #[pM' m] (.int .i64 (N : Int)) w := by
 obtain ⟨s, s2, hx, e1, e2⟩ := h.bx
 obtain ⟨h1, h2, h3⟩ := hx.len (e1.trans e2.symm)
 exact ⟨_, h3, h1, h2⟩
theorem BM.cellsL (h : BM W b ts t mo m now R1 R2 d1 d2 w) (w1 : World) (hb : Below w.heap.size w w1) : w1.cell? ⟨b, 1, none⟩ = some (.pointer (some ⟨t, 0, none⟩)) ∧ w1.cell? ⟨b, 3, none⟩ = some (.pointer (some ⟨m, 0, none⟩)) :=
 ⟨(h.later hb).cells.1.2.1, (h.later hb).cells.1.2.2.2.1⟩
end
end Go.Proofs.YtdpapnfjpefhkaaGreat
