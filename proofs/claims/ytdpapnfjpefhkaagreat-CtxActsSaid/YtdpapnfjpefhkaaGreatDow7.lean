/- Time goes on, on both sides: one act on both sides: the same. Conditions: each theorem's own premises. -/
import Derived.Test.YtdpapnfjpefhkaaGreatDow5m
import Derived.Deep.CutRange
namespace Go.Proofs.YtdpapnfjpefhkaaGreat
open Go.RowKit Tr
set_option linter.unusedVariables false
set_option maxRecDepth 100000
section
variable {W w w' w'' w1 : World} {t ts m mo b i j q R R1 R2 : Nat} {d d1 d2 d' : St} {now k a c : Int}
set_option maxHeartbeats 64000000 in
theorem does_7 (h : BM W b ts t mo m now R R d d w) : Calls Tryz.prog 6 #[.pointer (some ⟨b, 0, none⟩), .agg (aB 7 a c)] w (DoR W b ts t mo m R) := by
 have h0 := h.later (below_al w (.cells (aB 7 a c) 29))
 have hx := heap_alloc_new w (.cells (aB 7 a c) 29)
 have hck0 := ck_of h0 hx
 have hck := And.intro hck0.1 (And.intro hck0.2.1 (And.intro hck0.2.2.1 (And.intro hck0.2.2.2.1 (And.intro hck0.2.2.2.2.1 (And.intro hck0.2.2.2.2.2.1 (And.intro hck0.2.2.2.2.2.2 (h0.cells.2 4)))))))
 have HT : Hid (∀ z, BM W b ts t mo m z R R d d ((w.alloc (.cells (aB 7 a c) 29)).drew.setCell ⟨b, 4, none⟩ (.int .i64 z))) := fun z => (h0.later (Below.refl _ _).drew).turn z
 have k0 := (aB_cells hx).1
 obtain ⟨hs1, hs2, hs3⟩ := h.sml
 have HE : Hid (d.S.length + 0 ≤ d.E.length ∧ d.E.length ≤ 64) := ⟨hs2, hs3⟩
 clear h h0 hx hck0 hs1 hs2 hs3
 unfold aB at *
 go_enter Tryz.func6, Tryz.ntmps6
 go_upto_region 27 with (fail)
 clear k0
 generalize w.alloc (.cells #[.int .i64 7, .int .i64 a, .int .i64 c] 29) = w0 at *
 generalize w.heap.size = q at *
 go_cut [299] from 291 to 301 (fun s wx => ∃ z : Int, Hid (BM W b ts t mo m z R R d d wx))
 case first =>
  refine but_startB (fun i => decide (11 ≤ i)) (fun w' => w'.cell? ⟨b, 0, none⟩ = some (.pointer (some ⟨ts, 0, none⟩)) ∧ w'.cell? ⟨b, 1, none⟩ = some (.pointer (some ⟨t, 0, none⟩)) ∧ w'.cell? ⟨b, 2, none⟩ = some (.pointer (some ⟨mo, 0, none⟩)) ∧ w'.cell? ⟨b, 3, none⟩ = some (.pointer (some ⟨m, 0, none⟩)) ∧ w'.cell? ⟨b, 4, none⟩ = some (.int .i64 now) ∧ w'.cell? ⟨q, 1, none⟩ = some (.int .i64 a) ∧ w'.cell? ⟨q, 2, none⟩ = some (.int .i64 c) ∧ w'.frozen? ⟨b, 4, none⟩ = false) (by kernel_rfl) (by as_aux_lemma => kernel_rfl) ?_
  intro hTidy
  have hHeld := hck
  change AnyB _ _ _ _ _ _ 12 _ _ _
  refine tkB 0 rfl hTidy hHeld ?_
  refine tkB 1 rfl hTidy hHeld ?_
  refine tkB 2 rfl hTidy hHeld ?_
  refine tkB 3 rfl hTidy hHeld ?_
  refine tkB 4 rfl hTidy hHeld ?_
  refine tkB 5 rfl hTidy hHeld ?_
  refine tkB 6 rfl hTidy hHeld ?_
  refine tkB 7 rfl hTidy hHeld ?_
  try simp only [l1, l2, l3, Act.put, l4, l5, l6]
  refine but_oneB (i := 8) (by kernel_rfl) rfl ?_
  intro K hK
  go_simp
  go_at_call 29
  refine (radd_any _ _ _).mono ?_
  rintro e w4 ⟨rfl, rfl⟩
  have hHeld2 := hHeld
  refine hK _ _ (fun _ => hHeld2) ?_
  clear hK K hHeld
  have hHeld := hHeld2
  clear hHeld2
  refine tkB 9 rfl hTidy hHeld ?_
  refine tkB 10 rfl hTidy hHeld ?_
  try simp only [l1, l2, l3, Act.put, l4, l5, l6]
  refine but_oneB (i := 11) (by kernel_rfl) rfl ?_
  intro K hK
  go_simp
  refine hK _ _ (fun h => absurd h (by decide)) ?_
  clear hK K
  try clear hHeld
  try simp only [l1, l2, l3, Act.put, l4, l5, l6]
  refine but_doneB (by kernel_rfl) ?_
  try clear hHeld
  clear hTidy
  go_wp2_with fail
  go_meet
  exact ⟨_, HT.out _⟩
 case rest =>
  obtain ⟨z, hB⟩ := hcut
  clear HT hck
  go_wp2_with fail
  generalize hE : d.E.length = E at *
  have hE64 := HE.out.2
  go_loopw [37] (fun i wr => ∃ (k : Nat) (d : St), i = .int .i64 k ∧ Hid (BM W b ts t mo m z R R d d wr) ∧ d.E.length = E ∧ d.S.length + k ≤ E) (fun i _ => E + 1 - (intOf i).toNat)
  case atStart => exact ⟨0, d, rfl, hB, hE, HE.out.1⟩
  case round =>
   clear hB
   obtain ⟨k, d, rfl, hB, hE1, hS1⟩ := hrel
   obtain ⟨P, cL, hL⟩ := hB.out.lenL
   rw [hE1] at hL
   have hc := hB.out.cells.1
   go_split_ands
   have hkE : (k : Int) ≤ (E : Int) := by omega
   have hk0 : 0 ≤ (k : Int) := by omega
   have HQ := Lib.hid (And.intro hE1 hS1)
   have hkN : k ≤ E := by omega
   clear hE hE1 hS1
   obtain ⟨f0, f1, f2, f3, f4, ok, d', hcase, h30, h31⟩ := pair_fire hB.out z
   have HC := Lib.hid hcase
   have H30 : Hid (∀ {w : World}, BM W b ts t mo m z R R d d w → Calls Tryz.prog 30 #[pS ts, .int .i64 z] w fun e w' => PoF f0 f1 f2 f3 f4 ok w e w' ∧ BM W b ts t mo m z R R d' d w' ∧ KP w w') := fun h => h30 h
   have H31 : Hid (∀ {w : World}, BM W b ts t mo m z R R d' d w → Calls Tryz.prog 31 #[.pointer (some ⟨mo, 0, none⟩), .int .i64 z] w fun e w' => PoF f0 f1 f2 f3 f4 ok w e w' ∧ BM W b ts t mo m z R R d' d' w' ∧ KD w w') := fun h => h31 h
   clear hcase h30 h31
   go_wp2_with fail
   have hr9 : W.heap.size ≤ wr.heap.size := hB.out.bel.size
   have HB := Lib.hid (hB.out.later (Below.refl wr.heap.size wr).drew)
   have HBp := hB
   clear hL hB
   go_cut [38, 39] from 314 to 325 (fun s38 s39 wx => ∃ p : Nat, s38 = .pointer (some ⟨p, 0, none⟩) ∧ s39 = .bool ok ∧ Hid (Tb 88 p f0 f1 f2 f3 f4 wx ∧ BM W b ts t mo m z R R d' d wx))
   case first =>
    refine but_startQ 1000 (fun w' => w'.cell? ⟨b, 0, none⟩ = some (.pointer (some ⟨ts, 0, none⟩)) ∧ w'.cell? ⟨b, 1, none⟩ = some (.pointer (some ⟨t, 0, none⟩)) ∧ w'.cell? ⟨b, 2, none⟩ = some (.pointer (some ⟨mo, 0, none⟩)) ∧ w'.cell? ⟨b, 3, none⟩ = some (.pointer (some ⟨m, 0, none⟩)) ∧ w'.cell? ⟨b, 4, none⟩ = some (.int .i64 z)) (by kernel_rfl) (by as_aux_lemma => kernel_rfl) ?_
    intro hTidy
    have hHeld := (show wr.drew.cell? ⟨b, 0, none⟩ = some (.pointer (some ⟨ts, 0, none⟩)) ∧ wr.drew.cell? ⟨b, 1, none⟩ = some (.pointer (some ⟨t, 0, none⟩)) ∧ wr.drew.cell? ⟨b, 2, none⟩ = some (.pointer (some ⟨mo, 0, none⟩)) ∧ wr.drew.cell? ⟨b, 3, none⟩ = some (.pointer (some ⟨m, 0, none⟩)) ∧ wr.drew.cell? ⟨b, 4, none⟩ = some (.int .i64 z) from HB.out.cells.1)
    change AnyBut _ _ _ _ _ _ 15 _ _ _
    refine tkQ 0 rfl hTidy hHeld ?_
    refine tkQ 1 rfl hTidy hHeld ?_
    refine tkQ 2 rfl hTidy hHeld ?_
    refine tkQ 3 rfl hTidy hHeld ?_
    refine tkQ 4 rfl hTidy hHeld ?_
    refine tkQ 5 rfl hTidy hHeld ?_
    refine tkQ 6 rfl hTidy hHeld ?_
    refine tkQ 7 rfl hTidy hHeld ?_
    try simp only [l1, l2, l3, Act.put, l4, l5, l6]
    refine but_two (i := 8) (j := 12) (by kernel_rfl) rfl rfl ?_ ?_
    · as_aux_lemma =>
      intro K hK
      go_simp
      go_at_call 30
      refine (H30.out HB.out).mono ?_
      rintro e w3 ⟨⟨A9, l9, c9, b9, rfl⟩, hbm, hkp⟩
      have HM3 := Lib.hid hbm
      clear hbm hkp
      try dsimp only
      have hHeld2 := (show w3.cell? ⟨b, 0, none⟩ = some (.pointer (some ⟨ts, 0, none⟩)) ∧ w3.cell? ⟨b, 1, none⟩ = some (.pointer (some ⟨t, 0, none⟩)) ∧ w3.cell? ⟨b, 2, none⟩ = some (.pointer (some ⟨mo, 0, none⟩)) ∧ w3.cell? ⟨b, 3, none⟩ = some (.pointer (some ⟨m, 0, none⟩)) ∧ w3.cell? ⟨b, 4, none⟩ = some (.int .i64 z) from HM3.out.cells.1)
      refine hK _ _ (fun _ => hHeld2) ?_
      clear hK K hHeld
      have hHeld := hHeld2
      clear hHeld2
      refine tkQ 9 rfl hTidy hHeld ?_
      refine tkQ 10 rfl hTidy hHeld ?_
      refine tkQ 11 rfl hTidy hHeld ?_
      try simp only [l1, l2, l3, Act.put, l4, l5, l6]
      refine but_one (i := 12) (by kernel_rfl) rfl ?_
      intro K hK
      go_simp
      have hHeld2 := (show (w3.alloc (zF 88)).cell? ⟨b, 0, none⟩ = some (.pointer (some ⟨ts, 0, none⟩)) ∧ (w3.alloc (zF 88)).cell? ⟨b, 1, none⟩ = some (.pointer (some ⟨t, 0, none⟩)) ∧ (w3.alloc (zF 88)).cell? ⟨b, 2, none⟩ = some (.pointer (some ⟨mo, 0, none⟩)) ∧ (w3.alloc (zF 88)).cell? ⟨b, 3, none⟩ = some (.pointer (some ⟨m, 0, none⟩)) ∧ (w3.alloc (zF 88)).cell? ⟨b, 4, none⟩ = some (.int .i64 z) from (HM3.out.later (below_al _ _)).cells.1)
      refine hK _ _ (fun _ => hHeld2) ?_
      clear hK K hHeld
      have hHeld := hHeld2
      clear hHeld2
      try simp only [l1, l2, l3, Act.put, l4, l5, l6]
      refine but_one (i := 13) (by kernel_rfl) rfl ?_
      intro K hK
      go_simp
      have hHeld2 := (show (w3.alloc (.cells #[.int .i64 f0, .int .i64 f1, .int .i64 f2, .int .i64 f3, .int .i64 f4, .slice A9 l9 c9, .bool b9] 88)).cell? ⟨b, 0, none⟩ = some (.pointer (some ⟨ts, 0, none⟩)) ∧ (w3.alloc (.cells #[.int .i64 f0, .int .i64 f1, .int .i64 f2, .int .i64 f3, .int .i64 f4, .slice A9 l9 c9, .bool b9] 88)).cell? ⟨b, 1, none⟩ = some (.pointer (some ⟨t, 0, none⟩)) ∧ (w3.alloc (.cells #[.int .i64 f0, .int .i64 f1, .int .i64 f2, .int .i64 f3, .int .i64 f4, .slice A9 l9 c9, .bool b9] 88)).cell? ⟨b, 2, none⟩ = some (.pointer (some ⟨mo, 0, none⟩)) ∧ (w3.alloc (.cells #[.int .i64 f0, .int .i64 f1, .int .i64 f2, .int .i64 f3, .int .i64 f4, .slice A9 l9 c9, .bool b9] 88)).cell? ⟨b, 3, none⟩ = some (.pointer (some ⟨m, 0, none⟩)) ∧ (w3.alloc (.cells #[.int .i64 f0, .int .i64 f1, .int .i64 f2, .int .i64 f3, .int .i64 f4, .slice A9 l9 c9, .bool b9] 88)).cell? ⟨b, 4, none⟩ = some (.int .i64 z) from (HM3.out.later (below_al _ _)).cells.1)
      refine hK _ _ (fun _ => hHeld2) ?_
      clear hK K hHeld
      have hHeld := hHeld2
      clear hHeld2
      refine tkQ 14 rfl hTidy hHeld ?_
      try simp only [l1, l2, l3, Act.put, l4, l5, l6]
      refine but_done (by kernel_rfl) ?_
      clear hHeld hTidy
      go_wp2_with fail
      go_meet
      exact ⟨_, rfl, rfl, Tb.new _ _ _ _ _ _ _ _ _ _ _, HM3.out.later (below_al _ _)⟩
    · as_aux_lemma =>
      intro K hK
      go_simp
      have HB4 := Lib.hid (HBp.out.later (below_al wr (zF 88)).drew)
      have HZ : Hid (Zb 88 wr.heap.size (wr.alloc (zF 88)).drew) := Zb.new 88 wr
      dsimp only [zF] at HB4 HZ
      generalize (wr.alloc (.cells #[.int .i64 0, .int .i64 0, .int .i64 0, .int .i64 0, .int .i64 0, .slice none 0 0, .bool false] 88)).drew = w4 at *
      generalize wr.heap.size = r9 at *
      have hHeld2 := (show w4.cell? ⟨b, 0, none⟩ = some (.pointer (some ⟨ts, 0, none⟩)) ∧ w4.cell? ⟨b, 1, none⟩ = some (.pointer (some ⟨t, 0, none⟩)) ∧ w4.cell? ⟨b, 2, none⟩ = some (.pointer (some ⟨mo, 0, none⟩)) ∧ w4.cell? ⟨b, 3, none⟩ = some (.pointer (some ⟨m, 0, none⟩)) ∧ w4.cell? ⟨b, 4, none⟩ = some (.int .i64 z) from HB4.out.cells.1)
      refine hK _ _ (fun _ => hHeld2) ?_
      clear hK K hHeld
      have hHeld := hHeld2
      clear hHeld2
      try simp only [l1, l2, l3, Act.put, l4, l5, l6]
      refine but_one (i := 8) (by kernel_rfl) rfl ?_
      intro K hK
      go_simp
      go_at_call 30
      refine (H30.out HB4.out).mono ?_
      rintro e w3 ⟨⟨A9, l9, c9, b9, rfl⟩, hbm, hkp⟩
      have HM3 := Lib.hid hbm
      have HZ3 := Lib.hid (Zb.kb (by decide) HZ.out hkp.kb)
      clear hbm hkp
      try dsimp only
      have hHeld2 := (show w3.cell? ⟨b, 0, none⟩ = some (.pointer (some ⟨ts, 0, none⟩)) ∧ w3.cell? ⟨b, 1, none⟩ = some (.pointer (some ⟨t, 0, none⟩)) ∧ w3.cell? ⟨b, 2, none⟩ = some (.pointer (some ⟨mo, 0, none⟩)) ∧ w3.cell? ⟨b, 3, none⟩ = some (.pointer (some ⟨m, 0, none⟩)) ∧ w3.cell? ⟨b, 4, none⟩ = some (.int .i64 z) from HM3.out.cells.1)
      refine hK _ _ (fun _ => hHeld2) ?_
      clear hK K hHeld
      have hHeld := hHeld2
      clear hHeld2
      refine tkQ 9 rfl hTidy hHeld ?_
      refine tkQ 10 rfl hTidy hHeld ?_
      refine tkQ 11 rfl hTidy hHeld ?_
      try simp only [l1, l2, l3, Act.put, l4, l5, l6]
      refine but_one (i := 13) (by kernel_rfl) rfl ?_
      intro K hK
      obtain ⟨z0, z1, z2, z3, z4, z5, z6, zf⟩ := HZ3.out.cells
      have y0 := zf 0
      have y1 := zf 1
      have y2 := zf 2
      have y3 := zf 3
      have y4 := zf 4
      have y5 := zf 5
      have y6 := zf 6
      clear zf
      go_simp
      clear z0 z1 z2 z3 z4 z5 z6 y0 y1 y2 y3 y4 y5 y6
      obtain ⟨g1, g2, g3⟩ := HZ3.out.fill (id := f0) (kd := f1) (yw := f2) (at_ := f3) (dt := f4) (A := A9) (l := l9) (c := c9) (z := b9)
      have HT5 := Lib.hid g1
      have HM5 := Lib.hid (HM3.out.fill (id := f0) (kd := f1) (yw := f2) (at_ := f3) (dt := f4) (A := A9) (l := l9) (c := c9) (zz := b9) (.inl rfl) hr9 HZ3.out)
      clear g1 g2 g3
      change K _ (fillW r9 f0 f1 f2 f3 f4 A9 l9 c9 b9 w3)
      generalize fillW r9 f0 f1 f2 f3 f4 A9 l9 c9 b9 w3 = w5 at *
      have hHeld2 := (show w5.cell? ⟨b, 0, none⟩ = some (.pointer (some ⟨ts, 0, none⟩)) ∧ w5.cell? ⟨b, 1, none⟩ = some (.pointer (some ⟨t, 0, none⟩)) ∧ w5.cell? ⟨b, 2, none⟩ = some (.pointer (some ⟨mo, 0, none⟩)) ∧ w5.cell? ⟨b, 3, none⟩ = some (.pointer (some ⟨m, 0, none⟩)) ∧ w5.cell? ⟨b, 4, none⟩ = some (.int .i64 z) from HM5.out.cells.1)
      refine hK _ _ (fun _ => hHeld2) ?_
      clear hK K hHeld
      have hHeld := hHeld2
      clear hHeld2
      refine tkQ 14 rfl hTidy hHeld ?_
      try simp only [l1, l2, l3, Act.put, l4, l5, l6]
      refine but_done (by kernel_rfl) ?_
      clear hHeld hTidy
      go_wp2_with fail
      go_meet
      exact ⟨_, rfl, rfl, HT5.out, HM5.out⟩
   case rest =>
    obtain ⟨p, rfl, rfl, hB⟩ := hcut
    clear HB HBp H30 hr9
    have hr9 : W.heap.size ≤ wc.heap.size := hB.out.2.bel.size
    have HT1 := Lib.hid (hB.out.1.later (Below.refl _ _).drew)
    have HB := Lib.hid (hB.out.2.later (Below.refl _ _).drew)
    have HBp := Lib.hid hB.out.2
    have HT1p := Lib.hid hB.out.1
    clear hB
    go_upto_region 32 with (fail)
    go_cut [40, 41] from 326 to 337 (fun s40 s41 wx => ∃ p' : Nat, s40 = .pointer (some ⟨p', 0, none⟩) ∧ s41 = .bool ok ∧ Hid (Tb 88 p f0 f1 f2 f3 f4 wx ∧ Tb 91 p' f0 f1 f2 f3 f4 wx ∧ BM W b ts t mo m z R R d' d' wx))
    case first =>
     refine but_startQ 1000 (fun w' => w'.cell? ⟨b, 0, none⟩ = some (.pointer (some ⟨ts, 0, none⟩)) ∧ w'.cell? ⟨b, 1, none⟩ = some (.pointer (some ⟨t, 0, none⟩)) ∧ w'.cell? ⟨b, 2, none⟩ = some (.pointer (some ⟨mo, 0, none⟩)) ∧ w'.cell? ⟨b, 3, none⟩ = some (.pointer (some ⟨m, 0, none⟩)) ∧ w'.cell? ⟨b, 4, none⟩ = some (.int .i64 z)) (by kernel_rfl) (by as_aux_lemma => kernel_rfl) ?_
     intro hTidy
     have hHeld := (show wc.drew.cell? ⟨b, 0, none⟩ = some (.pointer (some ⟨ts, 0, none⟩)) ∧ wc.drew.cell? ⟨b, 1, none⟩ = some (.pointer (some ⟨t, 0, none⟩)) ∧ wc.drew.cell? ⟨b, 2, none⟩ = some (.pointer (some ⟨mo, 0, none⟩)) ∧ wc.drew.cell? ⟨b, 3, none⟩ = some (.pointer (some ⟨m, 0, none⟩)) ∧ wc.drew.cell? ⟨b, 4, none⟩ = some (.int .i64 z) from HB.out.cells.1)
     change AnyBut _ _ _ _ _ _ 15 _ _ _
     refine tkQ 0 rfl hTidy hHeld ?_
     refine tkQ 1 rfl hTidy hHeld ?_
     refine tkQ 2 rfl hTidy hHeld ?_
     refine tkQ 3 rfl hTidy hHeld ?_
     refine tkQ 4 rfl hTidy hHeld ?_
     refine tkQ 5 rfl hTidy hHeld ?_
     refine tkQ 6 rfl hTidy hHeld ?_
     refine tkQ 7 rfl hTidy hHeld ?_
     try simp only [l1, l2, l3, Act.put, l4, l5, l6]
     refine but_two (i := 8) (j := 12) (by kernel_rfl) rfl rfl ?_ ?_
     · as_aux_lemma =>
       intro K hK
       go_simp
       go_at_call 31
       refine (H31.out HB.out).mono ?_
       rintro e w3 ⟨⟨A9, l9, c9, b9, rfl⟩, hbm, hkp⟩
       have HM3 := Lib.hid hbm
       have HT3 := Lib.hid (Tb.kb (by decide) HT1.out hkp.kb)
       clear hbm hkp
       try dsimp only
       have hHeld2 := (show w3.cell? ⟨b, 0, none⟩ = some (.pointer (some ⟨ts, 0, none⟩)) ∧ w3.cell? ⟨b, 1, none⟩ = some (.pointer (some ⟨t, 0, none⟩)) ∧ w3.cell? ⟨b, 2, none⟩ = some (.pointer (some ⟨mo, 0, none⟩)) ∧ w3.cell? ⟨b, 3, none⟩ = some (.pointer (some ⟨m, 0, none⟩)) ∧ w3.cell? ⟨b, 4, none⟩ = some (.int .i64 z) from HM3.out.cells.1)
       refine hK _ _ (fun _ => hHeld2) ?_
       clear hK K hHeld
       have hHeld := hHeld2
       clear hHeld2
       refine tkQ 9 rfl hTidy hHeld ?_
       refine tkQ 10 rfl hTidy hHeld ?_
       refine tkQ 11 rfl hTidy hHeld ?_
       try simp only [l1, l2, l3, Act.put, l4, l5, l6]
       refine but_one (i := 12) (by kernel_rfl) rfl ?_
       intro K hK
       go_simp
       have hHeld2 := (show (w3.alloc (zF 91)).cell? ⟨b, 0, none⟩ = some (.pointer (some ⟨ts, 0, none⟩)) ∧ (w3.alloc (zF 91)).cell? ⟨b, 1, none⟩ = some (.pointer (some ⟨t, 0, none⟩)) ∧ (w3.alloc (zF 91)).cell? ⟨b, 2, none⟩ = some (.pointer (some ⟨mo, 0, none⟩)) ∧ (w3.alloc (zF 91)).cell? ⟨b, 3, none⟩ = some (.pointer (some ⟨m, 0, none⟩)) ∧ (w3.alloc (zF 91)).cell? ⟨b, 4, none⟩ = some (.int .i64 z) from (HM3.out.later (below_al _ _)).cells.1)
       refine hK _ _ (fun _ => hHeld2) ?_
       clear hK K hHeld
       have hHeld := hHeld2
       clear hHeld2
       try simp only [l1, l2, l3, Act.put, l4, l5, l6]
       refine but_one (i := 13) (by kernel_rfl) rfl ?_
       intro K hK
       go_simp
       have hHeld2 := (show (w3.alloc (.cells #[.int .i64 f0, .int .i64 f1, .int .i64 f2, .int .i64 f3, .int .i64 f4, .slice A9 l9 c9, .bool b9] 91)).cell? ⟨b, 0, none⟩ = some (.pointer (some ⟨ts, 0, none⟩)) ∧ (w3.alloc (.cells #[.int .i64 f0, .int .i64 f1, .int .i64 f2, .int .i64 f3, .int .i64 f4, .slice A9 l9 c9, .bool b9] 91)).cell? ⟨b, 1, none⟩ = some (.pointer (some ⟨t, 0, none⟩)) ∧ (w3.alloc (.cells #[.int .i64 f0, .int .i64 f1, .int .i64 f2, .int .i64 f3, .int .i64 f4, .slice A9 l9 c9, .bool b9] 91)).cell? ⟨b, 2, none⟩ = some (.pointer (some ⟨mo, 0, none⟩)) ∧ (w3.alloc (.cells #[.int .i64 f0, .int .i64 f1, .int .i64 f2, .int .i64 f3, .int .i64 f4, .slice A9 l9 c9, .bool b9] 91)).cell? ⟨b, 3, none⟩ = some (.pointer (some ⟨m, 0, none⟩)) ∧ (w3.alloc (.cells #[.int .i64 f0, .int .i64 f1, .int .i64 f2, .int .i64 f3, .int .i64 f4, .slice A9 l9 c9, .bool b9] 91)).cell? ⟨b, 4, none⟩ = some (.int .i64 z) from (HM3.out.later (below_al _ _)).cells.1)
       refine hK _ _ (fun _ => hHeld2) ?_
       clear hK K hHeld
       have hHeld := hHeld2
       clear hHeld2
       refine tkQ 14 rfl hTidy hHeld ?_
       try simp only [l1, l2, l3, Act.put, l4, l5, l6]
       refine but_done (by kernel_rfl) ?_
       clear hHeld hTidy
       go_wp2_with fail
       go_meet
       exact ⟨_, rfl, rfl, HT3.out.later (below_al _ _), Tb.new _ _ _ _ _ _ _ _ _ _ _, HM3.out.later (below_al _ _)⟩
     · as_aux_lemma =>
       intro K hK
       go_simp
       have HB4 := Lib.hid (HBp.out.later (below_al wc (zF 91)).drew)
       have HZ : Hid (Zb 91 wc.heap.size (wc.alloc (zF 91)).drew) := Zb.new 91 wc
       have HT4 := Lib.hid (HT1p.out.later (below_al wc (zF 91)).drew)
       dsimp only [zF] at HB4 HZ HT4
       generalize (wc.alloc (.cells #[.int .i64 0, .int .i64 0, .int .i64 0, .int .i64 0, .int .i64 0, .slice none 0 0, .bool false] 91)).drew = w4 at *
       generalize wc.heap.size = r9 at *
       have hHeld2 := (show w4.cell? ⟨b, 0, none⟩ = some (.pointer (some ⟨ts, 0, none⟩)) ∧ w4.cell? ⟨b, 1, none⟩ = some (.pointer (some ⟨t, 0, none⟩)) ∧ w4.cell? ⟨b, 2, none⟩ = some (.pointer (some ⟨mo, 0, none⟩)) ∧ w4.cell? ⟨b, 3, none⟩ = some (.pointer (some ⟨m, 0, none⟩)) ∧ w4.cell? ⟨b, 4, none⟩ = some (.int .i64 z) from HB4.out.cells.1)
       refine hK _ _ (fun _ => hHeld2) ?_
       clear hK K hHeld
       have hHeld := hHeld2
       clear hHeld2
       try simp only [l1, l2, l3, Act.put, l4, l5, l6]
       refine but_one (i := 8) (by kernel_rfl) rfl ?_
       intro K hK
       go_simp
       go_at_call 31
       refine (H31.out HB4.out).mono ?_
       rintro e w3 ⟨⟨A9, l9, c9, b9, rfl⟩, hbm, hkp⟩
       have HM3 := Lib.hid hbm
       have HT3 := Lib.hid (Tb.kb (by decide) HT4.out hkp.kb)
       have HZ3 := Lib.hid (Zb.kb (by decide) HZ.out hkp.kb)
       clear hbm hkp
       try dsimp only
       have hHeld2 := (show w3.cell? ⟨b, 0, none⟩ = some (.pointer (some ⟨ts, 0, none⟩)) ∧ w3.cell? ⟨b, 1, none⟩ = some (.pointer (some ⟨t, 0, none⟩)) ∧ w3.cell? ⟨b, 2, none⟩ = some (.pointer (some ⟨mo, 0, none⟩)) ∧ w3.cell? ⟨b, 3, none⟩ = some (.pointer (some ⟨m, 0, none⟩)) ∧ w3.cell? ⟨b, 4, none⟩ = some (.int .i64 z) from HM3.out.cells.1)
       refine hK _ _ (fun _ => hHeld2) ?_
       clear hK K hHeld
       have hHeld := hHeld2
       clear hHeld2
       refine tkQ 9 rfl hTidy hHeld ?_
       refine tkQ 10 rfl hTidy hHeld ?_
       refine tkQ 11 rfl hTidy hHeld ?_
       try simp only [l1, l2, l3, Act.put, l4, l5, l6]
       refine but_one (i := 13) (by kernel_rfl) rfl ?_
       intro K hK
       obtain ⟨z0, z1, z2, z3, z4, z5, z6, zf⟩ := HZ3.out.cells
       have y0 := zf 0
       have y1 := zf 1
       have y2 := zf 2
       have y3 := zf 3
       have y4 := zf 4
       have y5 := zf 5
       have y6 := zf 6
       clear zf
       go_simp
       clear z0 z1 z2 z3 z4 z5 z6 y0 y1 y2 y3 y4 y5 y6
       obtain ⟨g1, g2, g3⟩ := HZ3.out.fill (id := f0) (kd := f1) (yw := f2) (at_ := f3) (dt := f4) (A := A9) (l := l9) (c := c9) (z := b9)
       have HT5 := Lib.hid g1
       have HM5 := Lib.hid (HM3.out.fill (id := f0) (kd := f1) (yw := f2) (at_ := f3) (dt := f4) (A := A9) (l := l9) (c := c9) (zz := b9) (.inr rfl) hr9 HZ3.out)
       have HU5 := Lib.hid (HT3.out.tz (by decide) g2)
       clear g1 g2 g3
       change K _ (fillW r9 f0 f1 f2 f3 f4 A9 l9 c9 b9 w3)
       generalize fillW r9 f0 f1 f2 f3 f4 A9 l9 c9 b9 w3 = w5 at *
       have hHeld2 := (show w5.cell? ⟨b, 0, none⟩ = some (.pointer (some ⟨ts, 0, none⟩)) ∧ w5.cell? ⟨b, 1, none⟩ = some (.pointer (some ⟨t, 0, none⟩)) ∧ w5.cell? ⟨b, 2, none⟩ = some (.pointer (some ⟨mo, 0, none⟩)) ∧ w5.cell? ⟨b, 3, none⟩ = some (.pointer (some ⟨m, 0, none⟩)) ∧ w5.cell? ⟨b, 4, none⟩ = some (.int .i64 z) from HM5.out.cells.1)
       refine hK _ _ (fun _ => hHeld2) ?_
       clear hK K hHeld
       have hHeld := hHeld2
       clear hHeld2
       refine tkQ 14 rfl hTidy hHeld ?_
       try simp only [l1, l2, l3, Act.put, l4, l5, l6]
       refine but_done (by kernel_rfl) ?_
       clear hHeld hTidy
       go_wp2_with fail
       go_meet
       exact ⟨_, rfl, rfl, HU5.out, HT5.out, HM5.out⟩
    case rest =>
     obtain ⟨p', rfl, rfl, hB⟩ := hcut
     clear HB HBp HT1 HT1p H31 hr9
     obtain ⟨p0, p1, p2, p4⟩ := hB.out.1.cells
     obtain ⟨q0, q1, q2, q4⟩ := hB.out.2.1.cells
     have HBd := Lib.hid (hB.out.2.2.later (Below.refl wc.heap.size wc).drew)
     have HTd := Lib.hid (hB.out.1.later (Below.refl wc.heap.size wc).drew)
     have HUd := Lib.hid (hB.out.2.1.later (Below.refl wc.heap.size wc).drew)
     obtain ⟨o, hs, h32, h33, hoE, hoS⟩ := pair_lapse7 f4 R d' hB.out.2.2.hd
     have HS := Lib.hid hs
     have H32 : Hid (∀ {w : World}, BM W b ts t mo m z R R d' d' w → Calls Tryz.prog 32 #[pS t, .int .i64 f4] w fun e w' => PoC 57 59 o w e w' ∧ BM W b ts t mo m z R R o.d d' w' ∧ KP w w') := fun h => h32 h
     have H33 : Hid (∀ {w : World}, BM W b ts t mo m z R R o.d d' w → Calls Tryz.prog 33 #[pM' m, .int .i64 f4] w fun e w' => PoC 160 164 o w e w' ∧ BM W b ts t mo m z R R o.d o.d w' ∧ KD w w') := fun h => h33 h
     clear hs h32 h33
     rcases HC.out with ⟨rfl, rfl⟩ | ⟨rfl, hdE, hdS⟩
     · clear H32 H33 HS HBd HTd HUd hoE hoS HC
       go_wp2_with fail
       go_ret
       exact ⟨rfl, z, _, R, Nat.le_succ R, hB.out.2.2⟩
     · have HO : Hid (o.d.E.length = E ∧ o.d.S.length + (k + 1) ≤ E) := by
        have := HQ.out
        rw [hoE, hdE]
        exact ⟨this.1, by omega⟩
       clear hoE hoS hdE hdS HQ HC hB
       go_wp2_with fail
       refine but_startQ 1000 (fun w' => w'.cell? ⟨b, 0, none⟩ = some (.pointer (some ⟨ts, 0, none⟩)) ∧ w'.cell? ⟨b, 1, none⟩ = some (.pointer (some ⟨t, 0, none⟩)) ∧ w'.cell? ⟨b, 2, none⟩ = some (.pointer (some ⟨mo, 0, none⟩)) ∧ w'.cell? ⟨b, 3, none⟩ = some (.pointer (some ⟨m, 0, none⟩)) ∧ w'.cell? ⟨b, 4, none⟩ = some (.int .i64 z) ∧ w'.cell? ⟨p, 4, none⟩ = some (.int .i64 f4) ∧ w'.cell? ⟨p', 4, none⟩ = some (.int .i64 f4)) (by kernel_rfl) (by as_aux_lemma => kernel_rfl) ?_
       intro hTidy
       have hHeld := (show wc.drew.cell? ⟨b, 0, none⟩ = some (.pointer (some ⟨ts, 0, none⟩)) ∧ wc.drew.cell? ⟨b, 1, none⟩ = some (.pointer (some ⟨t, 0, none⟩)) ∧ wc.drew.cell? ⟨b, 2, none⟩ = some (.pointer (some ⟨mo, 0, none⟩)) ∧ wc.drew.cell? ⟨b, 3, none⟩ = some (.pointer (some ⟨m, 0, none⟩)) ∧ wc.drew.cell? ⟨b, 4, none⟩ = some (.int .i64 z) ∧ wc.drew.cell? ⟨p, 4, none⟩ = some (.int .i64 f4) ∧ wc.drew.cell? ⟨p', 4, none⟩ = some (.int .i64 f4) from ⟨HBd.out.cells.1.1, HBd.out.cells.1.2.1, HBd.out.cells.1.2.2.1, HBd.out.cells.1.2.2.2.1, HBd.out.cells.1.2.2.2.2, HTd.out.cells.2.2.2, HUd.out.cells.2.2.2⟩)
       change AnyBut _ _ _ _ _ _ 14 _ _ _
       refine tkQ 0 rfl hTidy hHeld ?_
       refine tkQ 1 rfl hTidy hHeld ?_
       refine tkQ 2 rfl hTidy hHeld ?_
       refine tkQ 3 rfl hTidy hHeld ?_
       refine tkQ 4 rfl hTidy hHeld ?_
       refine tkQ 5 rfl hTidy hHeld ?_
       try simp only [l1, l2, l3, Act.put, l4, l5, l6]
       refine but_one (i := 6) (by kernel_rfl) rfl ?_
       intro K hK
       go_simp
       go_at_call 32
       refine (H32.out HBd.out).mono ?_
       rintro e w5 ⟨⟨P1, n1, k1, P3, n3, k3, hn1, rfl, hl1, hm1⟩, hbm, hkp⟩
       have HBw5 := Lib.hid hbm
       have HTw5 := Lib.hid (Tb.kb (by decide) HTd.out hkp.kb)
       have HUw5 := Lib.hid (Tb.kb (by decide) HUd.out hkp.kb)
       clear hbm hkp
       try dsimp only
       have hHeld2 := (show w5.cell? ⟨b, 0, none⟩ = some (.pointer (some ⟨ts, 0, none⟩)) ∧ w5.cell? ⟨b, 1, none⟩ = some (.pointer (some ⟨t, 0, none⟩)) ∧ w5.cell? ⟨b, 2, none⟩ = some (.pointer (some ⟨mo, 0, none⟩)) ∧ w5.cell? ⟨b, 3, none⟩ = some (.pointer (some ⟨m, 0, none⟩)) ∧ w5.cell? ⟨b, 4, none⟩ = some (.int .i64 z) ∧ w5.cell? ⟨p, 4, none⟩ = some (.int .i64 f4) ∧ w5.cell? ⟨p', 4, none⟩ = some (.int .i64 f4) from ⟨HBw5.out.cells.1.1, HBw5.out.cells.1.2.1, HBw5.out.cells.1.2.2.1, HBw5.out.cells.1.2.2.2.1, HBw5.out.cells.1.2.2.2.2, HTw5.out.cells.2.2.2, HUw5.out.cells.2.2.2⟩)
       refine hK _ _ (fun _ => hHeld2) ?_
       clear hK K hHeld
       have hHeld := hHeld2
       clear hHeld2
       refine tkQ 7 rfl hTidy hHeld ?_
       refine tkQ 8 rfl hTidy hHeld ?_
       refine tkQ 9 rfl hTidy hHeld ?_
       refine tkQ 10 rfl hTidy hHeld ?_
       refine tkQ 11 rfl hTidy hHeld ?_
       refine tkQ 12 rfl hTidy hHeld ?_
       refine tkQ 13 rfl hTidy hHeld ?_
       try simp only [l1, l2, l3, Act.put, l4, l5, l6]
       refine but_done (by kernel_rfl) ?_
       try clear hHeld
       clear hTidy
       have HBe := Lib.hid (HBw5.out.later (Below.refl w5.heap.size w5).drew)
       have HTe := Lib.hid (HTw5.out.later (Below.refl w5.heap.size w5).drew)
       have HUe := Lib.hid (HUw5.out.later (Below.refl w5.heap.size w5).drew)
       go_wp2_with fail
       refine but_startQ 1000 (fun w' => w'.cell? ⟨b, 0, none⟩ = some (.pointer (some ⟨ts, 0, none⟩)) ∧ w'.cell? ⟨b, 1, none⟩ = some (.pointer (some ⟨t, 0, none⟩)) ∧ w'.cell? ⟨b, 2, none⟩ = some (.pointer (some ⟨mo, 0, none⟩)) ∧ w'.cell? ⟨b, 3, none⟩ = some (.pointer (some ⟨m, 0, none⟩)) ∧ w'.cell? ⟨b, 4, none⟩ = some (.int .i64 z) ∧ w'.cell? ⟨p, 4, none⟩ = some (.int .i64 f4) ∧ w'.cell? ⟨p', 4, none⟩ = some (.int .i64 f4)) (by kernel_rfl) (by as_aux_lemma => kernel_rfl) ?_
       intro hTidy
       have hHeld := (show w5.drew.cell? ⟨b, 0, none⟩ = some (.pointer (some ⟨ts, 0, none⟩)) ∧ w5.drew.cell? ⟨b, 1, none⟩ = some (.pointer (some ⟨t, 0, none⟩)) ∧ w5.drew.cell? ⟨b, 2, none⟩ = some (.pointer (some ⟨mo, 0, none⟩)) ∧ w5.drew.cell? ⟨b, 3, none⟩ = some (.pointer (some ⟨m, 0, none⟩)) ∧ w5.drew.cell? ⟨b, 4, none⟩ = some (.int .i64 z) ∧ w5.drew.cell? ⟨p, 4, none⟩ = some (.int .i64 f4) ∧ w5.drew.cell? ⟨p', 4, none⟩ = some (.int .i64 f4) from ⟨HBe.out.cells.1.1, HBe.out.cells.1.2.1, HBe.out.cells.1.2.2.1, HBe.out.cells.1.2.2.2.1, HBe.out.cells.1.2.2.2.2, HTe.out.cells.2.2.2, HUe.out.cells.2.2.2⟩)
       change AnyBut _ _ _ _ _ _ 14 _ _ _
       refine tkQ 0 rfl hTidy hHeld ?_
       refine tkQ 1 rfl hTidy hHeld ?_
       refine tkQ 2 rfl hTidy hHeld ?_
       refine tkQ 3 rfl hTidy hHeld ?_
       refine tkQ 4 rfl hTidy hHeld ?_
       refine tkQ 5 rfl hTidy hHeld ?_
       try simp only [l1, l2, l3, Act.put, l4, l5, l6]
       refine but_one (i := 6) (by kernel_rfl) rfl ?_
       intro K hK
       go_simp
       go_at_call 33
       refine (H33.out HBe.out).mono ?_
       rintro e w6 ⟨⟨P2, n2, k2, P4, n4, k4, hn2, rfl, hl2, hm2⟩, hbm, hkp⟩
       have HBw6 := Lib.hid hbm
       have HTw6 := Lib.hid (Tb.kb (by decide) HTe.out hkp.kb)
       have HUw6 := Lib.hid (Tb.kb (by decide) HUe.out hkp.kb)
       have HK6 := Lib.hid ((KB.of_below (Below.refl w5.heap.size w5).drew).trans hkp.kb)
       clear hbm hkp
       try dsimp only
       have hHeld2 := (show w6.cell? ⟨b, 0, none⟩ = some (.pointer (some ⟨ts, 0, none⟩)) ∧ w6.cell? ⟨b, 1, none⟩ = some (.pointer (some ⟨t, 0, none⟩)) ∧ w6.cell? ⟨b, 2, none⟩ = some (.pointer (some ⟨mo, 0, none⟩)) ∧ w6.cell? ⟨b, 3, none⟩ = some (.pointer (some ⟨m, 0, none⟩)) ∧ w6.cell? ⟨b, 4, none⟩ = some (.int .i64 z) ∧ w6.cell? ⟨p, 4, none⟩ = some (.int .i64 f4) ∧ w6.cell? ⟨p', 4, none⟩ = some (.int .i64 f4) from ⟨HBw6.out.cells.1.1, HBw6.out.cells.1.2.1, HBw6.out.cells.1.2.2.1, HBw6.out.cells.1.2.2.2.1, HBw6.out.cells.1.2.2.2.2, HTw6.out.cells.2.2.2, HUw6.out.cells.2.2.2⟩)
       refine hK _ _ (fun _ => hHeld2) ?_
       clear hK K hHeld
       have hHeld := hHeld2
       clear hHeld2
       refine tkQ 7 rfl hTidy hHeld ?_
       refine tkQ 8 rfl hTidy hHeld ?_
       refine tkQ 9 rfl hTidy hHeld ?_
       refine tkQ 10 rfl hTidy hHeld ?_
       refine tkQ 11 rfl hTidy hHeld ?_
       refine tkQ 12 rfl hTidy hHeld ?_
       refine tkQ 13 rfl hTidy hHeld ?_
       try simp only [l1, l2, l3, Act.put, l4, l5, l6]
       refine but_done (by kernel_rfl) ?_
       try clear hHeld
       clear hTidy
       have HL := Lib.hid (lapsed_two hl1.out hl2.out HK6.out hn1.out.1 hn2.out.1 HS.out)
       have HM : Hid (∀ z, Calls Tryz.prog 26 #[.slice P3 n3 k3, .slice P4 n4 k4] (w6.drewN z) fun e w' => e = .returned (.bool true) ∧ ∃ m, w' = w6.drewN m) := fun z => starts_two hm1.out hm2.out HK6.out hn1.out.2 hn2.out.2 HS.out z
       clear hl1 hl2 hm1 hm2 HBe HTe HUe HBd HTd HUd HTw5 HUw5 HTw6 HUw6 H32 H33
       go_wp2_with fail
       refine HL.out.mono ?_
       rintro e w7 ⟨rfl, mq, rfl⟩
       go_wp2_with fail
       refine (HM.out _).mono ?_
       rintro e w7 ⟨rfl, mq2, rfl⟩
       go_wp2_with fail
       go_roundw
       case rel => exact ⟨k + 1, o.d, by go_num, HBw6.out.later (below_drewN w6 mq2), HO.out.1, HO.out.2⟩
       case measure => simp [intOf]; omega
end
end Go.Proofs.YtdpapnfjpefhkaaGreat
