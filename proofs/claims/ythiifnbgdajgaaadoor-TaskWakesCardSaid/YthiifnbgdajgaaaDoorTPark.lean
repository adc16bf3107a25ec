/- Park parks one. Conditions: each theorem's own premises. -/
import Derived.Test.YthiifnbgdajgaaaDoorTEnd
namespace Go.Proofs.YthiifnbgdajgaaaDoor
open Go.RowKit
set_option linter.unusedVariables false
set_option maxRecDepth 100000

theorem waits_yes (op : Int) (w : World) (h : op = 10 ∨ op = 11 ∨ op = 15) : Calls Tryd.prog 27 #[.int .i64 op] w fun e w' => e = .returned (.bool true) ∧ w = w' := by
  rcases h with rfl | rfl | rfl
  · go_enter Tryd.func27, Tryd.ntmps27
    go_wp2
    go_ret
    exact ⟨rfl, rfl⟩
  · go_enter Tryd.func27, Tryd.ntmps27
    go_wp2
    go_ret
    exact ⟨rfl, rfl⟩
  · go_enter Tryd.func27, Tryd.ntmps27
    go_wp2
    go_ret
    exact ⟨rfl, rfl⟩
theorem waits_no (w : World) : Calls Tryd.prog 27 #[.int .i64 6] w fun e w' => e = .returned (.bool false) ∧ w = w' := by
  go_enter Tryd.func27, Tryd.ntmps27
  go_wp2
  go_ret
  exact ⟨rfl, rfl⟩
section
variable {F : Nat → Prop} {w : World} {t a c o b e k : Nat} {P Q : Option Addr} {D : List Tk} {L : List Int} {x : Tk}
/-- An instruction, as package prog's texts have it. -/
abbrev tI (s : T0) (A : Option Addr) (cap : Nat) : Pg.In := ⟨s.op, s.a, s.b, s.c, A, s.cs.length, cap, s.d, s.cs⟩
theorem rdi_one {w : World} {s : T0} {A : Option Addr} {cap : Nat} (hn : s.cs.length ≤ cap) (hc : cap ≤ 9223372036854775807) (h : Pg.RdC w A s.cs.length s.cs) :
    Pg.RdI (w.alloc (.cells #[.int .i64 s.op, .int .i64 s.a, .int .i64 s.b, .int .i64 s.c, .slice A s.cs.length cap, .bool s.d] 34)) (some ⟨w.heap.size, 0, none⟩) 1 [tI s A cap] :=
  Pg.RdI.new w [tI s A cap] 1 _ 34 rfl rfl fun e he => by
    simp only [List.mem_singleton] at he
    subst he
    exact ⟨hn, hc, h⟩
set_option maxHeartbeats 4000000 in
theorem park_x (s : T0) (As : Option Addr) (cap : Nat) (h : TX F w t a P c o b Q e D L) (hx : D[k]? = some x) (hs : x.t.st = 0) (hl : L.length ≤ 1000) (hF : Pg.FT w) (hop : s.op = 10 ∨ s.op = 11 ∨ s.op = 15)
    (hck : Pg.checkB [tI s As cap] 16 = true) (hA : As = none ∨ ∃ b off, As = some ⟨b, off, none⟩) (hR : Pg.RdC w As s.cs.length s.cs) (hcs : s.cs.length ≤ 1000) (hn : s.cs.length ≤ cap) (hc : cap ≤ 9223372036854775807) :
    Calls Tryd.prog 12 #[.pointer (some ⟨t, 0, none⟩), .int .i64 (k : Int), .agg (iR s As cap)] w (EndX F t D (wo L k) k (yPark x.t s) w) := by
  have hk : k < 64 := Nat.lt_of_lt_of_le (List.getElem?_eq_some_iff.1 hx).1 h.len
  have HA := Lib.hid h
  have HX := Lib.hid hx
  have HS := Lib.hid hs
  have HF := Lib.hid hF
  have HOP := Lib.hid hop
  have HCK := Lib.hid hck
  have HAs := Lib.hid hA
  have HR := Lib.hid hR
  have HN := Lib.hid (And.intro hn hc)
  clear h hx hs hF hop hck hA hR hn hc
  go_enter Tryd.func12, Tryd.ntmps12
  go_wp2_with fail
  have HB0 := Lib.hid (below_al w (.cells (iR s As cap) 34))
  refine (in_yes 0 (HA.out.later HB0.out) HX.out HS.out).mono ?_
  rintro e1 w1 ⟨A1, c1, rfl, hc1, hb1⟩
  have HP1 : Hid (Bk w1 w.heap.size 34 (iR s As cap)) := (Bk.new w (iR s As cap) 34).later hb1
  have HB1 := Lib.hid (HB0.out.trans (hb1.mono HB0.out.size))
  have HNl : Hid (w.heap.size < w1.heap.size) := HP1.out.lt
  clear hb1 hc1
  go_wp2_with (refine wp_stN rfl (.tmp 7) (.tmp 13) rfl rfl rfl rfl i47 (tU_one ..) ?_; have HU2 := Lib.hid (Bk.new w1 (tW x.t A1 c1) 47); have HB2 := Lib.hid (HB1.out.trans ((below_al w1 (.cells (tW x.t A1 c1) 47)).mono HB1.out.size)); have HP2 : Hid (Bk (w1.alloc (.cells (tW x.t A1 c1) 47)) w.heap.size 34 (iR s As cap)) := HP1.out.later (below_al w1 _); generalize w1.alloc (.cells (tW x.t A1 c1) 47) = w2 at *; have i0 : w2.cell? ⟨w.heap.size, 0, none⟩ = some (.int .i64 s.op) := HP2.out.cell 0; have i1 : w2.cell? ⟨w.heap.size, 1, none⟩ = some (.int .i64 s.a) := HP2.out.cell 1; have i2 : w2.cell? ⟨w.heap.size, 2, none⟩ = some (.int .i64 s.b) := HP2.out.cell 2; have i3 : w2.cell? ⟨w.heap.size, 3, none⟩ = some (.int .i64 s.c) := HP2.out.cell 3; have i4 : w2.cell? ⟨w.heap.size, 4, none⟩ = some (.slice As s.cs.length cap) := HP2.out.cell 4; have i5 : w2.cell? ⟨w.heap.size, 5, none⟩ = some (.bool s.d) := HP2.out.cell 5)
  refine (waits_yes s.op w2 HOP.out).mono ?_
  rintro e' w' ⟨rfl, rfl⟩
  go_wp2_with fail
  refine (Pg.Check_yes (hF := (HF.out.later HB2.out).later (below_al w2 _)) (hR := rdi_one HN.out.1 HN.out.2 (HR.out.later HB2.out)) HCK.out).mono ?_
  rintro e2 w3 ⟨rfl, hb3⟩
  have HB3 := Lib.hid ((below_al w2 (.cells #[.int .i64 s.op, .int .i64 s.a, .int .i64 s.b, .int .i64 s.c, .slice As s.cs.length cap, .bool s.d] 34)).trans (hb3.mono (below_al w2 (.cells #[.int .i64 s.op, .int .i64 s.a, .int .i64 s.b, .int .i64 s.c, .slice As s.cs.length cap, .bool s.d] 34)).size))
  have HP3 := Lib.hid (HP2.out.later HB3.out)
  have HU3 := Lib.hid (HU2.out.later HB3.out)
  have HB3' := Lib.hid (HB2.out.trans (HB3.out.mono HB2.out.size))
  have j4 : w3.cell? ⟨w.heap.size, 4, none⟩ = some (.slice As s.cs.length cap) := HP3.out.cell 4
  clear hb3 i0 i1 i2 i3 i4 i5
  go_wp2_with fail
  refine (clone_cs w3 HAs.out (HR.out.later HB3'.out) hcs).mono ?_
  rintro e3 w4 ⟨A2, c2, rfl, hc4, hb4⟩
  have HP4 := Lib.hid (HP3.out.later hb4)
  have HU4 := Lib.hid (HU3.out.later hb4)
  have HB4 := Lib.hid (HB3'.out.trans (hb4.mono HB3'.out.size))
  have HC4 : Hid (Cz w.heap.size w4 s.cs A2 c2) := row_low hc4 HB3'.out.size
  have j5 : w4.cell? ⟨w.heap.size, 4, none⟩ = some (.slice As s.cs.length cap) := HP4.out.cell 4
  have f5 := HP4.out.fz 4
  have HCl : Hid (∀ j, blk A2 = some j → j ≠ w.heap.size ∧ j ≠ w1.heap.size) := fun j hj => by
    have := (row_lt hc4 hj).1
    have := HP3.out.lt
    have := HU3.out.lt
    omega
  clear hc4 hb4 j4
  go_wp2_with fail
  have HP5 : Hid (Bk (w4.setCell ⟨w.heap.size, 4, none⟩ (.slice A2 s.cs.length c2)) w.heap.size 34 (iR s A2 c2)) := HP4.out.set 4 _
  have HU5 := Lib.hid (HU4.out.set_other (i := 4) (Nat.ne_of_gt HNl.out) (.slice A2 s.cs.length c2))
  have HB5 := Lib.hid (below_set (i := 4) HB4.out (Nat.le_refl _) (.slice A2 s.cs.length c2))
  have HC5 : Hid (Cz w.heap.size (w4.setCell ⟨w.heap.size, 4, none⟩ (.slice A2 s.cs.length c2)) s.cs A2 c2) := row_keep HC4.out fun j hj => Below.heap_setCell _ _ _ _ (HCl.out j hj).1
  generalize w4.setCell ⟨w.heap.size, 4, none⟩ (.slice A2 s.cs.length c2) = w5 at *
  have d2 : w5.cell? ⟨w1.heap.size, 2, none⟩ = some (.int .i64 x.t.st) := HU5.out.cell 2
  have f2 := HU5.out.fz 2
  have HP6 : Hid (Bk (w5.setCell ⟨w1.heap.size, 2, none⟩ (.int .i64 1)).drew w.heap.size 34 (iR s A2 c2)) := (HP5.out.set_other (Nat.ne_of_lt HNl.out) _).later ((Below.refl _ _).drew)
  have HTH : Hid ((w5.setCell ⟨w1.heap.size, 2, none⟩ (.int .i64 1)).drew.there w1.heap.size 12 6) := ((HU5.out.set 2 (.int .i64 1)).later ((Below.refl _ _).drew)).there (by simp [tU_size])
  refine but_startQ 4 (fun w' => w'.rangeAt w.heap.size 0 (iR s A2 c2).toList) (by kernel_rfl) (by as_aux_lemma => kernel_rfl) ?_
  intro hTidy
  have hHeld := (HP5.out.later ((Below.refl _ _).drew)).range
  change AnyBut _ _ _ _ _ _ 5 _ _ _
  refine tkL 0 (ty := 34) (.tmp 5) (iR s A2 c2) rfl hTidy hHeld rfl rfl (fun w h => h) Tryd.underlying34 rfl i34 ?_
  refine tkQ 1 rfl hTidy hHeld ?_
  try simp only [List.getElem_toArray, List.getElem_cons_succ, List.getElem_cons_zero, Act.put, List.setIfInBounds_toArray, List.set_cons_zero, List.set_cons_succ]
  refine but_one (i := 2) (by kernel_rfl) rfl ?_
  intro K hK
  go_simp
  have hHeld2 := HP6.out.range
  refine hK _ _ (fun _ => hHeld2) ?_
  clear hK K hHeld
  have hHeld := hHeld2
  clear hHeld2
  try simp only [List.getElem_toArray, List.getElem_cons_succ, List.getElem_cons_zero, Act.put]
  refine tkQ 3 rfl hTidy hHeld ?_
  try simp only [List.getElem_toArray, List.getElem_cons_succ, List.getElem_cons_zero, Act.put, List.setIfInBounds_toArray, List.set_cons_zero, List.set_cons_succ]
  refine but_one (i := 4) (by kernel_rfl) rfl ?_
  intro K hK
  rw [if_pos (by first | kernel_rfl | rfl)]
  refine wp_store_mid 34 (.tmp 36) (.tmp 34) rfl w1.heap.size 12 (iR s A2 c2) rfl rfl HTH.out i34 (iR_one ..) ?_
  refine hK _ _ (fun h => absurd rfl h) ?_
  clear hK K hHeld
  try simp only [List.getElem_toArray, List.getElem_cons_succ, List.getElem_cons_zero, Act.put]
  refine but_done (by kernel_rfl) ?_
  try clear hHeld
  clear hTidy
  have HU3 : Hid (Bk ((w5.setCell ⟨w1.heap.size, 2, none⟩ (.int .i64 1)).drew.setCells w1.heap.size 12 (iR s A2 c2).toList) w1.heap.size 47 (tW (yPark x.t s) A2 c2)) := put_instr ((put_st HU5.out 1).later ((Below.refl _ _).drew)) s A2 c2
  have HB3 : Hid (Below w.heap.size w ((w5.setCell ⟨w1.heap.size, 2, none⟩ (.int .i64 1)).drew.setCells w1.heap.size 12 (iR s A2 c2).toList)) := below_sets ((below_set HB5.out (Nat.le_of_lt HNl.out) _).drew) (Nat.le_of_lt HNl.out) _ _
  have HC3 : Hid (Cz w.heap.size ((w5.setCell ⟨w1.heap.size, 2, none⟩ (.int .i64 1)).drew.setCells w1.heap.size 12 (iR s A2 c2).toList) s.cs A2 c2) := row_keep HC5.out fun j hj => ((set_os (iR s A2 c2).toList 12 _).2.2.2.2 j (HCl.out j hj).2).trans (Below.heap_setCell _ _ _ _ (HCl.out j hj).2)
  have HA3 := Lib.hid (HA.out.later HB3.out)
  generalize (w5.setCell ⟨w1.heap.size, 2, none⟩ (.int .i64 1)).drew.setCells w1.heap.size 12 (iR s A2 c2).toList = w6 at *
  clear HTH HU2 d2 f2 j5 f5 HP6 HP5 HU5 HB5 HC5 HP4 HU4 HB4 HC4
  go_wp2_with fail
  have HD3 : Hid (TX F w6.drew t a P c o b Q e D L) := HA3.out.later ((Below.refl _ _).drew)
  have HV3 : Hid (Bk w6.drew w1.heap.size 47 (tW (yPark x.t s) A2 c2)) := HU3.out.later ((Below.refl _ _).drew)
  refine but_startQ 1000 (fun w' => w'.cell? ⟨t, 0, none⟩ = some (.pointer (some ⟨a, 0, none⟩)) ∧ w'.rangeAt w1.heap.size 0 (tW (yPark x.t s) A2 c2).toList) (by kernel_rfl) (by as_aux_lemma => kernel_rfl) ?_
  intro hTidy
  have hHeld := And.intro HD3.out.c0 HV3.out.range
  change AnyBut _ _ _ _ _ _ 7 _ _ _
  refine tkQ 0 rfl hTidy hHeld ?_
  refine tkQ 1 rfl hTidy hHeld ?_
  refine tkQ 2 rfl hTidy hHeld ?_
  refine tkQ 3 rfl hTidy hHeld ?_
  refine tkQ 4 rfl hTidy hHeld ?_
  refine tkL 5 (ty := 47) (.tmp 7) (tW (yPark x.t s) A2 c2) rfl hTidy hHeld rfl rfl (fun w h => h.2) Tryd.underlying47 rfl i47 ?_
  try simp only [List.getElem_toArray, List.getElem_cons_succ, List.getElem_cons_zero, Act.put, List.setIfInBounds_toArray, List.set_cons_zero, List.set_cons_succ]
  refine but_one (i := 6) (by kernel_rfl) rfl ?_
  intro K hK
  go_simp
  go_at_call 30
  refine (Ar.set_yes x (yPark x.t s) A2 c2 _ HD3.out.ar rfl k HX.out).mono ?_
  rintro e3 w9 ⟨rfl, r9, ch9⟩
  have HA9 := Lib.hid r9
  have HC9 := Lib.hid ch9
  have HT9 : Hid (Bk w9 t 63 #[.pointer (some ⟨a, 0, none⟩), .pointer (some ⟨o, 0, none⟩)]) := tab_off ch9 HD3.out.ht ⟨_, _, HD3.out.ar.ha⟩ HD3.out.ar.own (by decide) (by decide)
  have HU9 : Hid (Bk w9 w1.heap.size 47 (tW (yPark x.t s) A2 c2)) := set_off (w0 := w) ch9 HV3.out HA.out.ar.lt (fun k hk => (row_lt HA.out.ar.own hk).2) HB1.out.size
  clear r9 ch9
  (try dsimp only)
  have hHeld2 := And.intro (HT9.out.cell 0) HU9.out.range
  refine hK _ _ (fun _ => hHeld2) ?_
  clear hK K hHeld
  have hHeld := hHeld2
  clear hHeld2
  try simp only [List.getElem_toArray, List.getElem_cons_succ, List.getElem_cons_zero, Act.put, List.setIfInBounds_toArray, List.set_cons_zero, List.set_cons_succ]
  refine but_done (by kernel_rfl) ?_
  try clear hHeld
  clear hTidy
  have HP9 := Lib.hid (HA.out.put (y := yPark x.t s) (A := A2) (c' := c2) (HB3.out.drew) (row_keep HC3.out fun _ _ => rfl) hcs HA9.out HC9.out)
  have t1 : w9.cell? ⟨t, 1, none⟩ = some (.pointer (some ⟨o, 0, none⟩)) := HT9.out.cell 1
  go_wp2_with fail
  refine (remove_x HP9.out.1 hk hl).mono ?_
  rintro e5 w5 ⟨z, rfl, Q5, e5, r5, s5⟩
  have HZ5 := Lib.hid (step_x HP9.out.2 r5 s5)
  clear r5 s5
  go_wp2_with fail
  go_ret
  exact ⟨rfl, a, P, c, o, b, Q5, e5, A2, c2, HZ5.out⟩
theorem park_no (s : Array Value) (h : TX F w t a P c o b Q e D L) (hx : D[k]? = some x) (hs : x.t.st ≠ 0) : Calls Tryd.prog 12 #[.pointer (some ⟨t, 0, none⟩), .int .i64 (k : Int), .agg s] w fun e w' => e = .returned (.int .i64 8) ∧ Below w.heap.size w w' := by
  have HA := Lib.hid h
  have HX := Lib.hid hx
  have HS := Lib.hid hs
  clear h hx hs
  go_enter Tryd.func12, Tryd.ntmps12
  go_wp2_with fail
  have HB0 := Lib.hid (below_al w (.cells s 34))
  refine (in_no 0 (HA.out.later HB0.out) HX.out HS.out).mono ?_
  rintro e1 w1 ⟨rfl, hb1⟩
  have HB1 := Lib.hid (HB0.out.trans (hb1.mono HB0.out.size))
  have HB2 := Lib.hid (HB1.out.trans ((below_al w1 (.cells Ar.zR 47)).mono HB1.out.size))
  clear hb1
  go_wp2_with (refine wp_stN rfl (.tmp 7) (.tmp 13) rfl rfl rfl rfl i47 (tU_one 0 0 0 0 0 0 0 0 0 0 0 0 0 0 0 0 none 0 0 false) ?_)
  go_ret
  exact ⟨rfl, HB2.out⟩
theorem park_arg (s : T0) (As : Option Addr) (cap : Nat) (h : TX F w t a P c o b Q e D L) (hx : D[k]? = some x) (hs : x.t.st = 0) (hop : s.op = 6) : Calls Tryd.prog 12 #[.pointer (some ⟨t, 0, none⟩), .int .i64 (k : Int), .agg (iR s As cap)] w fun e w' => e = .returned (.int .i64 1) ∧ Below w.heap.size w w' := by
  have HA := Lib.hid h
  have HX := Lib.hid hx
  have HS := Lib.hid hs
  have HOP := Lib.hid hop
  clear h hx hs hop
  go_enter Tryd.func12, Tryd.ntmps12
  go_wp2_with fail
  have HB0 := Lib.hid (below_al w (.cells (iR s As cap) 34))
  refine (in_yes 0 (HA.out.later HB0.out) HX.out HS.out).mono ?_
  rintro e1 w1 ⟨A1, c1, rfl, hc1, hb1⟩
  have HB1 := Lib.hid (HB0.out.trans (hb1.mono HB0.out.size))
  have HB2 := Lib.hid (HB1.out.trans ((below_al w1 (.cells (tW x.t A1 c1) 47)).mono HB1.out.size))
  have HP1 : Hid (Bk w1 w.heap.size 34 (iR s As cap)) := (Bk.new w (iR s As cap) 34).later hb1
  have i0 : w1.cell? ⟨w.heap.size, 0, none⟩ = some (.int .i64 6) := by rw [← HOP.out]; exact HP1.out.cell 0
  have hne : w.heap.size < w1.heap.size := HP1.out.lt
  clear hb1 hc1
  go_wp2_with (refine wp_stN rfl (.tmp 7) (.tmp 13) rfl rfl rfl rfl i47 (tU_one ..) ?_)
  refine (waits_no _).mono ?_
  rintro e' w' ⟨rfl, rfl⟩
  go_wp2_with fail
  go_ret
  exact ⟨rfl, HB2.out⟩
theorem put_no (pc : Int) (g : Array Value) (h : TX F w t a P c o b Q e D L) (hx : D[k]? = some x) (hs : x.t.st ≠ 0) : Calls Tryd.prog 18 #[.pointer (some ⟨t, 0, none⟩), .int .i64 (k : Int), .int .i64 pc, .agg g] w fun e w' => e = .returned (.int .i64 8) ∧ Below w.heap.size w w' := by
  have HA := Lib.hid h
  have HX := Lib.hid hx
  have HS := Lib.hid hs
  clear h hx hs
  go_enter Tryd.func18, Tryd.ntmps18
  go_wp2_with fail
  have HB0 := Lib.hid (below_al w (.cells g 30))
  refine (in_no 0 (HA.out.later HB0.out) HX.out HS.out).mono ?_
  rintro e1 w1 ⟨rfl, hb1⟩
  have HB1 := Lib.hid (HB0.out.trans (hb1.mono HB0.out.size))
  have HB2 := Lib.hid (HB1.out.trans ((below_al w1 (.cells Ar.zR 47)).mono HB1.out.size))
  clear hb1
  go_wp2_with (refine wp_stN rfl (.tmp 9) (.tmp 15) rfl rfl rfl rfl i47 (tU_one 0 0 0 0 0 0 0 0 0 0 0 0 0 0 0 0 none 0 0 false) ?_)
  go_ret
  exact ⟨rfl, HB2.out⟩
end
end Go.Proofs.YthiifnbgdajgaaaDoor
