/- Wake wakes one. Conditions: each theorem's own premises. -/
import Derived.Test.YthiifnbgdajgaaaDoorTPark
import Derived.Test.YthiifnbgdajgaaaDoorTold
namespace Go.Proofs.YthiifnbgdajgaaaDoor
open Go.RowKit
set_option linter.unusedVariables false
set_option maxRecDepth 100000
section
variable {F : Nat → Prop} {w : World} {t a c o b e k : Nat} {P Q : Option Addr} {D : List Tk} {L : List Int} {x : Tk}
theorem lst_off {w' : World} {i T : Nat} {q : Option Nat} {u : Array Value} (h : TX F w t a P c o b Q e D L) (ch : Chg o b (blk Q) q w w') (hk : Bk w i T u) (n1 : T ≠ 79) (n2 : T ≠ 3) : Bk w' i T u := by
  obtain ⟨f, r, _⟩ := h.rg
  obtain ⟨es, cl, tb⟩ := r.tm.blk
  refine hk.keep (ch.block i hk.lt (tag_ne hk r.ho n1) (map_ne hk tb) fun e => ?_)
  obtain ⟨cs, fr', hp⟩ := row_tag r.own e
  exact tag_ne hk hp n2 rfl
/-- Add, behind all. -/
theorem add_x (h : TX F w t a P c o b Q e D L) (hk : k < 64) (hm : (k : Int) ∉ L) (hl : L.length ≤ 1000) : Calls Tryd.prog 25 #[.pointer (some ⟨o, 0, none⟩), .int .i64 (k : Int)] w fun e1 w' => e1 = .returned (.int .i64 0) ∧ ∃ Q e, TX (okN F w.heap.size) w' t a P c o b Q e D (L ++ [(k : Int)]) ∧ Tn F w w' ∧ ∀ (i T : Nat) (u : Array Value), Bk w i T u → T ≠ 79 → T ≠ 3 → Bk w' i T u := by
  refine (g_add_new h.rg ⟨by omega, wf_nat hk⟩ hm hl (Nat.zero_le _)).mono ?_
  rintro e1 w' ⟨rfl, g, c', r1, r2⟩
  obtain ⟨r3, r4⟩ := h.list (Q' := some ⟨g, 0, none⟩) r2 r1
  exact ⟨rfl, _, _, r3, r4, fun i T u hi n1 n2 => lst_off h r2 hi n1 n2⟩
set_option maxHeartbeats 4000000 in
theorem wake_x (g : Nat → Int) (kase : Nat) (value : Int) (ok : Bool) (h : TX F w t a P c o b Q e D L) (hx : D[k]? = some x) (hs : x.t.st = 1) (hl : L.length ≤ 1000) (hm : (k : Int) ∉ L) (hpc : IntKind.i64.wrap (x.t.pc + 1) = x.t.pc + 1)
    (hT : ∀ A c w1, Pg.RdC w1 A x.t.cs.length x.t.cs → Calls Tryd.prog 32 #[.agg (tW x.t A c), .agg (wR (k : Int) (kase : Int) value ok false)] w1 (ToldR g w1)) :
    Calls Tryd.prog 14 #[.pointer (some ⟨t, 0, none⟩), .agg (wR (k : Int) (kase : Int) value ok false)] w (EndX F t D (L ++ [(k : Int)]) k (yWake x.t g) w) := by
  have hk : k < 64 := Nat.lt_of_lt_of_le (List.getElem?_eq_some_iff.1 hx).1 h.len
  have HA := Lib.hid h
  have HX := Lib.hid hx
  have HS := Lib.hid hs
  have HT := Lib.hid hT
  have HM := Lib.hid hm
  clear h hx hs hT hm
  go_enter Tryd.func14, Tryd.ntmps14
  go_wp2_with fail
  have HB0 := Lib.hid (below_al w (.cells (wR (k : Int) (kase : Int) value ok false) 38))
  refine (in_yes 1 (HA.out.later HB0.out) HX.out HS.out).mono ?_
  rintro e1 w1 ⟨A1, c1, rfl, hc1, hb1⟩
  have HP1 : Hid (Bk w1 w.heap.size 38 (wR (k : Int) (kase : Int) value ok false)) := (Bk.new w _ 38).later hb1
  have HB1 := Lib.hid (HB0.out.trans (hb1.mono HB0.out.size))
  have HNl : Hid (w.heap.size < w1.heap.size) := HP1.out.lt
  have HC1 : Hid (Cz 0 w1 x.t.cs A1 c1) := row_low hc1 (Nat.zero_le _)
  clear hb1 hc1
  go_wp2_with (first
    | (refine wp_stN rfl (.tmp 5) (.tmp 12) rfl rfl rfl rfl i47 (tU_one ..) ?_; have HU2 := Lib.hid (Bk.new w1 (tW x.t A1 c1) 47); have HB2 := Lib.hid (HB1.out.trans ((below_al w1 (.cells (tW x.t A1 c1) 47)).mono HB1.out.size)); have HP2 : Hid (Bk (w1.alloc (.cells (tW x.t A1 c1) 47)) w.heap.size 38 (wR (k : Int) (kase : Int) value ok false)) := HP1.out.later (below_al w1 _); have HC2 : Hid (Cz 0 (w1.alloc (.cells (tW x.t A1 c1) 47)) x.t.cs A1 c1) := row_later HC1.out (below_al w1 _); generalize w1.alloc (.cells (tW x.t A1 c1) 47) = w2 at *; have p0 : w2.cell? ⟨w.heap.size, 0, none⟩ = some (.int .i64 (k : Int)) := HP2.out.cell 0; have p1 : w2.cell? ⟨w.heap.size, 1, none⟩ = some (.int .i64 (kase : Int)) := HP2.out.cell 1; have p2 : w2.cell? ⟨w.heap.size, 2, none⟩ = some (.int .i64 value) := HP2.out.cell 2; have p3 : w2.cell? ⟨w.heap.size, 3, none⟩ = some (.bool ok) := HP2.out.cell 3; have p4 : w2.cell? ⟨w.heap.size, 4, none⟩ = some (.bool false) := HP2.out.cell 4)
    | (refine wp_ldB rfl (.tmp 5) rfl rfl HU2.out Tryd.underlying47 rfl i47 ?_))
  refine (HT.out A1 c1 w2 HC2.out.rd.2).mono ?_
  rintro e2 w3 ⟨rfl, hb3⟩
  have HU3 := Lib.hid (HU2.out.later hb3)
  have HP3 := Lib.hid (HP2.out.later hb3)
  have HB3 := Lib.hid (HB2.out.trans (hb3.mono HB2.out.size))
  have HTH3 : Hid (w3.there w1.heap.size 4 8) := HU3.out.there (by simp [tU_size])
  clear hb3 p0 p1 p2 p3 p4 HC2 HC1 HU2 HP2 HB2 HT
  go_wp2_with (first
    | (refine wpList_store_mid rfl 30 (.tmp 28) (.tmp 27) rfl w1.heap.size 4 (gR g) rfl rfl HTH3.out i30 (gR_one g) ?_; have HU4 : Hid (Bk (w3.setCells w1.heap.size 4 (gR g).toList) w1.heap.size 47 (tW ⟨x.t.prog, x.t.pc, x.t.st, x.t.how, g, x.t.op, x.t.a, x.t.b, x.t.c, x.t.d, x.t.cs⟩ A1 c1)) := put_regs HU3.out g; have HP4 := Lib.hid (HP3.out.sets_other (Nat.ne_of_lt HNl.out) (gR g).toList 4); have HB4 := Lib.hid (below_sets HB3.out (Nat.le_of_lt HNl.out) (gR g).toList 4); generalize w3.setCells w1.heap.size 4 (gR g).toList = w4 at *; have d1 : w4.cell? ⟨w1.heap.size, 1, none⟩ = some (.int .i64 x.t.pc) := HU4.out.cell 1; have d2 : w4.cell? ⟨w1.heap.size, 2, none⟩ = some (.int .i64 x.t.st) := HU4.out.cell 2; have f1 := HU4.out.fz 1; have f2 := HU4.out.fz 2; have HTH : Hid (((w4.setCell ⟨w1.heap.size, 1, none⟩ (.int .i64 (x.t.pc + 1))).setCell ⟨w1.heap.size, 2, none⟩ (.int .i64 0)).there w1.heap.size 12 6) := ((HU4.out.set 1 _).set 2 _).there (by simp [tU_size]))
    | (refine wpl_run rfl (ex_b rfl rfl build_instr) ?_)
    | (refine wpList_store_mid rfl 34 (.tmp 35) (.tmp 33) rfl w1.heap.size 12 (iR zI none 0) rfl rfl HTH.out i34 (iR_one ..) ?_))
  have HU5 : Hid (Bk (((w4.setCell ⟨w1.heap.size, 1, none⟩ (.int .i64 (x.t.pc + 1))).setCell ⟨w1.heap.size, 2, none⟩ (.int .i64 0)).setCells w1.heap.size 12 (iR zI none 0).toList) w1.heap.size 47 (tW (yWake x.t g) none 0)) := put_instr (put_st (put_pc HU4.out (x.t.pc + 1)) 0) zI none 0
  have HP5 : Hid (Bk (((w4.setCell ⟨w1.heap.size, 1, none⟩ (.int .i64 (x.t.pc + 1))).setCell ⟨w1.heap.size, 2, none⟩ (.int .i64 0)).setCells w1.heap.size 12 (iR zI none 0).toList) w.heap.size 38 (wR (k : Int) (kase : Int) value ok false)) := ((HP4.out.set_other (Nat.ne_of_lt HNl.out) _).set_other (Nat.ne_of_lt HNl.out) _).sets_other (Nat.ne_of_lt HNl.out) _ _
  have HB5 : Hid (Below w.heap.size w (((w4.setCell ⟨w1.heap.size, 1, none⟩ (.int .i64 (x.t.pc + 1))).setCell ⟨w1.heap.size, 2, none⟩ (.int .i64 0)).setCells w1.heap.size 12 (iR zI none 0).toList)) := below_sets (below_set (below_set HB4.out (Nat.le_of_lt HNl.out) _) (Nat.le_of_lt HNl.out) _) (Nat.le_of_lt HNl.out) _ _
  have HA5 := Lib.hid (HA.out.later HB5.out)
  generalize ((w4.setCell ⟨w1.heap.size, 1, none⟩ (.int .i64 (x.t.pc + 1))).setCell ⟨w1.heap.size, 2, none⟩ (.int .i64 0)).setCells w1.heap.size 12 (iR zI none 0).toList = w5 at *
  clear HTH HTH3 HU4 HU3 HP4 HP3 HB4 HB3 d1 d2 f1 f2
  have HD5 : Hid (TX F w5.drew t a P c o b Q e D L) := HA5.out.later ((Below.refl _ _).drew)
  have HV5 : Hid (Bk w5.drew w1.heap.size 47 (tW (yWake x.t g) none 0)) := HU5.out.later ((Below.refl _ _).drew)
  have HW5 : Hid (Bk w5.drew w.heap.size 38 (wR (k : Int) (kase : Int) value ok false)) := HP5.out.later ((Below.refl _ _).drew)
  refine but_startQ 1000 (fun w' => w'.cell? ⟨t, 0, none⟩ = some (.pointer (some ⟨a, 0, none⟩)) ∧ w'.cell? ⟨w.heap.size, 0, none⟩ = some (.int .i64 (k : Int)) ∧ w'.rangeAt w1.heap.size 0 (tW (yWake x.t g) none 0).toList) (by kernel_rfl) (by as_aux_lemma => kernel_rfl) ?_
  intro hTidy
  have hHeld := And.intro HD5.out.c0 (And.intro (HW5.out.cell 0) HV5.out.range)
  change AnyBut _ _ _ _ _ _ 8 _ _ _
  refine tkQ 0 rfl hTidy hHeld ?_
  refine tkQ 1 rfl hTidy hHeld ?_
  refine tkQ 2 rfl hTidy hHeld ?_
  refine tkQ 3 rfl hTidy hHeld ?_
  refine tkQ 4 rfl hTidy hHeld ?_
  refine tkQ 5 rfl hTidy hHeld ?_
  refine tkL 6 (ty := 47) (.tmp 5) (tW (yWake x.t g) none 0) rfl hTidy hHeld rfl rfl (fun w h => h.2.2) Tryd.underlying47 rfl i47 ?_
  try simp only [List.getElem_toArray, List.getElem_cons_succ, List.getElem_cons_zero, Act.put, List.setIfInBounds_toArray, List.set_cons_zero, List.set_cons_succ]
  refine but_one (i := 7) (by kernel_rfl) rfl ?_
  intro K hK
  go_simp
  go_at_call 30
  refine (Ar.set_yes x (yWake x.t g) none 0 _ HD5.out.ar rfl k HX.out).mono ?_
  rintro e3 w6 ⟨rfl, r6, ch6⟩
  have HA6 := Lib.hid r6
  have HC6 := Lib.hid ch6
  have HT6 : Hid (Bk w6 t 63 #[.pointer (some ⟨a, 0, none⟩), .pointer (some ⟨o, 0, none⟩)]) := tab_off ch6 HD5.out.ht ⟨_, _, HD5.out.ar.ha⟩ HD5.out.ar.own (by decide) (by decide)
  have HW6 : Hid (Bk w6 w.heap.size 38 (wR (k : Int) (kase : Int) value ok false)) := tab_off ch6 HW5.out ⟨_, _, HD5.out.ar.ha⟩ HD5.out.ar.own (by decide) (by decide)
  have HU6 : Hid (Bk w6 w1.heap.size 47 (tW (yWake x.t g) none 0)) := set_off (w0 := w) ch6 HV5.out HA.out.ar.lt (fun k hk => (row_lt HA.out.ar.own hk).2) HB1.out.size
  clear r6 ch6
  (try dsimp only)
  have hHeld2 := And.intro (HT6.out.cell 0) (And.intro (HW6.out.cell 0) HU6.out.range)
  refine hK _ _ (fun _ => hHeld2) ?_
  clear hK K hHeld
  have hHeld := hHeld2
  clear hHeld2
  try simp only [List.getElem_toArray, List.getElem_cons_succ, List.getElem_cons_zero, Act.put, List.setIfInBounds_toArray, List.set_cons_zero, List.set_cons_succ]
  refine but_done (by kernel_rfl) ?_
  try clear hHeld
  clear hTidy
  have HP6 := Lib.hid (HA.out.put (y := yWake x.t g) (A := none) (c' := 0) (HB5.out.drew) (World.ownsRow_nil _ _ _ _) (Nat.zero_le _) HA6.out HC6.out)
  clear HA6 HC6 HU6 HU5 HP5 HV5 HW5 HD5 HA5
  go_wp2_with fail
  have HQ6 : Hid (TX (okN F w.heap.size) w6.drew t a P c o b Q e (D.set k ⟨yWake x.t g, none, 0⟩) L ∧ Tn F w w6.drew) := And.intro (HP6.out.1.later ((Below.refl _ _).drew)) (HP6.out.2.trans (Tn.of_below ((Below.refl _ _).drew)))
  have HT7 : Hid (Bk w6.drew t 63 #[.pointer (some ⟨a, 0, none⟩), .pointer (some ⟨o, 0, none⟩)]) := HT6.out.later ((Below.refl _ _).drew)
  have HW7 : Hid (Bk w6.drew w.heap.size 38 (wR (k : Int) (kase : Int) value ok false)) := HW6.out.later ((Below.refl _ _).drew)
  refine but_startQ 1000 (fun w' => w'.cell? ⟨t, 1, none⟩ = some (.pointer (some ⟨o, 0, none⟩)) ∧ w'.cell? ⟨w.heap.size, 0, none⟩ = some (.int .i64 (k : Int))) (by kernel_rfl) (by as_aux_lemma => kernel_rfl) ?_
  intro hTidy
  have hHeld := And.intro (HT7.out.cell 1) (HW7.out.cell 0)
  change AnyBut _ _ _ _ _ _ 7 _ _ _
  refine tkQ 0 rfl hTidy hHeld ?_
  refine tkQ 1 rfl hTidy hHeld ?_
  refine tkQ 2 rfl hTidy hHeld ?_
  refine tkQ 3 rfl hTidy hHeld ?_
  refine tkQ 4 rfl hTidy hHeld ?_
  refine tkQ 5 rfl hTidy hHeld ?_
  try simp only [List.getElem_toArray, List.getElem_cons_succ, List.getElem_cons_zero, Act.put, List.setIfInBounds_toArray, List.set_cons_zero, List.set_cons_succ]
  refine but_one (i := 6) (by kernel_rfl) rfl ?_
  intro K hK
  go_simp
  go_at_call 25
  refine (add_x HQ6.out.1 hk HM.out hl).mono ?_
  rintro e7 w7 ⟨rfl, Q7, e7, r7, s7, o7⟩
  have HZ7 := Lib.hid (step_x HQ6.out.2 r7 s7)
  have HT8 := Lib.hid (o7 _ _ _ HT7.out (by decide) (by decide))
  have HW8 := Lib.hid (o7 _ _ _ HW7.out (by decide) (by decide))
  clear r7 s7 o7
  (try dsimp only)
  have hHeld2 := And.intro (HT8.out.cell 1) (HW8.out.cell 0)
  refine hK _ _ (fun _ => hHeld2) ?_
  clear hK K hHeld
  have hHeld := hHeld2
  clear hHeld2
  try simp only [List.getElem_toArray, List.getElem_cons_succ, List.getElem_cons_zero, Act.put, List.setIfInBounds_toArray, List.set_cons_zero, List.set_cons_succ]
  refine but_done (by kernel_rfl) ?_
  try clear hHeld
  clear hTidy
  go_wp2_with fail
  go_ret
  exact ⟨rfl, a, P, c, o, b, Q7, e7, none, 0, HZ7.out⟩
set_option maxHeartbeats 1000000 in
theorem wake_panic (kase : Nat) (value : Int) (ok : Bool) (h : TX F w t a P c o b Q e D L) (hx : D[k]? = some x) (hs : x.t.st = 1) (hl : L.length ≤ 1000) :
    Calls Tryd.prog 14 #[.pointer (some ⟨t, 0, none⟩), .agg (wR (k : Int) (kase : Int) value ok true)] w (EndX F t D (wo L k) k (yEnd x.t 1) w) := by
  have HA := Lib.hid h
  have HX := Lib.hid hx
  have HS := Lib.hid hs
  clear h hx hs
  go_enter Tryd.func14, Tryd.ntmps14
  go_wp2_with fail
  have HB0 := Lib.hid (below_al w (.cells (wR (k : Int) (kase : Int) value ok true) 38))
  refine (in_yes 1 (HA.out.later HB0.out) HX.out HS.out).mono ?_
  rintro e1 w1 ⟨A1, c1, rfl, hc1, hb1⟩
  have HP1 : Hid (Bk w1 w.heap.size 38 (wR (k : Int) (kase : Int) value ok true)) := (Bk.new w _ 38).later hb1
  have HB1 := Lib.hid (HB0.out.trans (hb1.mono HB0.out.size))
  clear hb1 hc1
  go_wp2_with (first
    | (refine wp_stN rfl (.tmp 5) (.tmp 12) rfl rfl rfl rfl i47 (tU_one ..) ?_; have HB2 := Lib.hid (HB1.out.trans ((below_al w1 (.cells (tW x.t A1 c1) 47)).mono HB1.out.size)); have HP2 : Hid (Bk (w1.alloc (.cells (tW x.t A1 c1) 47)) w.heap.size 38 (wR (k : Int) (kase : Int) value ok true)) := HP1.out.later (below_al w1 _); generalize w1.alloc (.cells (tW x.t A1 c1) 47) = w2 at *; have p0 : w2.cell? ⟨w.heap.size, 0, none⟩ = some (.int .i64 (k : Int)) := HP2.out.cell 0; have p4 : w2.cell? ⟨w.heap.size, 4, none⟩ = some (.bool true) := HP2.out.cell 4))
  refine (end_x 1 (HA.out.later HB2.out) HX.out (by rw [HS.out]; decide) hl).mono ?_
  rintro e2 w3 ⟨rfl, a', P', c', o', b', Q', e', A', d', r1, r2⟩
  have HZ := Lib.hid (And.intro (r1.mono (G := okN F w.heap.size) fun i _ hi => hi.imp id (Nat.le_trans HB2.out.size)) ((Tn.of_below HB2.out).trans r2))
  clear r1 r2
  go_wp2_with fail
  go_ret
  exact ⟨rfl, a', P', c', o', b', Q', e', A', d', HZ.out⟩
theorem wake_no (kase value : Int) (ok pn : Bool) (h : TX F w t a P c o b Q e D L) (hx : D[k]? = some x) (hs : x.t.st ≠ 1) : Calls Tryd.prog 14 #[.pointer (some ⟨t, 0, none⟩), .agg (wR (k : Int) kase value ok pn)] w fun e w' => e = .returned (.int .i64 8) ∧ Below w.heap.size w w' := by
  have HA := Lib.hid h
  have HX := Lib.hid hx
  have HS := Lib.hid hs
  clear h hx hs
  go_enter Tryd.func14, Tryd.ntmps14
  go_wp2_with fail
  have HB0 := Lib.hid (below_al w (.cells (wR (k : Int) kase value ok pn) 38))
  refine (in_no 1 (HA.out.later HB0.out) HX.out HS.out).mono ?_
  rintro e1 w1 ⟨rfl, hb1⟩
  have HB1 := Lib.hid (HB0.out.trans (hb1.mono HB0.out.size))
  have HB2 := Lib.hid (HB1.out.trans ((below_al w1 (.cells Ar.zR 47)).mono HB1.out.size))
  clear hb1
  go_wp2_with (refine wp_stN rfl (.tmp 5) (.tmp 12) rfl rfl rfl rfl i47 (tU_one 0 0 0 0 0 0 0 0 0 0 0 0 0 0 0 0 none 0 0 false) ?_)
  go_ret
  exact ⟨rfl, HB2.out⟩
end
end Go.Proofs.YthiifnbgdajgaaaDoor
