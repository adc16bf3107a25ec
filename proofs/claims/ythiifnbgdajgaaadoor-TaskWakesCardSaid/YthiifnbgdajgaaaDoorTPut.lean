/- Put writes where a task is. Conditions: each theorem's own premises. -/
import Derived.Test.YthiifnbgdajgaaaDoorReg
namespace Go.Proofs.YthiifnbgdajgaaaDoor
open Go.RowKit
set_option linter.unusedVariables false
set_option maxRecDepth 100000
section
variable {F : Nat → Prop} {w : World} {t a c o b e k : Nat} {P Q : Option Addr} {D : List Tk} {L : List Int} {x : Tk}
/-- A call has made the table another. -/
def ChgR (F : Nat → Prop) (t : Nat) (S : List T0) (L : List Int) (w : World) (e : Ending) (w' : World) : Prop := e = .returned (.int .i64 0) ∧ Go F t S L w w'
def PutX (F : Nat → Prop) (t : Nat) (D : List Tk) (L : List Int) (k : Nat) (y : T0) (w : World) (e : Ending) (w' : World) : Prop :=
  e = .returned (.int .i64 0) ∧ ∃ a P c o b Q e A c', TX (okN F w.heap.size) w' t a P c o b Q e (D.set k ⟨y, A, c'⟩) L ∧ Tn F w w'
set_option maxHeartbeats 2000000 in
theorem put_x (pc : Int) (g : Nat → Int) (h : TX F w t a P c o b Q e D L) (hx : D[k]? = some x) (hs : x.t.st = 0) : Calls Tryd.prog 18 #[.pointer (some ⟨t, 0, none⟩), .int .i64 (k : Int), .int .i64 pc, .agg (gR g)] w (PutX F t D L k (yPut x.t pc g) w) := by
  have HA := Lib.hid h
  have HX := Lib.hid hx
  have HL := Lib.hid (h.cs x (List.mem_of_getElem? hx)).2.1
  have HS := Lib.hid hs
  clear h hx hs
  go_enter Tryd.func18, Tryd.ntmps18
  go_wp2_with fail
  have HB0 := Lib.hid (below_al w (.cells (gR g) 30))
  refine (in_yes 0 (HA.out.later HB0.out) HX.out HS.out).mono ?_
  rintro e1 w1 ⟨A1, c1, rfl, hc1, hb1⟩
  have HP1 : Hid (Bk w1 w.heap.size 30 (gR g)) := (Bk.new w (gR g) 30).later hb1
  have HB1 := Lib.hid (HB0.out.trans (hb1.mono HB0.out.size))
  have HC1 : Hid (Cz w.heap.size w1 x.t.cs A1 c1) := row_low hc1 HB0.out.size
  clear hb1 hc1
  go_wp2_with (refine wp_stN rfl (.tmp 9) (.tmp 15) rfl rfl rfl rfl i47 (tU_one ..) ?_)
  have HU2 := Lib.hid (Bk.new w1 (tW x.t A1 c1) 47)
  have HP2 : Hid (Bk (w1.alloc (.cells (tW x.t A1 c1) 47)) w.heap.size 30 (gR g)) := HP1.out.later (below_al w1 _)
  have HB2 := Lib.hid (HB1.out.trans ((below_al w1 (.cells (tW x.t A1 c1) 47)).mono HB1.out.size))
  have HCl : Hid (∀ j, blk A1 = some j → j < w1.heap.size) := fun j hj => (row_lt HC1.out hj).2
  have HC2 : Hid (Cz w.heap.size (w1.alloc (.cells (tW x.t A1 c1) 47)) x.t.cs A1 c1) := row_later HC1.out (below_al w1 _)
  have HN : Hid (w.heap.size < w1.heap.size) := HP1.out.lt
  generalize w1.alloc (.cells (tW x.t A1 c1) 47) = w2 at *
  have hc1 : w2.cell? ⟨w1.heap.size, 1, none⟩ = some (.int .i64 x.t.pc) := HU2.out.cell 1
  have hf1 := HU2.out.fz 1
  have HP3 : Hid (Bk (w2.setCell ⟨w1.heap.size, 1, none⟩ (.int .i64 pc)).drew w.heap.size 30 (gR g)) := (HP2.out.set_other (Nat.ne_of_lt HN.out) _).later ((Below.refl _ _).drew)
  have HTH : Hid ((w2.setCell ⟨w1.heap.size, 1, none⟩ (.int .i64 pc)).drew.there w1.heap.size 4 8) := ((HU2.out.set 1 (.int .i64 pc)).later ((Below.refl _ _).drew)).there (by simp [tU_size])
  refine but_startQ 5 (fun w' => w'.rangeAt w.heap.size 0 (gR g).toList) (by kernel_rfl) (by as_aux_lemma => kernel_rfl) ?_
  intro hTidy
  have hHeld := (HP2.out.later ((Below.refl _ _).drew)).range
  change AnyBut _ _ _ _ _ _ 6 _ _ _
  refine tkQ 0 rfl hTidy hHeld ?_
  refine tkL 1 (ty := 30) (.tmp 7) (gR g) rfl hTidy hHeld rfl rfl (fun w h => h) Tryd.underlying30 rfl i30 ?_
  refine tkQ 2 rfl hTidy hHeld ?_
  try simp only [List.getElem_toArray, List.getElem_cons_succ, List.getElem_cons_zero, Act.put, List.setIfInBounds_toArray, List.set_cons_zero, List.set_cons_succ]
  refine but_one (i := 3) (by kernel_rfl) rfl ?_
  intro K hK
  go_simp
  have hHeld2 := HP3.out.range
  refine hK _ _ (fun _ => hHeld2) ?_
  clear hK K hHeld
  have hHeld := hHeld2
  clear hHeld2
  try simp only [List.getElem_toArray, List.getElem_cons_succ, List.getElem_cons_zero, Act.put]
  refine tkQ 4 rfl hTidy hHeld ?_
  try simp only [List.getElem_toArray, List.getElem_cons_succ, List.getElem_cons_zero, Act.put, List.setIfInBounds_toArray, List.set_cons_zero, List.set_cons_succ]
  refine but_one (i := 5) (by kernel_rfl) rfl ?_
  intro K hK
  rw [if_pos (by first | kernel_rfl | rfl)]
  refine wp_store_mid 30 (.tmp 23) (.tmp 21) rfl w1.heap.size 4 (gR g) rfl rfl HTH.out i30 (gR_one g) ?_
  refine hK _ _ (fun h => absurd rfl h) ?_
  clear hK K hHeld
  try simp only [List.getElem_toArray, List.getElem_cons_succ, List.getElem_cons_zero, Act.put]
  refine but_done (by kernel_rfl) ?_
  try clear hHeld
  clear hTidy
  have HU3 : Hid (Bk ((w2.setCell ⟨w1.heap.size, 1, none⟩ (.int .i64 pc)).drew.setCells w1.heap.size 4 (gR g).toList) w1.heap.size 47 (tW (yPut x.t pc g) A1 c1)) := put_regs ((put_pc HU2.out pc).later ((Below.refl _ _).drew)) g
  have HB3 : Hid (Below w.heap.size w ((w2.setCell ⟨w1.heap.size, 1, none⟩ (.int .i64 pc)).drew.setCells w1.heap.size 4 (gR g).toList)) := below_sets ((below_set HB2.out (Nat.le_of_lt HN.out) _).drew) (Nat.le_of_lt HN.out) _ _
  have HC3 : Hid (Cz w.heap.size ((w2.setCell ⟨w1.heap.size, 1, none⟩ (.int .i64 pc)).drew.setCells w1.heap.size 4 (gR g).toList) x.t.cs A1 c1) := row_keep HC2.out fun j hj => ((set_os (gR g).toList 4 _).2.2.2.2 j (Nat.ne_of_lt (HCl.out j hj))).trans (Below.heap_setCell _ _ _ _ (Nat.ne_of_lt (HCl.out j hj)))
  have HA3 := Lib.hid (HA.out.later HB3.out)
  generalize (w2.setCell ⟨w1.heap.size, 1, none⟩ (.int .i64 pc)).drew.setCells w1.heap.size 4 (gR g).toList = w3 at *
  clear HTH hc1 hf1 HU2 HP2 HP3 HB2 HC2 HP1 HC1
  go_wp2_with fail
  have HD3 : Hid (TX F w3.drew t a P c o b Q e D L) := HA3.out.later ((Below.refl _ _).drew)
  have HV3 : Hid (Bk w3.drew w1.heap.size 47 (tW (yPut x.t pc g) A1 c1)) := HU3.out.later ((Below.refl _ _).drew)
  refine but_startQ 1000 (fun w' => w'.cell? ⟨t, 0, none⟩ = some (.pointer (some ⟨a, 0, none⟩)) ∧ w'.rangeAt w1.heap.size 0 (tW (yPut x.t pc g) A1 c1).toList) (by kernel_rfl) (by as_aux_lemma => kernel_rfl) ?_
  intro hTidy
  have hHeld := And.intro HD3.out.c0 HV3.out.range
  change AnyBut _ _ _ _ _ _ 7 _ _ _
  refine tkQ 0 rfl hTidy hHeld ?_
  refine tkQ 1 rfl hTidy hHeld ?_
  refine tkQ 2 rfl hTidy hHeld ?_
  refine tkQ 3 rfl hTidy hHeld ?_
  refine tkQ 4 rfl hTidy hHeld ?_
  refine tkL 5 (ty := 47) (.tmp 9) (tW (yPut x.t pc g) A1 c1) rfl hTidy hHeld rfl rfl (fun w h => h.2) Tryd.underlying47 rfl i47 ?_
  try simp only [List.getElem_toArray, List.getElem_cons_succ, List.getElem_cons_zero, Act.put, List.setIfInBounds_toArray, List.set_cons_zero, List.set_cons_succ]
  refine but_one (i := 6) (by kernel_rfl) rfl ?_
  intro K hK
  go_simp
  go_at_call 30
  refine (Ar.set_yes x (yPut x.t pc g) A1 c1 _ HD3.out.ar rfl k HX.out).mono ?_
  rintro e3 w4 ⟨rfl, r4, ch4⟩
  have HA4 := Lib.hid r4
  have HC4 := Lib.hid ch4
  have HT4 : Hid (Bk w4 t 63 #[.pointer (some ⟨a, 0, none⟩), .pointer (some ⟨o, 0, none⟩)]) := tab_off ch4 HD3.out.ht ⟨_, _, HD3.out.ar.ha⟩ HD3.out.ar.own (by decide) (by decide)
  have HU4 : Hid (Bk w4 w1.heap.size 47 (tW (yPut x.t pc g) A1 c1)) := set_off (w0 := w) ch4 HV3.out HA.out.ar.lt (fun k hk => (row_lt HA.out.ar.own hk).2) HB1.out.size
  clear r4 ch4
  (try dsimp only)
  have hHeld2 := And.intro (HT4.out.cell 0) HU4.out.range
  refine hK _ _ (fun _ => hHeld2) ?_
  clear hK K hHeld
  have hHeld := hHeld2
  clear hHeld2
  try simp only [List.getElem_toArray, List.getElem_cons_succ, List.getElem_cons_zero, Act.put, List.setIfInBounds_toArray, List.set_cons_zero, List.set_cons_succ]
  refine but_done (by kernel_rfl) ?_
  try clear hHeld
  clear hTidy
  go_wp2_with fail
  go_ret
  refine ⟨rfl, a, P, c, o, b, Q, e, A1, c1, ?_⟩
  exact HA.out.put (y := yPut x.t pc g) (HB3.out.drew) (row_keep HC3.out fun _ _ => rfl) HL.out HA4.out HC4.out
end
end Go.Proofs.YthiifnbgdajgaaaDoor
