/- A task is taken out of the line; End ends one. Conditions: each theorem's own premises. -/
import Derived.Test.YthiifnbgdajgaaaDoorTPut
namespace Go.Proofs.YthiifnbgdajgaaaDoor
open Go.RowKit
set_option linter.unusedVariables false
set_option maxRecDepth 100000

theorem fl_cut {l : List Int} {p : Nat} {x : Int} (hn : l.Nodup) (hp : l[p]? = some x) : l.filter (fun y => decide (y ≠ x)) = l.eraseIdx p := by
  rw [List.eraseIdx_eq_take_drop_succ]
  have hlt := at_lt hp
  have hsplit : l = l.take p ++ x :: l.drop (p + 1) := by
    have h1 := List.take_append_drop p l
    have h2 : l.drop p = x :: l.drop (p + 1) := by
      rw [List.drop_eq_getElem_cons hlt]
      rw [List.getElem?_eq_getElem hlt] at hp
      injection hp with hp
      rw [hp]
    rw [h2] at h1; exact h1.symm
  have hd : (l.take p ++ x :: l.drop (p + 1)).Nodup := by rw [← hsplit]; exact hn
  rw [List.nodup_append] at hd
  obtain ⟨_, h2, h3⟩ := hd
  rw [List.nodup_cons] at h2
  conv => lhs; rw [hsplit]
  rw [List.filter_append, List.filter_cons_of_neg (by simp)]
  rw [List.filter_eq_self.2, List.filter_eq_self.2]
  · intro y hy
    simp only [decide_eq_true_eq]
    rintro rfl
    exact h2.1 hy
  · intro y hy
    simp only [decide_eq_true_eq]
    exact h3 y hy x (by simp)
/-- All but one. -/
def wo (L : List Int) (k : Nat) : List Int := L.filter fun y => decide (y ≠ (k : Int))
theorem wo_not {L : List Int} {k : Nat} (h : (k : Int) ∉ L) : wo L k = L := by
  unfold wo
  rw [List.filter_eq_self]
  intro y hy
  simp only [decide_eq_true_eq]
  rintro rfl
  exact h hy
section
variable {F : Nat → Prop} {w : World} {t a c o b e k : Nat} {P Q : Option Addr} {D : List Tk} {L : List Int} {x : Tk}
theorem TX.len (h : TX F w t a P c o b Q e D L) : D.length ≤ 64 := h.ar.le
theorem wf_nat {k : Nat} (h : k < 64) : Wf (k : Int) := wf_of (by omega) (by omega)
/-- Remove, whether it is there or not. -/
theorem remove_x (h : TX F w t a P c o b Q e D L) (hk : k < 64) (hl : L.length ≤ 1000) : Calls Tryd.prog 31 #[.pointer (some ⟨o, 0, none⟩), .int .i64 (k : Int)] w fun e1 w' => ∃ z, e1 = .returned (.bool z) ∧ ∃ Q e, TX (okN F w.heap.size) w' t a P c o b Q e D (wo L k) ∧ Tn F w w' := by
  by_cases hm : (k : Int) ∈ L
  · obtain ⟨p, hp, _⟩ := mem_at hm
    refine (g_remove_yes h.rg hp hl).mono ?_
    rintro e1 w' ⟨rfl, r1, r2⟩
    have e1 := fl_cut h.rg.nd hp
    rw [← e1] at r1
    obtain ⟨r3, r4⟩ := h.list r2 r1
    exact ⟨true, rfl, _, _, r3, r4⟩
  · refine (g_remove_no h.rg (wf_nat hk) hm).mono ?_
    rintro e1 w' ⟨rfl, rfl⟩
    rw [wo_not hm]
    exact ⟨false, rfl, _, _, h.mono fun _ _ hf => .inl hf, Tn.refl _ _⟩
def EndX (F : Nat → Prop) (t : Nat) (D : List Tk) (L : List Int) (k : Nat) (y : T0) (w : World) (e : Ending) (w' : World) : Prop :=
  e = .returned (.int .i64 0) ∧ ∃ a P c o b Q e A c', TX (okN F w.heap.size) w' t a P c o b Q e (D.set k ⟨y, A, c'⟩) L ∧ Tn F w w'
abbrev zI : T0 := ⟨0, 0, 0, 0, fun _ => 0, 0, 0, 0, 0, false, []⟩
theorem step_x {w1 w2 : World} {D' : List Tk} {a' c' o' b' e' : Nat} {P' Q' : Option Addr} {L' : List Int} (h1 : Tn F w w1) (h2 : TX (okN (okN F w.heap.size) w1.heap.size) w2 t a' P' c' o' b' Q' e' D' L') (h3 : Tn (okN F w.heap.size) w1 w2) : TX (okN F w.heap.size) w2 t a' P' c' o' b' Q' e' D' L' ∧ Tn F w w2 :=
  ⟨h2.mono fun _ _ hk => ok_ok h1.size hk, h1.ok h3⟩
set_option maxHeartbeats 2000000 in
theorem end_x (how : Int) (h : TX F w t a P c o b Q e D L) (hx : D[k]? = some x) (hs : x.t.st ≠ 2) (hl : L.length ≤ 1000) : Calls Tryd.prog 15 #[.pointer (some ⟨t, 0, none⟩), .int .i64 (k : Int), .int .i64 how] w (EndX F t D (wo L k) k (yEnd x.t how) w) := by
  have hk : k < 64 := Nat.lt_of_lt_of_le (List.getElem?_eq_some_iff.1 hx).1 h.len
  have HA := Lib.hid h
  have HX := Lib.hid hx
  have hbeq : (x.t.st == 2) = false := by simpa using hs
  clear h hx hs
  go_enter Tryd.func15, Tryd.ntmps15
  go_wp2_with fail
  refine (get_any HA.out HX.out).mono ?_
  rintro e1 w1 ⟨A1, c1, rfl, hc1, hb1⟩
  have HB1 := Lib.hid hb1
  clear hb1 hc1
  go_wp2_with (first
    | (refine wp_stN rfl (.tmp 7) (.tmp 13) rfl rfl rfl rfl i47 (tU_one ..) ?_; have HU2 := Lib.hid (Bk.new w1 (tW x.t A1 c1) 47); have HB2 := Lib.hid (HB1.out.trans ((below_al w1 (.cells (tW x.t A1 c1) 47)).mono HB1.out.size)); generalize w1.alloc (.cells (tW x.t A1 c1) 47) = w2 at *; have d2 : w2.cell? ⟨w1.heap.size, 2, none⟩ = some (.int .i64 x.t.st) := HU2.out.cell 2; have d3 : w2.cell? ⟨w1.heap.size, 3, none⟩ = some (.int .i64 x.t.how) := HU2.out.cell 3; have f2 := HU2.out.fz 2; have f3 := HU2.out.fz 3; have HTH : Hid (((w2.setCell ⟨w1.heap.size, 2, none⟩ (.int .i64 2)).setCell ⟨w1.heap.size, 3, none⟩ (.int .i64 how)).there w1.heap.size 12 6) := ((HU2.out.set 2 (.int .i64 2)).set 3 (.int .i64 how)).there (by simp [tU_size]))
    | (refine wpl_run rfl (ex_b rfl rfl build_instr) ?_)
    | (refine wpList_store_mid rfl 34 (.tmp 26) (.tmp 23) rfl w1.heap.size 12 (iR zI none 0) rfl rfl HTH.out i34 (iR_one ..) ?_))
  have HU3 : Hid (Bk (((w2.setCell ⟨w1.heap.size, 2, none⟩ (.int .i64 2)).setCell ⟨w1.heap.size, 3, none⟩ (.int .i64 how)).setCells w1.heap.size 12 (iR zI none 0).toList) w1.heap.size 47 (tW (yEnd x.t how) none 0)) := put_instr (put_how (put_st HU2.out 2) how) zI none 0
  have HB3 := Lib.hid (below_sets (below_set (i := 3) (below_set (i := 2) HB2.out HB1.out.size (.int .i64 2)) HB1.out.size (.int .i64 how)) HB1.out.size (iR zI none 0).toList 12)
  have HA3 := Lib.hid (HA.out.later HB3.out)
  generalize ((w2.setCell ⟨w1.heap.size, 2, none⟩ (.int .i64 2)).setCell ⟨w1.heap.size, 3, none⟩ (.int .i64 how)).setCells w1.heap.size 12 (iR zI none 0).toList = w3 at *
  clear HTH HU2 d2 d3 f2 f3 HB2
  have HD3 : Hid (TX F w3.drew t a P c o b Q e D L) := HA3.out.later ((Below.refl _ _).drew)
  have HV3 : Hid (Bk w3.drew w1.heap.size 47 (tW (yEnd x.t how) none 0)) := HU3.out.later ((Below.refl _ _).drew)
  refine but_startQ 1000 (fun w' => w'.cell? ⟨t, 0, none⟩ = some (.pointer (some ⟨a, 0, none⟩)) ∧ w'.rangeAt w1.heap.size 0 (tW (yEnd x.t how) none 0).toList) (by kernel_rfl) (by as_aux_lemma => kernel_rfl) ?_
  intro hTidy
  have hHeld := And.intro HD3.out.c0 HV3.out.range
  change AnyBut _ _ _ _ _ _ 7 _ _ _
  refine tkQ 0 rfl hTidy hHeld ?_
  refine tkQ 1 rfl hTidy hHeld ?_
  refine tkQ 2 rfl hTidy hHeld ?_
  refine tkQ 3 rfl hTidy hHeld ?_
  refine tkQ 4 rfl hTidy hHeld ?_
  refine tkL 5 (ty := 47) (.tmp 7) (tW (yEnd x.t how) none 0) rfl hTidy hHeld rfl rfl (fun w h => h.2) Tryd.underlying47 rfl i47 ?_
  try simp only [List.getElem_toArray, List.getElem_cons_succ, List.getElem_cons_zero, Act.put, List.setIfInBounds_toArray, List.set_cons_zero, List.set_cons_succ]
  refine but_one (i := 6) (by kernel_rfl) rfl ?_
  intro K hK
  go_simp
  go_at_call 30
  refine (Ar.set_yes x (yEnd x.t how) none 0 _ HD3.out.ar rfl k HX.out).mono ?_
  rintro e3 w4 ⟨rfl, r4, ch4⟩
  have HA4 := Lib.hid r4
  have HC4 := Lib.hid ch4
  have HT4 : Hid (Bk w4 t 63 #[.pointer (some ⟨a, 0, none⟩), .pointer (some ⟨o, 0, none⟩)]) := tab_off ch4 HD3.out.ht ⟨_, _, HD3.out.ar.ha⟩ HD3.out.ar.own (by decide) (by decide)
  have HU4 : Hid (Bk w4 w1.heap.size 47 (tW (yEnd x.t how) none 0)) := set_off (w0 := w) ch4 HV3.out HA.out.ar.lt (fun k hk => (row_lt HA.out.ar.own hk).2) HB1.out.size
  clear r4 ch4
  (try dsimp only)
  have hHeld2 := And.intro (HT4.out.cell 0) HU4.out.range
  refine hK _ _ (fun _ => hHeld2) ?_
  clear hK K hHeld
  have hHeld := hHeld2
  clear hHeld2
  try simp only [List.getElem_toArray, List.getElem_cons_succ, List.getElem_cons_zero, Act.put, List.setIfInBounds_toArray, List.set_cons_zero, List.set_cons_succ]
  refine but_done (by kernel_rfl) ?_
  try clear hHeld
  clear hTidy
  have HP4 := Lib.hid (HA.out.put (y := yEnd x.t how) (A := none) (c' := 0) (HB3.out.drew) (World.ownsRow_nil _ _ _ _) (Nat.zero_le _) HA4.out HC4.out)
  have t1 : w4.cell? ⟨t, 1, none⟩ = some (.pointer (some ⟨o, 0, none⟩)) := HT4.out.cell 1
  go_wp2_with fail
  refine (remove_x HP4.out.1 hk hl).mono ?_
  rintro e5 w5 ⟨z, rfl, Q5, e5, r5, s5⟩
  have HZ5 := Lib.hid (step_x HP4.out.2 r5 s5)
  clear r5 s5
  go_wp2_with fail
  go_ret
  exact ⟨rfl, a, P, c, o, b, Q5, e5, none, 0, HZ5.out⟩
theorem end_no (how : Int) (h : TX F w t a P c o b Q e D L) (hx : D[k]? = some x) (hs : x.t.st = 2) : Calls Tryd.prog 15 #[.pointer (some ⟨t, 0, none⟩), .int .i64 (k : Int), .int .i64 how] w fun e w' => e = .returned (.int .i64 8) ∧ Below w.heap.size w w' := by
  have HA := Lib.hid h
  have HX := Lib.hid hx
  have hbeq : (x.t.st == 2) = true := by simpa using hs
  clear h hx hs
  go_enter Tryd.func15, Tryd.ntmps15
  go_wp2_with fail
  refine (get_any HA.out HX.out).mono ?_
  rintro e1 w1 ⟨A1, c1, rfl, hc1, hb1⟩
  have HB1 := Lib.hid (hb1.trans ((below_al w1 (.cells (tW x.t A1 c1) 47)).mono hb1.size))
  have g2 : (tW x.t A1 c1)[2]? = some (.int .i64 x.t.st) := rfl
  clear hb1 hc1
  go_wp2_with (refine wp_stN rfl (.tmp 7) (.tmp 13) rfl rfl rfl rfl i47 (tU_one ..) ?_)
  go_ret
  exact ⟨rfl, HB1.out⟩
end
end Go.Proofs.YthiifnbgdajgaaaDoor
