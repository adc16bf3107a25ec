/- New, Start, Ready, Len, Pick. Conditions: each theorem's own premises. -/
import Derived.Test.YthiifnbgdajgaaaDoorTWake
namespace Go.Proofs.YthiifnbgdajgaaaDoor
open Go.RowKit
set_option linter.unusedVariables false
set_option maxRecDepth 100000

section
variable {P : Program} {ops : Array Oper} {Q : Exit → Act → World → Prop} {md : Region.Mode} {S : World → Prop} {L : Nat}
theorem tkV (i : Nat) (v : Value) {oi : Oper} {f : Nat} {listed : Array Bool} {a : Act} {w : World} (hi : ops[i]? = some oi) (hT : tidyB md ops = true) (hS : S w) (hy : ∀ w, S w → (execOp a.eval oi).run P w = .ok (.value v) w) (h : AnyBut P md ops Q S L f (listed.setIfInBounds i true) (a.put oi.dst v) w) (hw : waitB md ops L i = true := by kernel_rfl) (hr : oneB md ops listed i = true := by kernel_rfl) (hg : Region.wanted oi (yielded ops a.tmps) = true := by first | kernel_rfl | rfl) (hQ : ∀ c a w, Q (.panic c) (a.put oi.dst v) w → Q (.panic c) a w := by exact fun _ _ _ h => h) : AnyBut P md ops Q S L (f + 1) listed a w :=
  but_takeQ hi hT hw hr hQ (.inl ⟨hg, hy⟩) hS h
end
abbrev yNew (prog : Int) (g : Nat → Int) : T0 := ⟨prog, 0, 0, 0, g, 0, 0, 0, 0, false, []⟩
theorem build_new (prog : Int) (g : Nat → Int) (w : World) : (Instr.build 47 #[(0, .int .i64 prog), (4, .agg (gR g)), (2, .int .i64 0)]).run Tryd.prog w = .ok (.agg (tW (yNew prog g) none 0)) w := by kernel_rfl
section
variable {F : Nat → Prop} {w : World} {t a c o b e k : Nat} {P Q : Option Addr} {D : List Tk} {L : List Int} {x : Tk}
def StartX (F : Nat → Prop) (t : Nat) (D : List Tk) (L : List Int) (y : T0) (w : World) (e : Ending) (w' : World) : Prop :=
  e = .returned (.tuple #[.int .i64 (D.length : Int), .int .i64 0]) ∧ ∃ a P c o b Q e, TX (okN F w.heap.size) w' t a P c o b Q e (D ++ [⟨y, none, 0⟩]) (L ++ [(D.length : Int)]) ∧ Tn F w w'
set_option maxHeartbeats 4000000 in
theorem start_x (prog : Int) (g : Nat → Int) (h : TX F w t a P c o b Q e D L) (hp : 0 ≤ prog) (hn : D.length < 64) (hl : L.length ≤ 1000) (hm : (D.length : Int) ∉ L) : Calls Tryd.prog 11 #[.pointer (some ⟨t, 0, none⟩), .int .i64 prog, .agg (gR g)] w (StartX F t D L (yNew prog g) w) := by
  have HA := Lib.hid h
  have HM := Lib.hid hm
  have HNn : Hid (D.length < 64) := hn
  have b0 : ¬ prog < 0 := by omega
  clear h hm hp hn
  go_enter Tryd.func11, Tryd.ntmps11
  go_wp2_with fail
  have HB1 : Hid (Below w.heap.size w (w.alloc (.cells (gR g) 30))) := below_al w _
  have HG1 : Hid (Bk (w.alloc (.cells (gR g) 30)) w.heap.size 30 (gR g)) := Bk.new w _ 30
  have HA1 := Lib.hid (HA.out.later HB1.out)
  generalize w.alloc (.cells (gR g) 30) = w1 at *
  have HD1 : Hid (TX F w1.drew t a P c o b Q e D L) := HA1.out.later ((Below.refl _ _).drew)
  have HB2 : Hid (Below w.heap.size w w1.drew) := HB1.out.drew
  have HG2 : Hid (Bk w1.drew w.heap.size 30 (gR g)) := HG1.out.later ((Below.refl _ _).drew)
  refine but_startQ 1000 (fun w' => w'.cell? ⟨t, 0, none⟩ = some (.pointer (some ⟨a, 0, none⟩)) ∧ w'.rangeAt w.heap.size 0 (gR g).toList) (by kernel_rfl) (by as_aux_lemma => kernel_rfl) ?_
  intro hTidy
  have hHeld := And.intro HD1.out.c0 HG2.out.range
  change AnyBut _ _ _ _ _ _ 13 _ _ _
  refine tkQ 0 rfl hTidy hHeld ?_
  refine tkQ 1 rfl hTidy hHeld ?_
  refine tkQ 2 rfl hTidy hHeld ?_
  refine tkQ 3 rfl hTidy hHeld ?_
  refine tkQ 4 rfl hTidy hHeld ?_
  refine tkL 5 (ty := 30) (.tmp 5) (gR g) rfl hTidy hHeld rfl rfl (fun w h => h.2) Tryd.underlying30 rfl i30 ?_
  try simp only [List.getElem_toArray, List.getElem_cons_succ, List.getElem_cons_zero, Act.put, List.setIfInBounds_toArray, List.set_cons_zero, List.set_cons_succ]
  refine tkV 6 (.agg (tW (yNew prog g) none 0)) rfl hTidy hHeld (fun w _ => ex_b (vs := #[(0, .int .i64 prog), (4, .agg (gR g)), (2, .int .i64 0)]) rfl (by simp [Act.eval]) (build_new prog g w)) ?_
  try simp only [List.getElem_toArray, List.getElem_cons_succ, List.getElem_cons_zero, Act.put, List.setIfInBounds_toArray, List.set_cons_zero, List.set_cons_succ]
  refine but_one (i := 7) (by kernel_rfl) rfl ?_
  intro K hK
  go_simp
  go_at_call 24
  refine (Ar.add_room (n := D.length) (yNew prog g) none 0 _ HD1.out.ar (by omega) HNn.out (Nat.zero_le _)).mono ?_
  rintro e3 w3 ⟨rfl, g3, c3, r3, ch3⟩
  have HT3 : Hid (Bk w3 t 63 #[.pointer (some ⟨a, 0, none⟩), .pointer (some ⟨o, 0, none⟩)]) := tab_off ch3 HD1.out.ht ⟨_, _, HD1.out.ar.ha⟩ HD1.out.ar.own (by decide) (by decide)
  have HG3 : Hid (Bk w3 w.heap.size 30 (gR g)) := tab_off ch3 HG2.out ⟨_, _, HD1.out.ar.ha⟩ HD1.out.ar.own (by decide) (by decide)
  have HP3 : Hid (TX (okN F w1.drew.heap.size) w3 t a (some ⟨g3, 0, none⟩) c3 o b Q e (D ++ [⟨yNew prog g, none, 0⟩]) L ∧ Tn F w1.drew w3) := HD1.out.turn (P' := some ⟨g3, 0, none⟩) ch3 (by rw [List.length_append]; exact r3) (fun y hy => by
  rcases List.mem_append.1 hy with hy | hy
  · exact HD1.out.cs y hy
  · rw [List.mem_singleton.1 hy]; exact ⟨World.ownsRow_nil _ _ _ _, Nat.zero_le _, fun k hk => by cases hk⟩)
  clear r3 ch3
  (try dsimp only)
  have hHeld2 := And.intro (HT3.out.cell 0) HG3.out.range
  refine hK _ _ (fun _ => hHeld2) ?_
  clear hK K hHeld
  have hHeld := hHeld2
  clear hHeld2
  try simp only [List.getElem_toArray, List.getElem_cons_succ, List.getElem_cons_zero, Act.put, List.setIfInBounds_toArray, List.set_cons_zero, List.set_cons_succ]
  refine tkQ 8 rfl hTidy hHeld ?_
  refine tkQ 9 rfl hTidy hHeld ?_
  refine tkQ 10 rfl hTidy hHeld ?_
  refine tkQ 11 rfl hTidy hHeld ?_
  refine tkQ 12 rfl hTidy hHeld ?_
  refine but_done (by kernel_rfl) ?_
  try clear hHeld
  clear hTidy
  have HP4 : Hid (TX (okN F w.heap.size) w3 t a (some ⟨g3, 0, none⟩) c3 o b Q e (D ++ [⟨yNew prog g, none, 0⟩]) L ∧ Tn F w w3) := ⟨HP3.out.1.mono fun i _ hi => hi.imp id (Nat.le_trans HB2.out.size), (Tn.of_below HB2.out).trans HP3.out.2⟩
  have t1 : w3.cell? ⟨t, 1, none⟩ = some (.pointer (some ⟨o, 0, none⟩)) := HT3.out.cell 1
  clear HP3
  go_wp2_with fail
  refine (add_x (k := D.length) HP4.out.1 HNn.out HM.out hl).mono ?_
  rintro e7 w7 ⟨rfl, Q7, e7, r7, s7, o7⟩
  have HZ7 := Lib.hid (step_x HP4.out.2 r7 s7)
  clear r7 s7 o7
  go_wp2_with fail
  go_ret2
  exact ⟨rfl, a, _, c3, o, b, Q7, e7, HZ7.out⟩
theorem start_full (prog : Int) (g : Nat → Int) (h : TX F w t a P c o b Q e D L) (hp : 0 ≤ prog) (hn : D.length = 64) : Calls Tryd.prog 11 #[.pointer (some ⟨t, 0, none⟩), .int .i64 prog, .agg (gR g)] w fun e w' => e = .returned (.tuple #[.int .i64 0, .int .i64 3]) ∧ Below w.heap.size w w' := by
  have HA := Lib.hid h
  have HDn := Lib.hid hn
  have b0 : ¬ prog < 0 := by omega
  clear h hp hn
  go_enter Tryd.func11, Tryd.ntmps11
  go_wp2_with fail
  have HB1 : Hid (Below w.heap.size w (w.alloc (.cells (gR g) 30))) := below_al w _
  have HG1 : Hid (Bk (w.alloc (.cells (gR g) 30)) w.heap.size 30 (gR g)) := Bk.new w _ 30
  have HA1 := Lib.hid (HA.out.later HB1.out)
  generalize w.alloc (.cells (gR g) 30) = w1 at *
  have HD1 : Hid (TX F w1.drew t a P c o b Q e D L) := HA1.out.later ((Below.refl _ _).drew)
  have HB2 : Hid (Below w.heap.size w w1.drew) := HB1.out.drew
  have HG2 : Hid (Bk w1.drew w.heap.size 30 (gR g)) := HG1.out.later ((Below.refl _ _).drew)
  refine but_startQ 1000 (fun w' => w'.cell? ⟨t, 0, none⟩ = some (.pointer (some ⟨a, 0, none⟩)) ∧ w'.rangeAt w.heap.size 0 (gR g).toList) (by kernel_rfl) (by as_aux_lemma => kernel_rfl) ?_
  intro hTidy
  have hHeld := And.intro HD1.out.c0 HG2.out.range
  change AnyBut _ _ _ _ _ _ 13 _ _ _
  refine tkQ 0 rfl hTidy hHeld ?_
  refine tkQ 1 rfl hTidy hHeld ?_
  refine tkQ 2 rfl hTidy hHeld ?_
  refine tkQ 3 rfl hTidy hHeld ?_
  refine tkQ 4 rfl hTidy hHeld ?_
  refine tkL 5 (ty := 30) (.tmp 5) (gR g) rfl hTidy hHeld rfl rfl (fun w h => h.2) Tryd.underlying30 rfl i30 ?_
  try simp only [List.getElem_toArray, List.getElem_cons_succ, List.getElem_cons_zero, Act.put, List.setIfInBounds_toArray, List.set_cons_zero, List.set_cons_succ]
  refine tkV 6 (.agg (tW (yNew prog g) none 0)) rfl hTidy hHeld (fun w _ => ex_b (vs := #[(0, .int .i64 prog), (4, .agg (gR g)), (2, .int .i64 0)]) rfl (by simp [Act.eval]) (build_new prog g w)) ?_
  try simp only [List.getElem_toArray, List.getElem_cons_succ, List.getElem_cons_zero, Act.put, List.setIfInBounds_toArray, List.set_cons_zero, List.set_cons_succ]
  refine but_one (i := 7) (by kernel_rfl) rfl ?_
  intro K hK
  go_simp
  go_at_call 24
  refine (Ar.add_full (yNew prog g) none 0 _ HD1.out.ar (by omega) HDn.out).mono ?_
  rintro e3 w3 ⟨rfl, hb3⟩
  have HB3 := Lib.hid hb3
  clear hb3
  (try dsimp only)
  have hHeld2 := And.intro ((HD1.out.ht.later HB3.out).cell 0) (HG2.out.later HB3.out).range
  refine hK _ _ (fun _ => hHeld2) ?_
  clear hK K hHeld
  have hHeld := hHeld2
  clear hHeld2
  try simp only [List.getElem_toArray, List.getElem_cons_succ, List.getElem_cons_zero, Act.put, List.setIfInBounds_toArray, List.set_cons_zero, List.set_cons_succ]
  refine tkQ 8 rfl hTidy hHeld ?_
  refine tkQ 9 rfl hTidy hHeld ?_
  refine tkQ 10 rfl hTidy hHeld ?_
  refine tkQ 11 rfl hTidy hHeld ?_
  refine tkQ 12 rfl hTidy hHeld ?_
  refine but_done (by kernel_rfl) ?_
  try clear hHeld
  clear hTidy
  have HZ := Lib.hid (HB2.out.trans (HB3.out.mono HB2.out.size))
  go_wp2_with fail
  go_ret2
  exact ⟨rfl, HZ.out⟩
theorem start_nil (g : Nat → Int) (w : World) : Calls Tryd.prog 11 #[.pointer none, .int .i64 0, .agg (gR g)] w fun e w' => e = .returned (.tuple #[.int .i64 0, .int .i64 3]) ∧ Below w.heap.size w w' := by
  have HB := Lib.hid (below_al w (.cells (gR g) 30))
  go_enter Tryd.func11, Tryd.ntmps11
  go_wp2_with fail
  go_ret2
  exact ⟨rfl, HB.out⟩
theorem len_x (h : TX F w t a P c o b Q e D L) : Calls Tryd.prog 20 #[.pointer (some ⟨t, 0, none⟩)] w fun e w' => e = .returned (.int .i64 (D.length : Int)) ∧ w = w' := by
  have h0 := h.c0
  have HA := Lib.hid h
  clear h
  go_enter Tryd.func20, Tryd.ntmps20
  go_wp2_with fail
  refine (Ar.len_any _ HA.out.ar).mono ?_
  rintro e w' ⟨rfl, rfl⟩
  go_wp2_with fail
  go_ret
  exact ⟨rfl, rfl⟩
theorem ready_x (h : TX F w t a P c o b Q e D L) (hl : L.length ≤ 1000) : Calls Tryd.prog 17 #[.pointer (some ⟨t, 0, none⟩)] w (AllR L w) := by
  have h1 := h.c1
  have HA := Lib.hid h
  clear h
  go_enter Tryd.func17, Tryd.ntmps17
  go_wp2_with fail
  refine (g_all HA.out.rg hl).mono ?_
  rintro e w' ⟨A, c', rfl, r1, r2⟩
  go_wp2_with fail
  go_ret
  exact ⟨A, c', rfl, r1, r2⟩
theorem pick_x {n z : Int} (h : TX F w t a P c o b Q e D L) (hl : L.length ≤ 1000) (hz : L[pk n L.length]? = some z) : Calls Tryd.prog 21 #[.pointer (some ⟨t, 0, none⟩), .int .i64 n] w fun e w' => e = .returned (.tuple #[.int .i64 z, .bool true]) ∧ Below w.heap.size w w' := by
  have h1 := h.c1
  have HA := Lib.hid h
  clear h
  go_enter Tryd.func21, Tryd.ntmps21
  go_wp2_with fail
  refine (g_pick_any HA.out.rg hl hz).mono ?_
  rintro e w' ⟨rfl, q, rfl⟩
  have HB := Lib.hid (below_drewN w q)
  go_wp2_with fail
  go_ret2
  exact ⟨rfl, HB.out⟩
theorem pick_none_x {n : Int} (h : TX F w t a P c o b Q e D []) : Calls Tryd.prog 21 #[.pointer (some ⟨t, 0, none⟩), .int .i64 n] w fun e w' => e = .returned (.tuple #[.int .i64 0, .bool false]) ∧ w = w' := by
  have h1 := h.c1
  have HA := Lib.hid h
  clear h
  go_enter Tryd.func21, Tryd.ntmps21
  go_wp2_with fail
  refine (g_pick_none HA.out.rg).mono ?_
  rintro e w' ⟨rfl, rfl⟩
  go_wp2_with fail
  go_ret2
  exact ⟨rfl, rfl⟩
end
/-- A new table. -/
theorem new_x (w : World) : Calls Tryd.prog 9 #[] w fun e w' => ∃ t, e = .returned (.pointer (some ⟨t, 0, none⟩)) ∧ TR (fun k => w.heap.size ≤ k) [] [] w' t ∧ Below w.heap.size w w' := by
  go_enter Tryd.func9, Tryd.ntmps9
  go_wp2_with fail
  refine (Ar.new_yes 64 w (by omega) (by omega)).mono ?_
  rintro e w1 ⟨rfl, rfl⟩
  have HA1 : Hid (TA 0 (w.alloc (.cells #[.slice none 0 0, .int .i64 ((64 : Nat) : Int)] 76)) w.heap.size 64 0 none 0 []) := Ar.AR.new 47 76 18 0 w 64 (Nat.zero_le _)
  have HB1 := Lib.hid (below_al w (.cells #[.slice none 0 0, .int .i64 ((64 : Nat) : Int)] 76))
  have HS1 := Lib.hid (World.size_alloc w (.cells #[.slice none 0 0, .int .i64 ((64 : Nat) : Int)] 76))
  generalize w.alloc (.cells #[.slice none 0 0, .int .i64 ((64 : Nat) : Int)] 76) = w1 at *
  go_wp2_with fail
  refine (new_any w1).mono ?_
  rintro e w2 h2
  obtain rfl := h2.1
  have HA2 := Lib.hid (HA1.out.later h2.2.2)
  have HR2 := Lib.hid (h2.2.1 0 (Nat.zero_le _))
  have HB2 := Lib.hid (HB1.out.trans (h2.2.2.mono HB1.out.size))
  have HL2 : Hid (w1.heap.size + 1 < w2.heap.size) := by obtain ⟨f, r, _⟩ := HR2.out; exact r.lo
  clear h2
  go_wp2_with fail
  go_ret
  have hb := below_al w2 (.cells #[.pointer (some ⟨w.heap.size, 0, none⟩), .pointer (some ⟨w1.heap.size + 1, 0, none⟩)] 63)
  obtain ⟨f, r, q⟩ := HR2.out
  have h1 := HS1.out
  have h2 := HB2.out.size
  refine ⟨w2.heap.size, rfl, ⟨w.heap.size, none, 0, w1.heap.size + 1, w1.heap.size, none, 0, [], ⟨Bk.new w2 _ 63, HA2.out.later hb, ⟨f, r.later hb, q⟩, fun x hx => (by cases hx), (by omega), Nat.le_refl _, (by omega), (by omega), fun k hk => (by cases hk), fun k hk => (by cases hk)⟩, rfl, fun y hy => (by cases hy)⟩, HB2.out.trans (hb.mono h2)⟩
end Go.Proofs.YthiifnbgdajgaaaDoor
