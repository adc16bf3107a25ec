/- What slices.Clone of cases, Get and in answer. Conditions: each theorem's own premises. -/
import Derived.Test.YthiifnbgdajgaaaDoorTMem
namespace Go.Proofs.YthiifnbgdajgaaaDoor
open Go.RowKit
set_option linter.unusedVariables false
set_option maxRecDepth 100000

theorem inf44 : (Tryd.prog.info? 44).map (fun i => (i.zero, i.size, i.bytes)) = some (some (.agg #[.bool false, .int .i64 0, .int .i64 0]), 3, 24) := by kernel_rfl
def CloneR (cs : List Pg.Ca) (n : Nat) (w : World) (e : Ending) (w' : World) : Prop := ∃ A' c', e = .returned (.slice A' n c') ∧ w'.ownsRow w.heap.size 44 3 (.slice A' n c') n (cs.flatMap Pg.cV) ∧ Below w.heap.size w w'
theorem cV_one (cs : List Pg.Ca) : ∀ u ∈ cs.flatMap Pg.cV, u.oneCell' = true := by
  intro u hu
  obtain ⟨c, _, hc⟩ := List.mem_flatMap.1 hu
  simp only [Pg.cV, List.mem_cons, List.not_mem_nil, or_false] at hc
  rcases hc with rfl | rfl | rfl <;> rfl
theorem clone_cs {A : Option Addr} {n c : Nat} {cs : List Pg.Ca} (w : World) (hA : A = none ∨ ∃ b off, A = some ⟨b, off, none⟩) (h : Pg.RdC w A n cs) (hn : n ≤ 1000) : Calls Tryd.prog 29 #[.slice A n c] w (CloneR cs n w) := by
  obtain ⟨i0, hi, hz0, hz1, hz2⟩ := info_parts inf44
  rcases hA with rfl | ⟨b, off, rfl⟩
  · refine (show Calls Tryd.prog 29 #[.slice none n c] w _ from AnyE.slices_Clone_nil Tryd.cloneIt n c w).mono ?_
    rintro e w' ⟨rfl, rfl⟩
    have h0 : n = 0 := by
      rcases Nat.eq_zero_or_pos n with h0 | h0
      · exact h0
      · obtain ⟨b, off, hx, _⟩ := h.2.2 h0
        cases hx
    subst h0
    have : cs = [] := List.eq_nil_of_length_eq_zero h.1
    subst this
    exact ⟨none, 0, rfl, World.ownsRow_nil _ _ _ _, Below.refl _ _⟩
  · have hc : ∀ j u, (cs.flatMap Pg.cV)[j]? = some u → w.cell? ⟨b, off + j, none⟩ = some u := by
      intro j u hu
      have hj := (List.getElem?_eq_some_iff.1 hu).1
      rw [h.2.1] at hj
      obtain ⟨b', off', hx, _, hc⟩ := h.2.2 (by omega)
      injection hx with hx
      injection hx with h1 h2
      subst h1 h2
      exact hc j u hu
    refine (show Calls Tryd.prog 29 #[.slice (some ⟨b, off, none⟩) n c] w _ from AnyE.slices_Clone Tryd.cloneIt i0 _ 3 24 hi hz0 hz1 hz2 rfl (by omega) Tryd.sizeOf44 b off n c (cs.flatMap Pg.cV) w h.2.1 (by unfold maxLen; omega) (by omega) hc (cV_one cs)).mono ?_
    rintro e w' ⟨v', rfl, hown, hne, hb⟩
    rcases hown.2 with ⟨h1, _⟩ | ⟨g, cap, cur, h1, _⟩
    · subst h1
      have h0 : n = 0 := by assumption
      subst h0
      exact ⟨none, 0, rfl, hown, hb⟩
    · subst h1
      exact ⟨_, _, rfl, hown, hb⟩
theorem Cz.rd {B cap : Nat} {w : World} {cs : List Pg.Ca} {A : Option Addr} (h : Cz B w cs A cap) : (A = none ∨ ∃ b off, A = some ⟨b, off, none⟩) ∧ Pg.RdC w A cs.length cs := by
  refine ⟨?_, rfl, Pg.Rd.of_own h⟩
  rcases h.2 with ⟨h1, _⟩ | ⟨g, cap, cur, h1, _⟩
  · injection h1 with h1; exact .inl h1
  · injection h1 with h1; exact .inr ⟨_, _, h1⟩

section
variable {F : Nat → Prop} {w : World} {t a c o b e k : Nat} {P Q : Option Addr} {D : List Tk} {L : List Int} {x : Tk}
/-- A task is told, its cases in new memory. -/
def GetR (x : T0) (v : Value) (w : World) (e : Ending) (w' : World) : Prop := ∃ A c, e = .returned (.tuple #[.agg (tW x A c), v]) ∧ Cz w.heap.size w' x.cs A c ∧ Below w.heap.size w w'
theorem GetR.mk {x : T0} {v : Value} {w w1 w2 w' : World} {A : Option Addr} {c : Nat} (h1 : Below w.heap.size w w1) (hc : Cz w1.heap.size w2 x.cs A c) (hb : Below w1.heap.size w1 w2) (h2 : Below w.heap.size w w') (hk : ∀ k, blk A = some k → w'.heap[k]? = w2.heap[k]?) : GetR x v w (.returned (.tuple #[.agg (tW x A c), v])) w' :=
  ⟨A, c, rfl, row_low (row_keep hc hk) h1.size, h2⟩
set_option maxHeartbeats 1000000 in
theorem get_any (h : TX F w t a P c o b Q e D L) (hx : D[k]? = some x) : Calls Tryd.prog 19 #[.pointer (some ⟨t, 0, none⟩), .int .i64 (k : Int)] w (GetR x.t (.bool true) w) := by
  have h0 := h.c0
  have htl := h.ht.lt
  have HA := Lib.hid h
  have HX := Lib.hid hx
  have HC := Lib.hid (h.cs x (List.mem_of_getElem? hx))
  have htn : t ≠ w.heap.size := by omega
  clear h hx
  go_enter Tryd.func19, Tryd.ntmps19
  go_wp2_with fail
  have HB0 := Lib.hid (below_al w (.cells Ar.zR 47))
  refine (Ar.get_yes x _ (HA.out.ar.later HB0.out) rfl k HX.out).mono ?_
  rintro e1 w1 ⟨rfl, hb1⟩
  have HR1 : Hid (Bk w1 w.heap.size 47 Ar.zR) := (Bk.new w Ar.zR 47).later hb1
  have HB1 := Lib.hid (HB0.out.trans (hb1.mono HB0.out.size))
  have g16 : (tW x.t x.A x.cap)[16]? = some (.slice x.A x.t.cs.length x.cap) := rfl
  clear hb1 HB0 h0 htn
  go_wp2_with (refine wp_stN rfl (.tmp 6) (.tmp 18) rfl rfl rfl rfl i47 (tU_one ..) ?_)
  have HN := Lib.hid (Bk.new w1 (tW x.t x.A x.cap) 47)
  have HBN := Lib.hid (below_al w1 (.cells (tW x.t x.A x.cap) 47))
  have HCN := Lib.hid ((HC.out.1.rd))
  refine (clone_cs _ HCN.out.1 (HCN.out.2.later (HB1.out.trans (HBN.out.mono HB1.out.size))) HC.out.2.1).mono ?_
  rintro e2 w2 ⟨A2, c2, rfl, hown, hb2⟩
  have HX2 := Lib.hid (HN.out.later hb2)
  have HR2 := Lib.hid ((HR1.out.later HBN.out).later hb2)
  have hlt : w.heap.size < w1.heap.size := HR1.out.lt
  have HS : Hid (Bk (w2.setCell ⟨w1.heap.size, 16, none⟩ (.slice A2 x.t.cs.length c2)) w1.heap.size 47 (tW x.t A2 c2)) := HX2.out.set 16 _
  have HR3 : Hid (Bk (w2.setCell ⟨w1.heap.size, 16, none⟩ (.slice A2 x.t.cs.length c2)) w.heap.size 47 Ar.zR) := HR2.out.set_other (by omega) _
  have hc16 : w2.cell? ⟨w1.heap.size, 16, none⟩ = some (.slice x.A x.t.cs.length x.cap) := (HX2.out.cell 16).trans g16
  have hf16 := HX2.out.fz 16
  have HB2 := Lib.hid (HB1.out.trans (HBN.out.mono HB1.out.size))
  have HB3 := Lib.hid (HB2.out.trans (hb2.mono HB2.out.size))
  have HB4 := Lib.hid (below_row (below_set (HB3.out) (i := 16) (Nat.le_of_lt hlt) (.slice A2 x.t.cs.length c2)) (Nat.le_refl _) (tW x.t A2 c2))
  have HE : Hid (GetR x.t (.bool true) w (.returned (.tuple #[.agg (tW x.t A2 c2), .bool true])) ((w2.setCell ⟨w1.heap.size, 16, none⟩ (.slice A2 x.t.cs.length c2)).setRow w.heap.size (tW x.t A2 c2))) :=
    GetR.mk HB2.out hown hb2 HB4.out fun k hk => by
      have h9 := (row_lt hown hk).1
      rw [World.size_alloc] at h9
      exact (setRow_other _ _ _ _ (by omega)).trans (Below.heap_setCell _ _ _ _ (show k ≠ w1.heap.size by omega))
  clear hown hb2 HB3 HB4 HB2 HB1 HBN HCN HX2 HR2 HN g16 HR1
  go_wp2_with (first
    | (refine wp_ldB rfl (.tmp 6) rfl rfl HS.out Tryd.underlying47 rfl i47 ?_)
    | (refine wp_stB rfl (.tmp 4) (.tmp 26) rfl rfl rfl HR3.out rfl i47 (tU_one ..) ?_))
  refine bodyPost_ret (v := .tuple #[.agg (tW x.t A2 c2), .bool true]) ?_ rfl HE.out
  exact (res_cell (p := 4) (q := 5) (ty := 47) (b := w.heap.size) (u := tW x.t A2 c2) rfl _ rfl (HR3.out.row _) Tryd.underlying47 rfl i47).trans rfl
/-- .. if its state is this one. -/
theorem in_yes (s : Int) (h : TX F w t a P c o b Q e D L) (hx : D[k]? = some x) (hs : x.t.st = s) : Calls Tryd.prog 26 #[.pointer (some ⟨t, 0, none⟩), .int .i64 (k : Int), .int .i64 s] w (GetR x.t (.int .i64 0) w) := by
  subst hs
  have HA := Lib.hid h
  have HX := Lib.hid hx
  clear h hx
  go_enter Tryd.func26, Tryd.ntmps26
  go_wp2_with fail
  have HB0 := Lib.hid (below_al w (.cells Ar.zR 47))
  refine (get_any (HA.out.later HB0.out) HX.out).mono ?_
  rintro e1 w1 ⟨A1, c1, rfl, hc1, hb1⟩
  have HR1 : Hid (Bk w1 w.heap.size 47 Ar.zR) := (Bk.new w Ar.zR 47).later hb1
  have HB1 := Lib.hid (HB0.out.trans (hb1.mono HB0.out.size))
  have HC1 : Hid (Cz (w.alloc (.cells Ar.zR 47)).heap.size w1 x.t.cs A1 c1) := hc1
  have g2 : (tW x.t A1 c1)[2]? = some (.int .i64 x.t.st) := rfl
  have hbeq : (x.t.st == x.t.st) = true := by simp
  clear hb1 hc1
  have HN := Lib.hid (Bk.new w1 (tW x.t A1 c1) 47)
  have HR2 : Hid (Bk (w1.alloc (.cells (tW x.t A1 c1) 47)) w.heap.size 47 Ar.zR) := HR1.out.later (below_al w1 _)
  have HE : Hid (GetR x.t (.int .i64 0) w (.returned (.tuple #[.agg (tW x.t A1 c1), .int .i64 0])) ((w1.alloc (.cells (tW x.t A1 c1) 47)).setRow w.heap.size (tW x.t A1 c1))) := by
    refine ⟨A1, c1, rfl, row_low (row_keep HC1.out fun k hk => ?_) HB0.out.size, below_row (HB1.out.trans ((below_al w1 _).mono HB1.out.size)) (Nat.le_refl _) _⟩
    have h9 := row_lt HC1.out hk
    rw [World.size_alloc] at h9
    exact (setRow_other _ _ _ _ (by omega)).trans (Below.heap_alloc _ _ _ h9.2)
  go_wp2_with (first
    | (refine wp_stN rfl (.tmp 8) (.tmp 14) rfl rfl rfl rfl i47 (tU_one ..) ?_)
    | (refine wp_ldB rfl (.tmp 8) rfl rfl HN.out Tryd.underlying47 rfl i47 ?_)
    | (refine wp_stB rfl (.tmp 6) (.tmp 26) rfl rfl rfl HR2.out rfl i47 (tU_one ..) ?_))
  refine bodyPost_ret (v := .tuple #[.agg (tW x.t A1 c1), .int .i64 0]) ?_ rfl HE.out
  exact (res_cell (p := 6) (q := 7) (ty := 47) (b := w.heap.size) (u := tW x.t A1 c1) rfl _ rfl (HR2.out.row _) Tryd.underlying47 rfl i47).trans rfl
set_option maxHeartbeats 1000000 in
theorem in_no (s : Int) (h : TX F w t a P c o b Q e D L) (hx : D[k]? = some x) (hs : x.t.st ≠ s) : Calls Tryd.prog 26 #[.pointer (some ⟨t, 0, none⟩), .int .i64 (k : Int), .int .i64 s] w fun e w' => e = .returned (.tuple #[.agg Ar.zR, .int .i64 8]) ∧ Below w.heap.size w w' := by
  have HA := Lib.hid h
  have HX := Lib.hid hx
  have hbeq : (x.t.st == s) = false := by simpa using hs
  clear h hx
  go_enter Tryd.func26, Tryd.ntmps26
  go_wp2_with fail
  have HB0 := Lib.hid (below_al w (.cells Ar.zR 47))
  refine (get_any (HA.out.later HB0.out) HX.out).mono ?_
  rintro e1 w1 ⟨A1, c1, rfl, hc1, hb1⟩
  have HR1 : Hid (Bk w1 w.heap.size 47 Ar.zR) := (Bk.new w Ar.zR 47).later hb1
  have HB1 := Lib.hid (HB0.out.trans (hb1.mono HB0.out.size))
  have g2 : (tW x.t A1 c1)[2]? = some (.int .i64 x.t.st) := rfl
  have HZ : Hid ((Instr.build 47 #[]).run Tryd.prog (w1.alloc (.cells (tW x.t A1 c1) 47)) = .ok (.agg Ar.zR) (w1.alloc (.cells (tW x.t A1 c1) 47))) := build_zero
  clear hb1 hc1
  have HR2 : Hid (Bk (w1.alloc (.cells (tW x.t A1 c1) 47)) w.heap.size 47 Ar.zR) := HR1.out.later (below_al w1 _)
  have HE := Lib.hid (below_row (HB1.out.trans ((below_al w1 (.cells (tW x.t A1 c1) 47)).mono HB1.out.size)) (Nat.le_refl _) Ar.zR)
  go_wp2_with (first
    | (refine wp_stN rfl (.tmp 8) (.tmp 14) rfl rfl rfl rfl i47 (tU_one ..) ?_)
    | (refine wpl_run rfl (ex_b rfl rfl HZ.out) ?_)
    | (refine wp_stB rfl (.tmp 6) (.tmp 25) rfl rfl rfl HR2.out rfl i47 (tU_one 0 0 0 0 0 0 0 0 0 0 0 0 0 0 0 0 none 0 0 false) ?_))
  refine bodyPost_ret (v := .tuple #[.agg Ar.zR, .int .i64 8]) ?_ rfl ⟨rfl, HE.out⟩
  exact (res_cell (p := 6) (q := 7) (ty := 47) (b := w.heap.size) (u := Ar.zR) rfl _ rfl (HR2.out.row _) Tryd.underlying47 rfl i47).trans rfl
end
end Go.Proofs.YthiifnbgdajgaaaDoor
