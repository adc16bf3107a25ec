/- The document's own timers: Arm, Armed. Conditions: each theorem's own premises.
The document's own timers: Take. Conditions: each theorem's own premises.
Timers within a set, made or not made yet. Conditions: each theorem's own premises. -/
import Derived.Test.YtmadcnpkaijllaaGreatLsqm
import Derived.Test.YtmadcnpkaijllaaGreatTkem
namespace Go.Proofs.YtmadcnpkaijllaaGreat
open Go.RowKit
set_option linter.unusedVariables false
set_option maxRecDepth 100000
section
variable {B m n d2 c : Nat} {rA rN : Value} {w w' : World} {A P : Option Addr} {p p' : Option Nat} {S S' Q : List It} {g g' : Int → Int} {e : Ending} {v : Value}
theorem MY.npm (h : MY B m rA rN A c P d2 n S Q w) : blk P ≠ some m := fun e => by
  obtain ⟨cs, fr, ht⟩ := row_tag h.row e
  have h5 := h.mx.hb
  rw [h5] at ht; injection ht with ht; injection ht with _ ht _; cases ht
theorem rarm_bad (k x y : Int) (m : Nat) (w : World) (h : ¬ (Fit x ∧ Fit y)) : Calls Tryz.prog 56 #[.pointer (some ⟨m, 0, none⟩), .int .i64 k, .int .i64 x, .int .i64 y] w fun e w' => e = .returned (.int .i64 1) ∧ w = w' := by
  by_cases h1 : x < 0
  · clear h
    go_enter Tryz.func56, Tryz.ntmps56
    go_wp2_with fail
    go_ret
    exact ⟨rfl, rfl⟩
  by_cases h2 : 4611686018427387904 < x
  · clear h
    go_enter Tryz.func56, Tryz.ntmps56
    go_wp2_with fail
    go_ret
    exact ⟨rfl, rfl⟩
  by_cases h3 : y < 0
  · clear h
    go_enter Tryz.func56, Tryz.ntmps56
    go_wp2_with fail
    go_ret
    exact ⟨rfl, rfl⟩
  have h4 : 4611686018427387904 < y := by unfold Fit at h; omega
  clear h
  go_enter Tryz.func56, Tryz.ntmps56
  go_wp2_with fail
  go_ret
  exact ⟨rfl, rfl⟩
/-- Stop, whether it is armed or not. -/
theorem rstop_any {k : Int} (h : MT B m rA rN p n S g w) (hS : Ok n S) (hl : S.length ≤ 1000) (hB : B ≤ w.heap.size) : ∃ v g2, (∀ y, fput g2 k y = fput g k y) ∧ Calls Tryz.prog 59 #[.pointer (some ⟨m, 0, none⟩), .int .i64 k] w (MC B m rA rN p n (del k S) g2 v w) := by
  by_cases hk : k ∈ ids S
  · obtain ⟨q, x, hx, rfl⟩ := ids_mem hk
    exact ⟨_, _, fun y => fput_two _ _ _ _, rstop_yes h hS (at_mem hx) hl hB⟩
  · refine ⟨.bool false, g, fun y => rfl, ?_⟩
    rw [del_none hk]
    exact rstop_no h hS hk hl
set_option maxHeartbeats 8000000 in
theorem rarm_any (k x y : Int) (h : MT B m rA rN p n S g w) (hS : Ok n S) (hx : Fit x) (hy : Fit y) (hn : n ≤ 1000000) (hl : S.length ≤ 999) (hB : B ≤ w.heap.size) :
    Calls Tryz.prog 56 #[.pointer (some ⟨m, 0, none⟩), .int .i64 k, .int .i64 x, .int .i64 y] w (MC B m rA rN p (n + 1) (ins ⟨k, x, (n : Int) + 1⟩ (del k S)) (fput g k y) (.int .i64 0) w) := by
  obtain ⟨i0, hi, hz0, hz1, hz2⟩ := info_parts inf39
  obtain ⟨v, g2, hg2, hc⟩ := rstop_any (k := k) h hS (by omega) hB
  have HC := Lib.hid hc
  have HD := Lib.hid (hS.del k)
  have hdl : (del k S).length ≤ 999 := by
    have : (del k S).length ≤ S.length := by unfold del; exact List.length_filter_le _ _
    omega
  have hdn : k ∉ ids (del k S) := del_ids
  have b1 : ¬ x < 0 := by have := hx.1; omega
  have b2 : ¬ 4611686018427387904 < x := by have := hx.2; omega
  have b3 : ¬ y < 0 := by have := hy.1; omega
  have b4 : ¬ 4611686018427387904 < y := by have := hy.2; omega
  have HG := Lib.hid (hg2 y)
  have HT := Lib.hid h
  clear hc hg2 h hx hy
  generalize del k S = D at *
  go_enter Tryz.func56, Tryz.ntmps56
  go_wp2_with fail
  refine HC.out.mono ?_
  rintro e w1 hr
  obtain ⟨p1, hm1, hk1⟩ := hr.2
  obtain rfl := hr.1
  have hB1 : B ≤ w1.heap.size := by have := hk1.size; omega
  obtain ⟨A, c, P, c2, Q, rfl, hy1, hq1⟩ := hm1
  have HK1 := Lib.hid hk1
  have H1 := Lib.hid hy1
  have HQ := Lib.hid hq1
  have hql : Q.length ≤ 999 := by rw [hq1.len HD.out.ids]; exact hdl
  clear hr hy1 hk1 hq1 HC HT
  go_wp2_with fail
  refine (rput_any k x ⟨A, c, H1.out.mx⟩ HD.out.srt hn (by omega) hB1).mono ?_
  rintro e w2 hr
  obtain ⟨A', c', hy2⟩ := H1.out.heap hr (by
    by_cases h0 : 0 < D.length
    · exact .inr (.inl h0)
    · refine .inr (.inr fun e => ?_)
      obtain ⟨A9, c9, hx9⟩ := hr.2.1
      rw [hx9.c0, H1.out.c0] at e
      injection e with e
      injection e with _ e9 _
      rw [ins_len] at e9
      omega)
  have HK2 := Lib.hid (HK1.out.trans (KT.of_km (blk P) hr.2.2.1))
  obtain rfl := hr.1
  have HY := Lib.hid hy2
  have HPq := Lib.hid (HQ.out.add k x y ((n : Int) + 1) hdn)
  rw [HG.out] at HPq
  have hB2 : B ≤ w2.heap.size := by have := hr.2.2.1.size; omega
  have c2' := hy2.c2
  have hm2 := hy2.lt
  have hnp := hy2.npm
  clear hr hy2 H1 HK1 HQ HD HG
  generalize ins ⟨k, x, (n : Int) + 1⟩ D = S2 at *
  go_wp2_with (at_builtin; go_loud (refine wpList_append_lies _ rfl (.tmp 36) (.tmp 40) 28 rfl B 94 i0 _ 3 24 Tryz.underlying28 hi hz0 hz1 hz2 rfl (by omega) (.slice P Q.length c2) Q.length (iV Q) rfl (row_later HY.out.row (below_al w2 _)) ⟨w2.heap.size, 0, none⟩ 1 1 (eI ⟨k, y, 0⟩) rfl rfl (World.news_of_block (cs := #[.int .i64 k, .int .i64 y, .int .i64 0]) (heap_alloc_new w2 _)) (eI_one ⟨k, y, 0⟩) (by omega) (by unfold maxLen; omega) (by omega) (by simp; omega) (w2.heap.size + 1) (by simp) ?_; intro g3 cap3 w3 hown hgrow hat hlt1; have hm3 := (hgrow.block m (by simp; omega) (by rw [own_blk]; exact fun e => hnp e.symm)).trans ((below_al w2 _).block m hm2); have c3 := (cell_blk hm3 2).trans c2'; have f3 := (frozen_blk hm3 2).trans (HY.out.mx.fz 2); have hl3 := lt_of_blk (hm3.trans HY.out.mx.hb); have HE := Lib.hid (HY.out.app (x := ⟨k, y, 0⟩) (below_al w2 _) hown hgrow (hat.imp id (by omega))); clear hown hgrow hat hlt1 hm3))
  go_ret
  exact ⟨rfl, some g3, ⟨_, _, _, _, _, rfl, HE.out.1, HPq.out⟩, HK2.out.trans HE.out.2⟩
end
end Go.Proofs.YtmadcnpkaijllaaGreat
namespace Go.Proofs.YtmadcnpkaijllaaGreat
open Go.RowKit
set_option linter.unusedVariables false
set_option maxRecDepth 100000
/-- A block of one that is due, the document's. -/
def Rbk (w : World) (s : Nat) (i x y : Int) : Prop := w.heap[s]? = some (.cells #[.int .i64 i, .int .i64 x, .int .i64 y] 124 (0, 0))
/-- A block of an item of the document's. -/
def Ibk (w : World) (s : Nat) (x : It) : Prop := w.heap[s]? = some (.cells #[.int .i64 x.id, .int .i64 x.w, .int .i64 x.s] 94 (0, 0))
section
variable {B m n d2 c s : Nat} {rA rN : Value} {w w' w1 : World} {A P : Option Addr} {p p' : Option Nat} {S S' Q : List It} {g g' : Int → Int} {e : Ending} {v : Value} {i x y : Int} {z : It}
theorem Rbk.later (h : Rbk w s i x y) (hb : Below w.heap.size w w') : Rbk w' s i x y := (hb.block s (lt_of_blk h)).trans h
theorem Ibk.later (h : Ibk w s z) (hb : Below w.heap.size w w') : Ibk w' s z := (hb.block s (lt_of_blk h)).trans h
theorem Rbk.kt (h : Rbk w s i x y) (hm : s ≠ m) (hp : p ≠ some s) (hc : KT m p p' w w') : Rbk w' s i x y := (hc.block s (lt_of_blk h) hm hp).trans h
theorem Ibk.kt (h : Ibk w s z) (hm : s ≠ m) (hp : p ≠ some s) (hc : KT m p p' w w') : Ibk w' s z := (hc.block s (lt_of_blk h) hm hp).trans h
theorem Rbk.cells (h : Rbk w s i x y) : w.cell? ⟨s, 0, none⟩ = some (.int .i64 i) ∧ w.cell? ⟨s, 1, none⟩ = some (.int .i64 x) ∧ w.cell? ⟨s, 2, none⟩ = some (.int .i64 y) ∧ w.frozen? ⟨s, 0, none⟩ = false ∧ w.frozen? ⟨s, 1, none⟩ = false ∧ w.frozen? ⟨s, 2, none⟩ = false :=
  ⟨by rw [cell_of_row w s 0 _ _ _ h]; rfl, by rw [cell_of_row w s 1 _ _ _ h]; rfl, by rw [cell_of_row w s 2 _ _ _ h]; rfl, frozen_of_row w s 0 _ _ h, frozen_of_row w s 1 _ _ h, frozen_of_row w s 2 _ _ h⟩
theorem Ibk.cells (h : Ibk w s z) : w.cell? ⟨s, 0, none⟩ = some (.int .i64 z.id) ∧ w.cell? ⟨s, 1, none⟩ = some (.int .i64 z.w) ∧ w.cell? ⟨s, 2, none⟩ = some (.int .i64 z.s) :=
  ⟨by rw [cell_of_row w s 0 _ _ _ h]; rfl, by rw [cell_of_row w s 1 _ _ _ h]; rfl, by rw [cell_of_row w s 2 _ _ _ h]; rfl⟩
theorem KT.set (h : KT m p p' w w') (hs : w.heap.size ≤ s) (j : Nat) (v : Value) : KT m p p' w (w'.setCell ⟨s, j, none⟩ v) :=
  ⟨h.os, h.tape, h.output, by have := h.size; simpa [World.setCell] using this, fun k hk a1 a2 => (Below.heap_setCell _ _ _ _ (show k ≠ s by omega)).trans (h.block k hk a1 a2), h.new⟩
/-- A store into a row of another kind. -/
theorem MT.cell (h : MT B m rA rN p n S g w) {ty j : Nat} {cs : Array Value} {fr : Nat × Nat} (ht : w.heap[s]? = some (.cells cs ty fr)) (h1 : ty ≠ 35) (h2 : ty ≠ 94) (v : Value) : MT B m rA rN p n S g (w.setCell ⟨s, j, none⟩ v) := by
  obtain ⟨A, c, P, c2, Q, e0, hy, hq⟩ := h
  have key : ∀ k, k ≠ s → (w.setCell ⟨s, j, none⟩ v).heap[k]? = w.heap[k]? := fun k hk => Below.heap_setCell _ _ _ _ (by exact hk)
  have t39 : ∀ k cur fr', w.heap[k]? = some (.cells cur 94 fr') → k ≠ s := by
    rintro k cur fr' hk rfl
    rw [ht] at hk; injection hk with hk; injection hk with _ hk _; exact h2 hk
  refine ⟨A, c, P, c2, Q, e0, ⟨⟨(key m ?_).trans hy.mx.hb, hy.mx.wn.keep fun g cur _ hg => (key g (t39 _ _ _ hg)).trans hg, hy.mx.lo, hy.mx.nn, hy.mx.ty⟩, row_keep hy.row fun k hk => key k ?_, hy.ap⟩, hq⟩
  · rintro rfl
    have h4 := hy.mx.hb
    rw [ht] at h4; injection h4 with h4; injection h4 with _ h4 _; exact h1 h4
  · obtain ⟨cs', fr', h4⟩ := row_tag hy.row hk
    exact t39 _ _ _ h4
theorem MC.set3 {w0 : World} {u : Value} (h : MT B m rA rN p' n S g w') (h0 : KT m p p' w w') (hs : w.heap.size ≤ s) (hd : Rbk w' s i x y) (i' x' y' : Int) :
    MC B m rA rN p n S g u w (.returned u) (((w'.setCell ⟨s, 0, none⟩ (.int .i64 i')).setCell ⟨s, 1, none⟩ (.int .i64 x')).setCell ⟨s, 2, none⟩ (.int .i64 y')) := by
  have e1 := heap_setCell_same w' s 0 _ _ (.int .i64 i') hd
  have e2 := heap_setCell_same _ s 1 _ _ (.int .i64 x') e1
  exact ⟨rfl, p', ((h.cell hd (by decide) (by decide) _).cell e1 (by decide) (by decide) _).cell e2 (by decide) (by decide) _, ((h0.set hs 0 _).set hs 1 _).set hs 2 _⟩
set_option maxHeartbeats 4000000 in
theorem rtake_neg {now : Int} (h : MT B m rA rN p n S g w) (hn : now < 0) : Calls Tryz.prog 62 #[.pointer (some ⟨m, 0, none⟩), .int .i64 now] w (DbR 0 0 0 false w) := by
  have HM := Lib.hid (h.later (below_al w (.cells #[.int .i64 0, .int .i64 0, .int .i64 0] 124)))
  have D1 : Hid (Rbk (w.alloc (.cells #[.int .i64 0, .int .i64 0, .int .i64 0] 124)) w.heap.size 0 0 0) := heap_alloc_new w _
  have HB1 := Lib.hid (below_al w (.cells #[.int .i64 0, .int .i64 0, .int .i64 0] 124))
  clear h
  go_enter Tryz.func62, Tryz.ntmps62
  go_upto_region 1 with (fail)
  generalize w.alloc (.cells #[.int .i64 0, .int .i64 0, .int .i64 0] 124) = w2 at *
  obtain ⟨d0, d1, d2, f0, f1, f2⟩ := D1.out.cells
  have hdr := lt_of_blk D1.out
  go_wp2_with fail
  refine bodyPost_ret (v := .tuple #[vD 0 0 0, .bool false]) ?_ rfl ⟨rfl, below_set3 HB1.out (Nat.le_refl _)⟩
  rw [results_cell_tmp rfl]
  go_simp
set_option maxHeartbeats 4000000 in
theorem rtake_empty {now : Int} (h : MT B m rA rN p n [] g w) (hn : ¬ now < 0) : Calls Tryz.prog 62 #[.pointer (some ⟨m, 0, none⟩), .int .i64 now] w (DbR 0 0 0 false w) := by
  have HM := Lib.hid (h.later (below_al w (.cells #[.int .i64 0, .int .i64 0, .int .i64 0] 124)))
  have D1 : Hid (Rbk (w.alloc (.cells #[.int .i64 0, .int .i64 0, .int .i64 0] 124)) w.heap.size 0 0 0) := heap_alloc_new w _
  have HB1 := Lib.hid (below_al w (.cells #[.int .i64 0, .int .i64 0, .int .i64 0] 124))
  clear h
  go_enter Tryz.func62, Tryz.ntmps62
  go_upto_region 1 with (fail)
  generalize w.alloc (.cells #[.int .i64 0, .int .i64 0, .int .i64 0] 124) = w2 at *
  obtain ⟨d0, d1, d2, f0, f1, f2⟩ := D1.out.cells
  have hdr := lt_of_blk D1.out
  obtain ⟨A, c, P, c2, Q, rfl, h1, h2⟩ := HM.out
  have c0 := h1.c0
  simp only [List.length_nil] at c0
  clear h1 h2
  go_wp2_with fail
  refine bodyPost_ret (v := .tuple #[vD 0 0 0, .bool false]) ?_ rfl ⟨rfl, below_set3 HB1.out (Nat.le_refl _)⟩
  rw [results_cell_tmp rfl]
  go_simp
set_option maxHeartbeats 4000000 in
theorem rtake_early {x : It} {now : Int} (h : MT B m rA rN p n (x :: S) g w) (hn : ¬ now < 0) (hw : now < x.w) : Calls Tryz.prog 62 #[.pointer (some ⟨m, 0, none⟩), .int .i64 now] w (DbR 0 0 0 false w) := by
  have HM := Lib.hid (h.later (below_al w (.cells #[.int .i64 0, .int .i64 0, .int .i64 0] 124)))
  have D1 : Hid (Rbk (w.alloc (.cells #[.int .i64 0, .int .i64 0, .int .i64 0] 124)) w.heap.size 0 0 0) := heap_alloc_new w _
  have HB1 := Lib.hid (below_al w (.cells #[.int .i64 0, .int .i64 0, .int .i64 0] 124))
  clear h
  go_enter Tryz.func62, Tryz.ntmps62
  go_upto_region 1 with (fail)
  generalize w.alloc (.cells #[.int .i64 0, .int .i64 0, .int .i64 0] 124) = w2 at *
  obtain ⟨d0, d1, d2, f0, f1, f2⟩ := D1.out.cells
  have hdr := lt_of_blk D1.out
  obtain ⟨A, c, P, c2, Q, rfl, h1, h2⟩ := HM.out
  have c0 := h1.c0
  have hml := h1.lt
  obtain ⟨gw, off, rfl, -, hgw, hc⟩ := h1.mx.wn.cells (by simp)
  obtain ⟨x0, x1, x2⟩ := hc 0 x rfl
  simp only [Nat.zero_mul, Nat.add_zero] at x0 x1 x2
  have q0 : ((x :: S).length == 0) = false := by simp
  have q1 : (((x :: S).length : Int) == 0) = false := beq_eq_false_iff_ne.2 (by simp <;> omega)
  have q2 : (0 : Int) < ((x :: S).length : Int) := by simp <;> omega
  generalize (x :: S).length = N at *
  clear h2 hc
  clear h1
  go_wp2_with fail
  refine bodyPost_ret (v := .tuple #[vD 0 0 0, .bool false]) ?_ rfl ⟨rfl, below_set3 HB1.out (Nat.le_refl _)⟩
  rw [results_cell_tmp rfl]
  go_simp
set_option maxHeartbeats 8000000 in
theorem rtake_end {x : It} {now : Int} (h : MT B m rA rN p n (x :: S) g w) (hS : Ok n (x :: S)) (hl : (x :: S).length ≤ 999) (hm1 : n ≤ 1000000) (hB : B ≤ w.heap.size) (hn : ¬ now < 0) (hw : x.w ≤ now) (hfx : Fit x.w) (hfg : Fit (g x.id)) (hg : ¬ Gon x.w (g x.id) now) :
    Calls Tryz.prog 62 #[.pointer (some ⟨m, 0, none⟩), .int .i64 now] w (MC B m rA rN p n S (fput g x.id 0) (.tuple #[vD x.id x.w now, .bool true]) w) := by
  have hw2 : ¬ now < x.w := by omega
  have hgm := mem_ids (show x ∈ x :: S by simp)
  have HR0 : Hid (w.heap.size ≠ m ∧ p ≠ some w.heap.size) := ⟨by have := h.lt; omega, fun e => by have := (h.lp e).2; omega⟩
  have HM := Lib.hid (h.later (below_al w (.cells #[.int .i64 0, .int .i64 0, .int .i64 0] 124)))
  have D1 : Hid (Rbk (w.alloc (.cells #[.int .i64 0, .int .i64 0, .int .i64 0] 124)) w.heap.size 0 0 0) := heap_alloc_new w _
  have HB1 := Lib.hid (below_al w (.cells #[.int .i64 0, .int .i64 0, .int .i64 0] 124))
  have HPer := Lib.hid (fun w2 hb => rper_yes (h.later (w' := w2) hb) hgm hS.ids (by omega))
  have HOK := Lib.hid hS
  have HT := Lib.hid hS.tail
  clear h hgm hS
  go_enter Tryz.func62, Tryz.ntmps62
  go_upto_region 1 with (fail)
  generalize w.alloc (.cells #[.int .i64 0, .int .i64 0, .int .i64 0] 124) = wa at *
  obtain ⟨d0, d1, d2, f0, f1, f2⟩ := D1.out.cells
  have hdr := lt_of_blk D1.out
  have HPer2 := Lib.hid (HPer.out wa HB1.out)
  have HM9 := Lib.hid HM.out
  have hlN := hl
  obtain ⟨A, c, P, c2, Q, e0, h1, h2⟩ := HM.out
  have c0 := h1.c0
  have hml := h1.lt
  obtain ⟨gw, off, rfl, -, hgw, hc⟩ := h1.mx.wn.cells (by simp)
  obtain ⟨x0, x1, x2⟩ := hc 0 x rfl
  simp only [Nat.zero_mul, Nat.add_zero] at x0 x1 x2
  have q0 : ((x :: S).length == 0) = false := by simp
  have q1 : (((x :: S).length : Int) == 0) = false := beq_eq_false_iff_ne.2 (by simp <;> omega)
  have q2 : (0 : Int) < ((x :: S).length : Int) := by simp <;> omega
  generalize hNN : (x :: S).length = N at *
  clear h2 hc h1 e0
  go_wp2_with fail
  have V1 : Hid (Ibk (wa.alloc (.cells #[.int .i64 x.id, .int .i64 x.w, .int .i64 x.s] 94)) wa.heap.size x) := heap_alloc_new wa _
  have HB2 := Lib.hid (HB1.out.trans ((below_al wa (.cells #[.int .i64 x.id, .int .i64 x.w, .int .i64 x.s] 94)).mono HB1.out.size))
  have HM2 := Lib.hid (HM9.out.later (below_al wa (.cells #[.int .i64 x.id, .int .i64 x.w, .int .i64 x.s] 94)))
  have D2 := Lib.hid (D1.out.later (below_al wa (.cells #[.int .i64 x.id, .int .i64 x.w, .int .i64 x.s] 94)))
  have HPer3 := Lib.hid (HPer.out _ HB2.out)
  have HV0 : Hid (wa.heap.size ≠ m ∧ p ≠ some wa.heap.size) := ⟨by have := HM9.out.lt; omega, fun e => by have := (HM9.out.lp e).2; omega⟩
  clear c0 x0 x1 x2 d0 d1 d2 f0 f1 f2 D1 HM HM9 HPer HPer2 HB1 hgw hdr
  generalize wa.alloc (.cells #[.int .i64 x.id, .int .i64 x.w, .int .i64 x.s] 94) = w2 at *
  generalize wa.heap.size = s9 at *
  obtain ⟨y0, y1, y2⟩ := V1.out.cells
  refine HPer3.out.mono ?_
  rintro e w3 ⟨rfl, rfl⟩
  have hB2 : B ≤ w2.heap.size := by have := HB2.out.size; omega
  have HSt := Lib.hid (rstop_yes HM2.out HOK.out (show x ∈ x :: S by simp) (by omega) hB2)
  rw [HT.out.1] at HSt
  clear HPer3 HM2
  go_wp2_with fail
  refine HSt.out.mono ?_
  rintro e w3 hr
  obtain ⟨p1, hm3, hk3⟩ := hr.2
  obtain rfl := hr.1
  have HM3 := Lib.hid hm3
  have HK3 := Lib.hid ((KT.of_below p HB2.out).trans hk3)
  have V3 := Lib.hid (V1.out.kt HV0.out.1 HV0.out.2 hk3)
  have D3 := Lib.hid (D2.out.kt HR0.out.1 HR0.out.2 hk3)
  have KQ := Lib.hid hk3
  clear hr hm3 HSt V1 D2 y0 y1 y2
  obtain ⟨y0, y1, y2⟩ := V3.out.cells
  by_cases hp : 0 < g x.id
  · obtain ⟨f1, f2⟩ := hfx
    obtain ⟨f3, f4⟩ := hfg
    by_cases hb : now ≤ 4611686018427387904
    · have HN : Hid (∀ w, Calls Tryz.prog 86 #[.int .i64 x.w, .int .i64 (g x.id), .int .i64 now] w fun e w' => e = .returned (.tuple #[.int .i64 (nx x.w (g x.id) now), .int .i64 0]) ∧ w = w') := fun w => rnext_yes _ _ _ w (by omega) (by omega) (by omega) (by omega) (by omega) (by omega)
      have hu : ¬ now < (nx x.w (g x.id) now) := fun e => hg ⟨by simp [nxB]; omega, e⟩
      generalize (nx x.w (g x.id) now) = u at *
      have HF : Hid (MC B m rA rN p n S (fput g x.id 0) (.tuple #[vD x.id x.w now, .bool true]) w (.returned (.tuple #[vD x.id x.w now, .bool true])) (((w3.setCell ⟨w.heap.size, 0, none⟩ (.int .i64 x.id)).setCell ⟨w.heap.size, 1, none⟩ (.int .i64 x.w)).setCell ⟨w.heap.size, 2, none⟩ (.int .i64 now))) := MC.set3 (w0 := w) (HM3.out) HK3.out (Nat.le_refl _) D3.out x.id x.w now
      obtain ⟨d0, d1, d2, f0, f1, f2⟩ := D3.out.cells
      go_wp2_with fail
      refine (HN.out _).mono ?_
      rintro e w4 ⟨rfl, rfl⟩
      clear HN
      go_wp2_with fail
      refine bodyPost_ret (v := .tuple #[vD x.id x.w now, .bool true]) ?_ rfl HF.out
      rw [results_cell_tmp rfl]
      go_simp
    · have HN : Hid (∀ w, Calls Tryz.prog 86 #[.int .i64 x.w, .int .i64 (g x.id), .int .i64 4611686018427387904] w fun e w' => e = .returned (.tuple #[.int .i64 (nx x.w (g x.id) 4611686018427387904), .int .i64 0]) ∧ w = w') := fun w => rnext_yes _ _ _ w (by omega) (by omega) (by omega) (by omega) (by omega) (by omega)
      have hu : ¬ now < (nx x.w (g x.id) 4611686018427387904) := fun e => by
        have h1 : nx x.w (g x.id) 4611686018427387904 ≤ 4611686018427387904 := by
          unfold nx
          split
          · omega
          · exact hd_hi _
        omega
      generalize (nx x.w (g x.id) 4611686018427387904) = u at *
      have HF : Hid (MC B m rA rN p n S (fput g x.id 0) (.tuple #[vD x.id x.w now, .bool true]) w (.returned (.tuple #[vD x.id x.w now, .bool true])) (((w3.setCell ⟨w.heap.size, 0, none⟩ (.int .i64 x.id)).setCell ⟨w.heap.size, 1, none⟩ (.int .i64 x.w)).setCell ⟨w.heap.size, 2, none⟩ (.int .i64 now))) := MC.set3 (w0 := w) (HM3.out) HK3.out (Nat.le_refl _) D3.out x.id x.w now
      obtain ⟨d0, d1, d2, f0, f1, f2⟩ := D3.out.cells
      go_wp2_with fail
      refine (HN.out _).mono ?_
      rintro e w4 ⟨rfl, rfl⟩
      clear HN
      go_wp2_with fail
      refine bodyPost_ret (v := .tuple #[vD x.id x.w now, .bool true]) ?_ rfl HF.out
      rw [results_cell_tmp rfl]
      go_simp
  · have HF : Hid (MC B m rA rN p n S (fput g x.id 0) (.tuple #[vD x.id x.w now, .bool true]) w (.returned (.tuple #[vD x.id x.w now, .bool true])) (((w3.setCell ⟨w.heap.size, 0, none⟩ (.int .i64 x.id)).setCell ⟨w.heap.size, 1, none⟩ (.int .i64 x.w)).setCell ⟨w.heap.size, 2, none⟩ (.int .i64 now))) := MC.set3 (w0 := w) (HM3.out) HK3.out (Nat.le_refl _) D3.out x.id x.w now
    obtain ⟨d0, d1, d2, f0, f1, f2⟩ := D3.out.cells
    go_wp2_with fail
    refine bodyPost_ret (v := .tuple #[vD x.id x.w now, .bool true]) ?_ rfl HF.out
    rw [results_cell_tmp rfl]
    go_simp
set_option maxHeartbeats 8000000 in
theorem rtake_on {x : It} {now : Int} (h : MT B m rA rN p n (x :: S) g w) (hS : Ok n (x :: S)) (hl : (x :: S).length ≤ 999) (hm1 : n ≤ 1000000) (hB : B ≤ w.heap.size) (hn : ¬ now < 0) (hw : x.w ≤ now) (hfx : Fit x.w) (hfg : Fit (g x.id)) (hg : Gon x.w (g x.id) now) :
    Calls Tryz.prog 62 #[.pointer (some ⟨m, 0, none⟩), .int .i64 now] w (MC B m rA rN p (n + 1) (ins ⟨x.id, nx x.w (g x.id) now, (n : Int) + 1⟩ S) g (.tuple #[vD x.id x.w now, .bool true]) w) := by
  have hw2 : ¬ now < x.w := by omega
  have hgm := mem_ids (show x ∈ x :: S by simp)
  have HR0 : Hid (w.heap.size ≠ m ∧ p ≠ some w.heap.size) := ⟨by have := h.lt; omega, fun e => by have := (h.lp e).2; omega⟩
  have HM := Lib.hid (h.later (below_al w (.cells #[.int .i64 0, .int .i64 0, .int .i64 0] 124)))
  have D1 : Hid (Rbk (w.alloc (.cells #[.int .i64 0, .int .i64 0, .int .i64 0] 124)) w.heap.size 0 0 0) := heap_alloc_new w _
  have HB1 := Lib.hid (below_al w (.cells #[.int .i64 0, .int .i64 0, .int .i64 0] 124))
  have HPer := Lib.hid (fun w2 hb => rper_yes (h.later (w' := w2) hb) hgm hS.ids (by omega))
  have HOK := Lib.hid hS
  have HT := Lib.hid hS.tail
  clear h hgm hS
  go_enter Tryz.func62, Tryz.ntmps62
  go_upto_region 1 with (fail)
  generalize w.alloc (.cells #[.int .i64 0, .int .i64 0, .int .i64 0] 124) = wa at *
  obtain ⟨d0, d1, d2, f0, f1, f2⟩ := D1.out.cells
  have hdr := lt_of_blk D1.out
  have HPer2 := Lib.hid (HPer.out wa HB1.out)
  have HM9 := Lib.hid HM.out
  have hlN := hl
  obtain ⟨A, c, P, c2, Q, e0, h1, h2⟩ := HM.out
  have c0 := h1.c0
  have hml := h1.lt
  obtain ⟨gw, off, rfl, -, hgw, hc⟩ := h1.mx.wn.cells (by simp)
  obtain ⟨x0, x1, x2⟩ := hc 0 x rfl
  simp only [Nat.zero_mul, Nat.add_zero] at x0 x1 x2
  have q0 : ((x :: S).length == 0) = false := by simp
  have q1 : (((x :: S).length : Int) == 0) = false := beq_eq_false_iff_ne.2 (by simp <;> omega)
  have q2 : (0 : Int) < ((x :: S).length : Int) := by simp <;> omega
  generalize hNN : (x :: S).length = N at *
  clear h2 hc h1 e0
  go_wp2_with fail
  have V1 : Hid (Ibk (wa.alloc (.cells #[.int .i64 x.id, .int .i64 x.w, .int .i64 x.s] 94)) wa.heap.size x) := heap_alloc_new wa _
  have HB2 := Lib.hid (HB1.out.trans ((below_al wa (.cells #[.int .i64 x.id, .int .i64 x.w, .int .i64 x.s] 94)).mono HB1.out.size))
  have HM2 := Lib.hid (HM9.out.later (below_al wa (.cells #[.int .i64 x.id, .int .i64 x.w, .int .i64 x.s] 94)))
  have D2 := Lib.hid (D1.out.later (below_al wa (.cells #[.int .i64 x.id, .int .i64 x.w, .int .i64 x.s] 94)))
  have HPer3 := Lib.hid (HPer.out _ HB2.out)
  have HV0 : Hid (wa.heap.size ≠ m ∧ p ≠ some wa.heap.size) := ⟨by have := HM9.out.lt; omega, fun e => by have := (HM9.out.lp e).2; omega⟩
  clear c0 x0 x1 x2 d0 d1 d2 f0 f1 f2 D1 HM HM9 HPer HPer2 HB1 hgw hdr
  generalize wa.alloc (.cells #[.int .i64 x.id, .int .i64 x.w, .int .i64 x.s] 94) = w2 at *
  generalize wa.heap.size = s9 at *
  obtain ⟨y0, y1, y2⟩ := V1.out.cells
  refine HPer3.out.mono ?_
  rintro e w3 ⟨rfl, rfl⟩
  have hB2 : B ≤ w2.heap.size := by have := HB2.out.size; omega
  have HSt := Lib.hid (rstop_yes HM2.out HOK.out (show x ∈ x :: S by simp) (by omega) hB2)
  rw [HT.out.1] at HSt
  clear HPer3 HM2
  go_wp2_with fail
  refine HSt.out.mono ?_
  rintro e w3 hr
  obtain ⟨p1, hm3, hk3⟩ := hr.2
  obtain rfl := hr.1
  have HM3 := Lib.hid hm3
  have HK3 := Lib.hid ((KT.of_below p HB2.out).trans hk3)
  have V3 := Lib.hid (V1.out.kt HV0.out.1 HV0.out.2 hk3)
  have D3 := Lib.hid (D2.out.kt HR0.out.1 HR0.out.2 hk3)
  have KQ := Lib.hid hk3
  have hsr2 := lt_of_blk V1.out
  have hdr2 := lt_of_blk D2.out
  clear hr hm3 HSt V1 D2 y0 y1 y2
  obtain ⟨y0, y1, y2⟩ := V3.out.cells
  obtain ⟨a1, a2, a3, a4, a5, a6⟩ := nxB_all hg.1
  have hp : 0 < g x.id := by omega
  have HN : Hid (∀ w, Calls Tryz.prog 86 #[.int .i64 x.w, .int .i64 (g x.id), .int .i64 now] w fun e w' => e = .returned (.tuple #[.int .i64 (nx x.w (g x.id) now), .int .i64 0]) ∧ w = w') := fun w => rnext_yes _ _ _ w a1 a2 a3 a4 a5 a6
  have hb9 : now ≤ 4611686018427387904 := a6
  have hu := hg.2
  have hfu : Fit (nx x.w (g x.id) now) := ⟨by omega, by unfold nx; split <;> first | omega | exact hd_hi _⟩
  have hB3 : B ≤ w3.heap.size := by have := HK3.out.size; omega
  have hNS : S.length ≤ 999 := by simp at hNN; omega
  have HA := Lib.hid (rarm_any x.id (nx x.w (g x.id) now) (g x.id) HM3.out HT.out.2 hfu hfg hm1 hNS hB3)
  have hdn : del x.id S = S := by
    have := (List.nodup_cons.1 HOK.out.ids).1
    exact del_none this
  have hgg : fput (fput g x.id 0) x.id (g x.id) = g := by
    rw [fput_two]; funext z; unfold fput; split
    · rename_i e; rw [e]
    · rfl
  rw [hdn, hgg] at HA
  clear a1 a2 a3 a4 a5 a6 hg hfx hfg hfu hdn hgg HM3
  generalize nx x.w (g x.id) now = u at *
  generalize ins ⟨x.id, u, (n : Int) + 1⟩ S = S2 at *
  have hne : p1 ≠ some w.heap.size := fun e => by
    rcases KQ.out.new with h1 | h1
    · exact HR0.out.2 (h1.symm.trans e)
    · have := h1 _ e; have := lt_of_blk D3.out; have := HB2.out.size; have h7 := h1 _ e; exact absurd (show w.heap.size < w2.heap.size from hdr2) (by omega)
  have hnv : p1 ≠ some s9 := fun e => by
    rcases KQ.out.new with h1 | h1
    · exact HV0.out.2 (h1.symm.trans e)
    · have := h1 _ e; exact absurd hsr2 (by omega)
  go_wp2_with fail
  refine (HN.out _).mono ?_
  rintro e w4 ⟨rfl, rfl⟩
  clear HN
  go_wp2_with fail
  refine HA.out.mono ?_
  rintro e w4 hr
  obtain ⟨p2, hm4, hk4⟩ := hr.2
  obtain rfl := hr.1
  have HM4 := Lib.hid hm4
  have HK4 := Lib.hid (HK3.out.trans hk4)
  have V4 := Lib.hid (V3.out.kt HV0.out.1 hnv hk4)
  have D4 := Lib.hid (D3.out.kt HR0.out.1 hne hk4)
  clear hr hm4 hk4 HA y0 y1 y2
  obtain ⟨y0, y1, y2⟩ := V4.out.cells
  have HF : Hid (MC B m rA rN p (n + 1) S2 g (.tuple #[vD x.id x.w now, .bool true]) w (.returned (.tuple #[vD x.id x.w now, .bool true])) (((w4.setCell ⟨w.heap.size, 0, none⟩ (.int .i64 x.id)).setCell ⟨w.heap.size, 1, none⟩ (.int .i64 x.w)).setCell ⟨w.heap.size, 2, none⟩ (.int .i64 now))) := MC.set3 (w0 := w) (HM4.out) HK4.out (Nat.le_refl _) D4.out x.id x.w now
  obtain ⟨d0, d1, d2, f0, f1, f2⟩ := D4.out.cells
  go_wp2_with fail
  refine bodyPost_ret (v := .tuple #[vD x.id x.w now, .bool true]) ?_ rfl HF.out
  rw [results_cell_tmp rfl]
  go_simp
end
end Go.Proofs.YtmadcnpkaijllaaGreat
namespace Go.Proofs.YtmadcnpkaijllaaGreat
open Go.RowKit
set_option linter.unusedVariables false
set_option maxRecDepth 100000
theorem remove_nil (k : Int) (w : World) : Calls Tryz.prog 95 #[.pointer none, .int .i64 k] w (IbR zI false w) := by
  go_enter Tryz.func95, Tryz.ntmps95
  go_wp2_with fail
  refine (place_nil k _).mono ?_
  rintro e w' ⟨rfl, rfl⟩
  go_wp2_with fail
  refine bodyPost_ret (v := .tuple #[.agg #[.int .i64 0, .int .i64 0, .int .i64 0], .bool false]) ?_ rfl ⟨rfl, ?_⟩
  · rw [results_cell_tmp rfl]; go_simp; try rfl
  · first | exact below_al _ _ | (repeat' (first | exact below_al _ _ | refine Below.alloc ?_ (by omega) _))
theorem del_nil {x : Int} (ty : TypeId) (w : World) : (Builtin.delete_ #[62, 3] ty #[.map none, .int .i64 x]).run Tryz.prog w = .ok (.tuple #[]) w := by kernel_rfl
theorem wp_ndrop {ops : Array Oper} {rest : List Oper} {op : Oper} {a : Act} {Q : Exit → Act → World → Prop} {x : Int} {w : World} (hg : op.guard = none) (u y : Operand) (hop : op.op = Op.call { callee := Callee.builtin Builtin.delete, args := #[u, y], argTypes := #[62, 3] })
    (hm : a.eval u = .map none) (hy : a.eval y = .int .i64 x) (hK : wpList Tryz.prog ops Q rest (a.put op.dst (.tuple #[])) w) : wpList Tryz.prog ops Q (op :: rest) a w := by
  refine wpList_plain hg fun K' hK' => ?_
  have hrun := @del_nil x op.type w
  unfold Oper.wp
  simp [execOp, hop, resolve, invoke, builtin, hm, hy, hrun, Result.andThen]
  exact hK' _ _ hK

/-- Not made yet. -/
def ZT (B t : Nat) (vA vL : Value) (w : World) : Prop := B ≤ t ∧ w.heap[t]? = some (.cells #[vA, .pointer none, .map none, vL] 66 (0, 0))
/-- New timers, by themselves. -/
def NewT (w : World) (e : Ending) (w' : World) : Prop :=
  ∃ r o b c, e = .returned (.pointer (some ⟨r, 0, none⟩)) ∧ w'.heap[r]? = some (.cells #[.pointer (some ⟨o, 0, none⟩), .map (some c)] 64 (0, 0)) ∧ (∀ B, B ≤ w.heap.size → HG B w' o b none 0 []) ∧ Pm w' c 0 (fun _ => 0) ∧ c ≠ b ∧ (w.heap.size ≤ o ∧ w.heap.size ≤ b ∧ w.heap.size ≤ c) ∧ Below w.heap.size w w'
theorem newt_at (w : World) : NewT w (.returned (.pointer (some ⟨w.heap.size + 3, 0, none⟩))) (((nwH w).alloc (.map #[] 0)).alloc (.cells #[.pointer (some ⟨w.heap.size + 1, 0, none⟩), .map (some (w.heap.size + 2))] 64)) := by
  have hn := new_at w
  change NewR w _ (nwH w) at hn
  have b1 := below_al (nwH w) (.map #[] 0)
  have b2 : Below (nwH w).heap.size (nwH w) (((nwH w).alloc (.map #[] 0)).alloc (.cells #[.pointer (some ⟨w.heap.size + 1, 0, none⟩), .map (some (w.heap.size + 2))] 64)) := b1.alloc (by simp) _
  refine ⟨w.heap.size + 3, w.heap.size + 1, w.heap.size, w.heap.size + 2, rfl, ?_, fun B hB => (hn.2.1 B hB).later b2, ?_, by omega, by omega, hn.2.2.trans (b2.mono hn.2.2.size)⟩
  · have := heap_alloc_new ((nwH w).alloc (.map #[] 0)) (.cells #[.pointer (some ⟨w.heap.size + 1, 0, none⟩), .map (some (w.heap.size + 2))] 64)
    rw [World.size_alloc, nwH_size] at this
    exact this
  · have h1 := Pm.new (nwH w)
    rw [nwH_size] at h1
    exact h1.keep (Below.heap_alloc _ _ _ (by rw [World.size_alloc, nwH_size]; omega))
theorem newt_any (w : World) : Calls Tryz.prog 100 #[] w (NewT w) := by
  have hmm := @run_makeMap Tryz.prog
  have hs := nwH_size w
  have hf := Lib.hid (newt_at w)
  go_enter Tryz.func100, Tryz.ntmps100
  go_wp2_with (go_at_call 106; (with_reducible refine (new_ex _).mono ?_); rintro e w' ⟨rfl, rfl⟩)
  go_ret
  exact hf.out
/-- No row of another kind has turned. -/
def OY (w w' : World) : Prop := ∀ (k : Nat) (cs : Array Value) (t : TypeId) (fr : Nat × Nat), w.heap[k]? = some (.cells cs t fr) → t ≠ 161 → t ≠ 139 → t ≠ 66 → w'.heap[k]? = some (.cells cs t fr)
theorem OY.refl (w : World) : OY w w := fun _ _ _ _ h _ _ _ => h
theorem OY.trans {u v w : World} (h : OY u v) (k : OY v w) : OY u w := fun i cs t fr h1 h2 h3 h4 => k i cs t fr (h i cs t fr h1 h2 h3 h4) h2 h3 h4
theorem OY.of_below {w w' : World} (h : Below w.heap.size w w') : OY w w' := fun k cs t fr h1 _ _ _ => (h.block k (lt_of_blk h1)).trans h1
theorem OX.oy {w w' : World} (h : OX w w') : OY w w' := fun k cs t fr h1 h2 h3 _ => h k cs t fr h1 h2 h3
/-- Timers, be they made or not. -/
def TU (B t : Nat) (vA vL : Value) (n : Nat) (S : List It) (g : Int → Int) (w : World) : Prop :=
  (ZT B t vA vL w ∧ n = 0 ∧ S = [] ∧ g = fun _ => 0) ∨ ∃ o b c, TN B t vA vL o b c n S g w
def XU (B t : Nat) (vA vL : Value) (n : Nat) (S : List It) (g : Int → Int) (v : Value) (w : World) (e : Ending) (w' : World) : Prop :=
  e = .returned v ∧ TU B t vA vL n S g w' ∧ Below B w w' ∧ OY w w'
section
variable {B t o b c n n' N N' : Nat} {vA vL : Value} {p p' : Option Nat} {S S' : List It} {g g' : Int → Int} {w w' : World} {e : Ending} {v : Value}
theorem XR.xu (h : XR B t vA vL o b c n S g v w e w') : XU B t vA vL n S g v w e w' := ⟨h.1, .inr ⟨o, b, c, h.2.1⟩, h.2.2.1, h.2.2.2.oy⟩
theorem ZT.later (h : ZT B t vA vL w) (hb : Below w.heap.size w w') : ZT B t vA vL w' := ⟨h.1, (hb.block _ (lt_of_blk h.2)).trans h.2⟩
theorem ZT.c0 (h : ZT B t vA vL w) : w.cell? ⟨t, 1, none⟩ = some (.pointer none) := by rw [cell_of_row w t 1 _ _ _ h.2]; rfl
theorem ZT.c1 (h : ZT B t vA vL w) : w.cell? ⟨t, 2, none⟩ = some (.map none) := by rw [cell_of_row w t 2 _ _ _ h.2]; rfl
theorem ZT.fz (h : ZT B t vA vL w) (i : Nat) : w.frozen? ⟨t, i, none⟩ = false := frozen_of_row w t i _ _ h.2
theorem ZT.hB (h : ZT B t vA vL w) : B ≤ w.heap.size := by have := lt_of_blk h.2; have := h.1; omega
theorem ZT.xu (h : ZT B t vA vL w) (hr : e = .returned v ∧ Below w.heap.size w w') : XU B t vA vL 0 [] (fun _ => 0) v w e w' :=
  ⟨hr.1, .inl ⟨h.later hr.2, rfl, rfl, rfl⟩, hr.2.mono h.hB, OY.of_below hr.2⟩
set_option maxHeartbeats 4000000 in
theorem zt_stop (k : Int) (h : ZT B t vA vL w) : Calls Tryz.prog 77 #[pT t, .int .i64 k] w fun e w' => e = .returned (.bool false) ∧ Below w.heap.size w w' := by
  have HA := Lib.hid h
  have c0 := h.c0
  clear h
  go_enter Tryz.func77, Tryz.ntmps77
  go_wp2_with fail
  refine (remove_nil k _).mono ?_
  rintro e w1 ⟨rfl, hb⟩
  have HB2 : Hid (Below w.heap.size w (w1.alloc (.cells #[.int .i64 zI.id, .int .i64 zI.w, .int .i64 zI.s] 139))) := hb.trans ((below_al w1 _).mono hb.size)
  clear hb
  go_upto_region 4 with (fail)
  generalize w1.alloc (.cells #[.int .i64 zI.id, .int .i64 zI.w, .int .i64 zI.s] 139) = w2 at *
  have H1 := Lib.hid (HA.out.later HB2.out)
  clear HA c0
  have c1 := H1.out.c1
  go_wp2_with (at_delete; go_loud (refine wp_ndrop rfl (.tmp 21) (.tmp 22) rfl rfl rfl ?_))
  go_ret
  exact ⟨rfl, HB2.out⟩
theorem zt_next (h : ZT B t vA vL w) : Calls Tryz.prog 71 #[pT t] w (InR 0 false w) := by
  have c0 := h.c0
  clear h
  go_enter Tryz.func71, Tryz.ntmps71
  go_wp2_with fail
  refine (min_nil _).mono ?_
  rintro e w1 ⟨rfl, hb⟩
  have HB2 : Hid (Below w.heap.size w (w1.alloc (.cells #[.int .i64 zI.id, .int .i64 zI.w, .int .i64 zI.s] 139))) := hb.trans ((below_al w1 _).mono hb.size)
  clear hb
  go_wp2_with fail
  go_ret2
  exact ⟨rfl, HB2.out⟩
set_option maxHeartbeats 4000000 in
theorem zt_take {now : Int} (h : ZT B t vA vL w) : Calls Tryz.prog 42 #[pT t, .int .i64 now] w (DbR 0 0 0 false w) := by
  have c0 := h.c0
  have ht := lt_of_blk h.2
  have HA := Lib.hid (h.later (below_al w (.cells #[.int .i64 0, .int .i64 0, .int .i64 0] 97)))
  have D1 := Lib.hid (Dbk.new w 0 0 0)
  have HB1 := Lib.hid (below_al w (.cells #[.int .i64 0, .int .i64 0, .int .i64 0] 97))
  clear h
  go_enter Tryz.func42, Tryz.ntmps42
  go_wp2_with fail
  refine (min_nil _).mono ?_
  rintro e w1 ⟨rfl, hb⟩
  generalize w.alloc (.cells #[.int .i64 0, .int .i64 0, .int .i64 0] 97) = wa at *
  have HA1 := Lib.hid (HA.out.later hb)
  have D1 := Lib.hid (D1.out.later hb)
  have HB1 := Lib.hid (HB1.out.trans (hb.mono HB1.out.size))
  clear hb HA
  have X1 := Lib.hid (Blk.new w1 zI)
  have HA := Lib.hid (HA1.out.later (below_al w1 (.cells #[.int .i64 zI.id, .int .i64 zI.w, .int .i64 zI.s] 139)))
  have D1 := Lib.hid (D1.out.later (below_al w1 (.cells #[.int .i64 zI.id, .int .i64 zI.w, .int .i64 zI.s] 139)))
  have HB1 := Lib.hid (HB1.out.trans ((below_al w1 (.cells #[.int .i64 zI.id, .int .i64 zI.w, .int .i64 zI.s] 139)).mono HB1.out.size))
  clear HA1
  go_upto_region 4 with (fail)
  generalize w1.alloc (.cells #[.int .i64 zI.id, .int .i64 zI.w, .int .i64 zI.s] 139) = w2 at *
  generalize w1.heap.size = s at *
  clear c0 ht
  have c0 := HA.out.c0
  obtain ⟨x0, x1, x2, _⟩ := X1.out.cells
  obtain ⟨d0, d1, d2, f0, f1, f2⟩ := D1.out.cells
  go_wp2_with fail
  refine bodyPost_ret (v := .tuple #[vD 0 0 0, .bool false]) ?_ rfl ⟨rfl, below_set3 HB1.out (Nat.le_refl _)⟩
  rw [results_cell_tmp rfl]
  go_simp
theorem ZT.made {w1 : World} {r : Nat} (h : ZT B t vA vL w) (hb : Below w.heap.size w w1) (hG : HG B w1 o b none 0 []) (pm : Pm w1 c 0 (fun _ => 0)) (hne : c ≠ b) (hs : w.heap.size ≤ o ∧ w.heap.size ≤ b ∧ w.heap.size ≤ c) :
    TT B t vA vL o b c none 0 0 [] (fun _ => 0) ((w1.setCell ⟨t, 1, none⟩ (.pointer (some ⟨o, 0, none⟩))).setCell ⟨t, 2, none⟩ (.map (some c))) ∧ Below B w ((w1.setCell ⟨t, 1, none⟩ (.pointer (some ⟨o, 0, none⟩))).setCell ⟨t, 2, none⟩ (.map (some c))) ∧ OY w ((w1.setCell ⟨t, 1, none⟩ (.pointer (some ⟨o, 0, none⟩))).setCell ⟨t, 2, none⟩ (.map (some c))) := by
  have hlt := lt_of_blk h.2
  have hB := h.hB
  have h1 := h.1
  have key : ∀ k, k ≠ t → ((w1.setCell ⟨t, 1, none⟩ (.pointer (some ⟨o, 0, none⟩))).setCell ⟨t, 2, none⟩ (.map (some c))).heap[k]? = w1.heap[k]? := fun k hk =>
    (Below.heap_setCell _ _ _ _ (by exact hk)).trans (Below.heap_setCell _ _ _ _ (by exact hk))
  have e0 := (hb.block t hlt).trans h.2
  have e1 := heap_setCell_same w1 t 1 _ _ (.pointer (some ⟨o, 0, none⟩)) e0
  have e2 := heap_setCell_same _ t 2 _ _ (.map (some c)) e1
  refine ⟨⟨hG.keep (key o (by omega)) (key b (by omega)) (fun k hk => (by cases hk)), e2, pm.keep (key c (by omega)), Ok.nil 0, h1, by omega, hne⟩, ((hb.mono hB).setCell h1 _).setCell h1 _, fun k cs ty fr a1 a2 a3 a4 => ?_⟩
  rw [key k ?_, hb.block k (lt_of_blk a1)]
  · exact a1
  · rintro rfl
    have := h.2
    rw [a1] at this; injection this with this; injection this with _ this _; exact a4 this
set_option maxHeartbeats 8000000 in
theorem zt_arm (k x y : Int) (h : ZT B t vA vL w) (hk : Wf k) (hx : Fit x) (hy : Fit y) :
    Calls Tryz.prog 81 #[pT t, .int .i64 k, .int .i64 x, .int .i64 y] w (XU B t vA vL 1 [⟨k, x, 1⟩] (fput (fun _ => 0) k y) (.int .i64 0) w) := by
  have F1 := fun w => fits_yes x w hx.1 hx.2
  have F2 := fun w => fits_yes y w hy.1 hy.2
  have HA := Lib.hid h
  have HX := Lib.hid (And.intro hx hy)
  have hwy := wf_fit hy
  have c0 := h.c0
  have f1 := h.fz 1
  have f2 := h.fz 2
  have hml : (0 : Nat) < maxLen := by unfold maxLen; omega
  have hy0 := hy.1
  clear h hx hy
  have hm : k ∉ ids [] := by simp [ids]
  go_enter Tryz.func81, Tryz.ntmps81
  go_wp2_with (go_at_call 99; first | ((with_reducible refine (F1 _).mono ?_); rintro e w' ⟨rfl, rfl⟩) | ((with_reducible refine (F2 _).mono ?_); rintro e w' ⟨rfl, rfl⟩))
  refine (newt_any w).mono ?_
  rintro e w1 ⟨r, o, b, c, rfl, hr, hG, pm, hne, hs, hb⟩
  have q0 : w1.cell? ⟨r, 0, none⟩ = some (.pointer (some ⟨o, 0, none⟩)) := by rw [cell_of_row w1 r 0 _ _ _ hr]; rfl
  have q1 : w1.cell? ⟨r, 1, none⟩ = some (.map (some c)) := by rw [cell_of_row w1 r 1 _ _ _ hr]; rfl
  have HM := Lib.hid (HA.out.made (r := r) hb (hG B HA.out.hB) pm hne hs)
  clear c0 f1 f2
  have f1 := (HA.out.later hb).fz 1
  have f2 := (HA.out.later hb).fz 2
  have d0 := (HA.out.later hb).c0
  have d1 := (HA.out.later hb).c1
  clear hr hG pm hne hs hb
  go_upto_region 5 with (fail)
  generalize (w1.setCell ⟨t, 1, none⟩ (.pointer (some ⟨o, 0, none⟩))).setCell ⟨t, 2, none⟩ (.map (some c)) = wz at *
  have c0 := HM.out.1.c0
  clear q0 q1 f1 f2 d0 d1
  go_wp2_with fail
  refine (move_no k x HM.out.1.hg hk hm).mono ?_
  rintro e w1 ⟨rfl, rfl⟩
  go_wp2_with fail
  refine (add_new k x HM.out.1.hg HM.out.1.ok hk hm (by omega) (by decide) HM.out.1.hB).mono ?_
  rintro e w1 hr
  have hr := HM.out.1.go (HM.out.1.ok.ins k x hm) hr
  have HT := Lib.hid hr.2
  obtain rfl := hr.1
  clear hr c0
  obtain ⟨p1, h1, h2⟩ := HT.out
  have c1 := h1.c1
  have H1 := Lib.hid h1
  have H2 := Lib.hid h2
  clear h1 h2 HT
  by_cases hp : 0 < y
  · go_wp2_with (first
      | (at_delete; go_loud (refine wp_pdrop rfl (.tmp 49) (.tmp 50) rfl H1.out.pm hk rfl rfl ?_; intro w2 ht pm; have H3 := Lib.hid (H1.out.mapped ht pm); have c12 := H3.out.1.c1; clear ht pm))
      | (at_mapUpdate; go_loud (refine wp_pstore rfl (.tmp 56) (.tmp 57) (.tmp 58) rfl H3.out.1.pm hk hwy hml rfl rfl rfl ?_; intro w3 ht pm; have H4 := Lib.hid (H3.out.1.mapped ht pm); clear ht pm)))
    go_ret
    have h4 := H4.out.1
    rw [fput_two] at h4
    have ht := H2.out.trans (H3.out.2.trans H4.out.2)
    exact ⟨rfl, .inr ⟨o, b, c, p1, 1, Nat.le_refl _, h4⟩, HM.out.2.1.trans (HM.out.1.low ht), HM.out.2.2.trans (HM.out.1.ox ht).oy⟩
  · obtain rfl : y = 0 := by omega
    go_wp2_with (first
      | (at_delete; go_loud (refine wp_pdrop rfl (.tmp 49) (.tmp 50) rfl H1.out.pm hk rfl rfl ?_; intro w2 ht pm; have H3 := Lib.hid (H1.out.mapped ht pm); have c12 := H3.out.1.c1; clear ht pm)))
    go_ret
    have ht := H2.out.trans H3.out.2
    exact ⟨rfl, .inr ⟨o, b, c, p1, 1, Nat.le_refl _, H3.out.1.more⟩, HM.out.2.1.trans (HM.out.1.low ht), HM.out.2.2.trans (HM.out.1.ox ht).oy⟩

/-! What each call makes of them. -/
theorem TU.later (h : TU B t vA vL n S g w) (hb : Below w.heap.size w w') : TU B t vA vL n S g w' := by
  rcases h with ⟨h, r⟩ | ⟨o, b, c, h⟩
  · exact .inl ⟨h.later hb, r⟩
  · exact .inr ⟨o, b, c, h.later hb⟩
theorem TU.hB (h : TU B t vA vL n S g w) : B ≤ w.heap.size := by
  rcases h with ⟨h, r⟩ | ⟨o, b, c, h⟩
  · exact h.hB
  · exact h.hB
theorem TU.ok (h : TU B t vA vL n S g w) : Ok n S := by
  rcases h with ⟨h, rfl, rfl, rfl⟩ | ⟨o, b, c, h⟩
  · exact Ok.nil 0
  · exact h.ok
theorem TU.blk (h : TU B t vA vL n S g w) : B ≤ t ∧ ∃ u v, w.heap[t]? = some (.cells #[vA, u, v, vL] 66 (0, 0)) := by
  rcases h with ⟨h, r⟩ | ⟨o, b, c, p, N, hN, h⟩
  · exact ⟨h.1, _, _, h.2⟩
  · exact ⟨h.gt, _, _, h.ht⟩
theorem TU.wf (h : TU B t vA vL n S g w) {x : It} (hx : x ∈ S) : Wf x.id := by
  rcases h with ⟨h, rfl, rfl, rfl⟩ | ⟨o, b, c, p, N, hN, h⟩
  · cases hx
  · exact h.hg.wf hx
theorem fput_zero (k : Int) : fput (fun _ => (0 : Int)) k 0 = fun _ => 0 := by funext z; unfold fput; split <;> rfl
theorem tu_arm (k x y : Int) (h : TU B t vA vL n S g w) (hk : Wf k) (hx : Fit x) (hy : Fit y) (hn : n ≤ 1000000) (hl : S.length < 1000) : Calls Tryz.prog 81 #[pT t, .int .i64 k, .int .i64 x, .int .i64 y] w (XU B t vA vL (n + 1) (ins ⟨k, x, (n : Int) + 1⟩ (del k S)) (fput g k y) (.int .i64 0) w) := by
  rcases h with ⟨h, rfl, rfl, rfl⟩ | ⟨o, b, c, h⟩
  · exact zt_arm k x y h hk hx hy
  · exact (tn_arm k x y h hk hx hy hn hl).mono fun _ _ r => r.xu
theorem tu_stop (k : Int) (h : TU B t vA vL n S g w) (hk : Wf k) (hl : S.length ≤ 1000) : Calls Tryz.prog 77 #[pT t, .int .i64 k] w (XU B t vA vL n (del k S) (fput g k 0) (.bool (decide (k ∈ ids S))) w) := by
  rcases h with ⟨h, rfl, rfl, rfl⟩ | ⟨o, b, c, h⟩
  · refine (zt_stop k h).mono fun e w' r => ?_
    have := h.xu r
    rwa [← fput_zero k] at this
  · by_cases hm : k ∈ ids S
    · obtain ⟨i, y, hi, hy⟩ := ids_mem hm
      rw [decide_eq_true hm]
      subst hy
      exact (tn_stop_yes h (List.mem_of_getElem? hi) hl).mono fun _ _ r => r.xu
    · rw [decide_eq_false hm, del_none hm]
      exact (tn_stop_no h hk hm).mono fun _ _ r => r.xu
/-- When the first one is due, and whether there is one. -/
def nxt : List It → Int × Bool
  | [] => (0, false)
  | x :: _ => (x.w, true)
theorem tu_next (h : TU B t vA vL n S g w) (hl : S.length ≤ 1000) : Calls Tryz.prog 71 #[pT t] w (XU B t vA vL n S g (.tuple #[.int .i64 (nxt S).1, .bool (nxt S).2]) w) := by
  rcases h with ⟨h, rfl, rfl, rfl⟩ | ⟨o, b, c, h⟩
  · exact (zt_next h).mono fun e w' r => h.xu r
  · cases S with
    | nil => exact (tn_next_no h).mono fun _ _ r => r.xu
    | cons x S => exact (tn_next h hl).mono fun _ _ r => r.xu
theorem tu_take_no {now : Int} (h : TU B t vA vL n S g w) (hl : S.length ≤ 1000) (hi : Idle now S) : Calls Tryz.prog 42 #[pT t, .int .i64 now] w (XU B t vA vL n S g (.tuple #[vD 0 0 0, .bool false]) w) := by
  rcases h with ⟨h, rfl, rfl, rfl⟩ | ⟨o, b, c, h⟩
  · exact (zt_take h).mono fun e w' r => h.xu r
  · exact (tn_take_no h hl hi).mono fun _ _ r => r.xu
theorem tu_take_end {x : It} {now : Int} (h : TU B t vA vL n (x :: S) g w) (hl : (x :: S).length ≤ 1000) (hw : x.w ≤ now) (hg : ¬ Gon x.w (g x.id) now) : Calls Tryz.prog 42 #[pT t, .int .i64 now] w (XU B t vA vL n S (fput g x.id 0) (.tuple #[vD x.id x.w now, .bool true]) w) := by
  rcases h with ⟨h, rfl, e, rfl⟩ | ⟨o, b, c, h⟩
  · cases e
  · exact (tn_take_end h hl hw hg).mono fun _ _ r => r.xu
theorem tu_take_on {x : It} {now : Int} (h : TU B t vA vL n (x :: S) g w) (hn : n ≤ 1000000) (hl : (x :: S).length ≤ 1000) (hw : x.w ≤ now) (hg : Gon x.w (g x.id) now) : Calls Tryz.prog 42 #[pT t, .int .i64 now] w (XU B t vA vL (n + 1) (ins ⟨x.id, nx x.w (g x.id) now, (n : Int) + 1⟩ S) g (.tuple #[vD x.id x.w now, .bool true]) w) := by
  rcases h with ⟨h, rfl, e, rfl⟩ | ⟨o, b, c, h⟩
  · cases e
  · exact (tn_take_on h hn hl hw hg).mono fun _ _ r => r.xu
end
end Go.Proofs.YtmadcnpkaijllaaGreat
