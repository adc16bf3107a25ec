/- The document's own timers: Take. Conditions: each theorem's own premises. -/
import Derived.Test.YtbpoippgioincaaQar
namespace Go.Proofs.Ytbpoippgioincaa
open Go.RowKit
set_option linter.unusedVariables false
set_option maxRecDepth 100000
/-- A block of one that is due, the document's. -/
def Rbk (w : World) (s : Nat) (i x y : Int) : Prop := w.heap[s]? = some (.cells #[.int .i64 i, .int .i64 x, .int .i64 y] 66 (0, 0))
/-- A block of an item of the document's. -/
def Ibk (w : World) (s : Nat) (x : It) : Prop := w.heap[s]? = some (.cells #[.int .i64 x.id, .int .i64 x.w, .int .i64 x.s] 39 (0, 0))
section
variable {B m n d2 c s : Nat} {w w' w1 : World} {A P : Option Addr} {p p' : Option Nat} {S S' Q : List It} {g g' : Int → Int} {e : Ending} {v : Value} {i x y : Int} {z : It}
theorem Rbk.later (h : Rbk w s i x y) (hb : Below w.heap.size w w') : Rbk w' s i x y := (hb.block s (lt_of_blk h)).trans h
theorem Ibk.later (h : Ibk w s z) (hb : Below w.heap.size w w') : Ibk w' s z := (hb.block s (lt_of_blk h)).trans h
theorem Rbk.kt (h : Rbk w s i x y) (hm : s ≠ m) (hp : p ≠ some s) (hc : KT m p p' w w') : Rbk w' s i x y := (hc.block s (lt_of_blk h) hm hp).trans h
theorem Ibk.kt (h : Ibk w s z) (hm : s ≠ m) (hp : p ≠ some s) (hc : KT m p p' w w') : Ibk w' s z := (hc.block s (lt_of_blk h) hm hp).trans h
theorem Rbk.cells (h : Rbk w s i x y) : w.cell? ⟨s, 0, none⟩ = some (.int .i64 i) ∧ w.cell? ⟨s, 1, none⟩ = some (.int .i64 x) ∧ w.cell? ⟨s, 2, none⟩ = some (.int .i64 y) ∧ w.frozen? ⟨s, 0, none⟩ = false ∧ w.frozen? ⟨s, 1, none⟩ = false ∧ w.frozen? ⟨s, 2, none⟩ = false :=
  ⟨by rw [cell_of_row w s 0 _ _ _ h]; rfl, by rw [cell_of_row w s 1 _ _ _ h]; rfl, by rw [cell_of_row w s 2 _ _ _ h]; rfl, frozen_of_row w s 0 _ _ h, frozen_of_row w s 1 _ _ h, frozen_of_row w s 2 _ _ h⟩
theorem Ibk.cells (h : Ibk w s z) : w.cell? ⟨s, 0, none⟩ = some (.int .i64 z.id) ∧ w.cell? ⟨s, 1, none⟩ = some (.int .i64 z.w) ∧ w.cell? ⟨s, 2, none⟩ = some (.int .i64 z.s) :=
  ⟨by rw [cell_of_row w s 0 _ _ _ h]; rfl, by rw [cell_of_row w s 1 _ _ _ h]; rfl, by rw [cell_of_row w s 2 _ _ _ h]; rfl⟩
theorem KT.set (h : KT m p p' w w') (hs : w.heap.size ≤ s) (j : Nat) (v : Value) : KT m p p' w (w'.setCell ⟨s, j, none⟩ v) :=
  ⟨h.os, h.tape, h.output, by have := h.size; simpa [World.setCell] using this, fun k hk a1 a2 => (Below.heap_setCell _ _ _ _ (show k ≠ s by omega)).trans (h.block k hk a1 a2), h.new⟩
/-- A store into a row of another kind. -/
theorem MT.cell (h : MT B m p n S g w) {ty j : Nat} {cs : Array Value} {fr : Nat × Nat} (ht : w.heap[s]? = some (.cells cs ty fr)) (h1 : ty ≠ 56) (h2 : ty ≠ 39) (v : Value) : MT B m p n S g (w.setCell ⟨s, j, none⟩ v) := by
  obtain ⟨A, c, P, c2, Q, e0, hy, hq⟩ := h
  have key : ∀ k, k ≠ s → (w.setCell ⟨s, j, none⟩ v).heap[k]? = w.heap[k]? := fun k hk => Below.heap_setCell _ _ _ _ (by exact hk)
  have t39 : ∀ k cur fr', w.heap[k]? = some (.cells cur 39 fr') → k ≠ s := by
    rintro k cur fr' hk rfl
    rw [ht] at hk; injection hk with hk; injection hk with _ hk _; exact h2 hk
  refine ⟨A, c, P, c2, Q, e0, ⟨⟨(key m ?_).trans hy.mx.hb, hy.mx.wn.keep fun g cur _ hg => (key g (t39 _ _ _ hg)).trans hg, hy.mx.lo, hy.mx.nn, hy.mx.ty⟩, row_keep hy.row fun k hk => key k ?_, hy.ap⟩, hq⟩
  · rintro rfl
    have h4 := hy.mx.hb
    rw [ht] at h4; injection h4 with h4; injection h4 with _ h4 _; exact h1 h4
  · obtain ⟨cs', fr', h4⟩ := row_tag hy.row hk
    exact t39 _ _ _ h4
theorem MC.set3 {w0 : World} {u : Value} (h : MT B m p' n S g w') (h0 : KT m p p' w w') (hs : w.heap.size ≤ s) (hd : Rbk w' s i x y) (i' x' y' : Int) :
    MC B m p n S g u w (.returned u) (((w'.setCell ⟨s, 0, none⟩ (.int .i64 i')).setCell ⟨s, 1, none⟩ (.int .i64 x')).setCell ⟨s, 2, none⟩ (.int .i64 y')) := by
  have e1 := heap_setCell_same w' s 0 _ _ (.int .i64 i') hd
  have e2 := heap_setCell_same _ s 1 _ _ (.int .i64 x') e1
  exact ⟨rfl, p', ((h.cell hd (by decide) (by decide) _).cell e1 (by decide) (by decide) _).cell e2 (by decide) (by decide) _, ((h0.set hs 0 _).set hs 1 _).set hs 2 _⟩
set_option maxHeartbeats 4000000 in
theorem rtake_neg {now : Int} (h : MT B m p n S g w) (hn : now < 0) : Calls Try.prog 35 #[.pointer (some ⟨m, 0, none⟩), .int .i64 now] w (DbR 0 0 0 false w) := by
  have HM := Lib.hid (h.later (below_al w (.cells #[.int .i64 0, .int .i64 0, .int .i64 0] 66)))
  have D1 : Hid (Rbk (w.alloc (.cells #[.int .i64 0, .int .i64 0, .int .i64 0] 66)) w.heap.size 0 0 0) := heap_alloc_new w _
  have HB1 := Lib.hid (below_al w (.cells #[.int .i64 0, .int .i64 0, .int .i64 0] 66))
  clear h
  go_enter Try.func35, Try.ntmps35
  go_upto_region 1 with (fail)
  generalize w.alloc (.cells #[.int .i64 0, .int .i64 0, .int .i64 0] 66) = w2 at *
  obtain ⟨d0, d1, d2, f0, f1, f2⟩ := D1.out.cells
  have hdr := lt_of_blk D1.out
  go_wp2_with fail
  refine bodyPost_ret (v := .tuple #[vD 0 0 0, .bool false]) ?_ rfl ⟨rfl, below_set3 HB1.out (Nat.le_refl _)⟩
  rw [results_cell_tmp rfl]
  go_simp
set_option maxHeartbeats 4000000 in
theorem rtake_empty {now : Int} (h : MT B m p n [] g w) (hn : ¬ now < 0) : Calls Try.prog 35 #[.pointer (some ⟨m, 0, none⟩), .int .i64 now] w (DbR 0 0 0 false w) := by
  have HM := Lib.hid (h.later (below_al w (.cells #[.int .i64 0, .int .i64 0, .int .i64 0] 66)))
  have D1 : Hid (Rbk (w.alloc (.cells #[.int .i64 0, .int .i64 0, .int .i64 0] 66)) w.heap.size 0 0 0) := heap_alloc_new w _
  have HB1 := Lib.hid (below_al w (.cells #[.int .i64 0, .int .i64 0, .int .i64 0] 66))
  clear h
  go_enter Try.func35, Try.ntmps35
  go_upto_region 1 with (fail)
  generalize w.alloc (.cells #[.int .i64 0, .int .i64 0, .int .i64 0] 66) = w2 at *
  obtain ⟨d0, d1, d2, f0, f1, f2⟩ := D1.out.cells
  have hdr := lt_of_blk D1.out
  obtain ⟨A, c, P, c2, Q, rfl, h1, h2⟩ := HM.out
  have c0 := h1.c0
  simp only [List.length_nil] at c0
  clear h1 h2
  go_wp2_with fail
  refine bodyPost_ret (v := .tuple #[vD 0 0 0, .bool false]) ?_ rfl ⟨rfl, below_set3 HB1.out (Nat.le_refl _)⟩
  rw [results_cell_tmp rfl]
  go_simp
set_option maxHeartbeats 4000000 in
theorem rtake_early {x : It} {now : Int} (h : MT B m p n (x :: S) g w) (hn : ¬ now < 0) (hw : now < x.w) : Calls Try.prog 35 #[.pointer (some ⟨m, 0, none⟩), .int .i64 now] w (DbR 0 0 0 false w) := by
  have HM := Lib.hid (h.later (below_al w (.cells #[.int .i64 0, .int .i64 0, .int .i64 0] 66)))
  have D1 : Hid (Rbk (w.alloc (.cells #[.int .i64 0, .int .i64 0, .int .i64 0] 66)) w.heap.size 0 0 0) := heap_alloc_new w _
  have HB1 := Lib.hid (below_al w (.cells #[.int .i64 0, .int .i64 0, .int .i64 0] 66))
  clear h
  go_enter Try.func35, Try.ntmps35
  go_upto_region 1 with (fail)
  generalize w.alloc (.cells #[.int .i64 0, .int .i64 0, .int .i64 0] 66) = w2 at *
  obtain ⟨d0, d1, d2, f0, f1, f2⟩ := D1.out.cells
  have hdr := lt_of_blk D1.out
  obtain ⟨A, c, P, c2, Q, rfl, h1, h2⟩ := HM.out
  have c0 := h1.c0
  have hml := h1.lt
  obtain ⟨gw, off, rfl, -, hgw, hc⟩ := h1.mx.wn.cells (by simp)
  obtain ⟨x0, x1, x2⟩ := hc 0 x rfl
  simp only [Nat.zero_mul, Nat.add_zero] at x0 x1 x2
  have q0 : ((x :: S).length == 0) = false := by simp
  have q1 : (((x :: S).length : Int) == 0) = false := beq_eq_false_iff_ne.2 (by simp <;> omega)
  have q2 : (0 : Int) < ((x :: S).length : Int) := by simp <;> omega
  generalize (x :: S).length = N at *
  clear h2 hc
  clear h1
  go_wp2_with fail
  refine bodyPost_ret (v := .tuple #[vD 0 0 0, .bool false]) ?_ rfl ⟨rfl, below_set3 HB1.out (Nat.le_refl _)⟩
  rw [results_cell_tmp rfl]
  go_simp
set_option maxHeartbeats 8000000 in
theorem rtake_end {x : It} {now : Int} (h : MT B m p n (x :: S) g w) (hS : Ok n (x :: S)) (hl : (x :: S).length ≤ 999) (hm1 : n ≤ 1000000) (hB : B ≤ w.heap.size) (hn : ¬ now < 0) (hw : x.w ≤ now) (hfx : Fit x.w) (hfg : Fit (g x.id)) (hg : ¬ Gon x.w (g x.id) now) :
    Calls Try.prog 35 #[.pointer (some ⟨m, 0, none⟩), .int .i64 now] w (MC B m p n S (fput g x.id 0) (.tuple #[vD x.id x.w now, .bool true]) w) := by
  have hw2 : ¬ now < x.w := by omega
  have hgm := mem_ids (show x ∈ x :: S by simp)
  have HR0 : Hid (w.heap.size ≠ m ∧ p ≠ some w.heap.size) := ⟨by have := h.lt; omega, fun e => by have := (h.lp e).2; omega⟩
  have HM := Lib.hid (h.later (below_al w (.cells #[.int .i64 0, .int .i64 0, .int .i64 0] 66)))
  have D1 : Hid (Rbk (w.alloc (.cells #[.int .i64 0, .int .i64 0, .int .i64 0] 66)) w.heap.size 0 0 0) := heap_alloc_new w _
  have HB1 := Lib.hid (below_al w (.cells #[.int .i64 0, .int .i64 0, .int .i64 0] 66))
  have HPer := Lib.hid (fun w2 hb => rper_yes (h.later (w' := w2) hb) hgm hS.ids (by omega))
  have HOK := Lib.hid hS
  have HT := Lib.hid hS.tail
  clear h hgm hS
  go_enter Try.func35, Try.ntmps35
  go_upto_region 1 with (fail)
  generalize w.alloc (.cells #[.int .i64 0, .int .i64 0, .int .i64 0] 66) = wa at *
  obtain ⟨d0, d1, d2, f0, f1, f2⟩ := D1.out.cells
  have hdr := lt_of_blk D1.out
  have HPer2 := Lib.hid (HPer.out wa HB1.out)
  have HM9 := Lib.hid HM.out
  have hlN := hl
  obtain ⟨A, c, P, c2, Q, e0, h1, h2⟩ := HM.out
  have c0 := h1.c0
  have hml := h1.lt
  obtain ⟨gw, off, rfl, -, hgw, hc⟩ := h1.mx.wn.cells (by simp)
  obtain ⟨x0, x1, x2⟩ := hc 0 x rfl
  simp only [Nat.zero_mul, Nat.add_zero] at x0 x1 x2
  have q0 : ((x :: S).length == 0) = false := by simp
  have q1 : (((x :: S).length : Int) == 0) = false := beq_eq_false_iff_ne.2 (by simp <;> omega)
  have q2 : (0 : Int) < ((x :: S).length : Int) := by simp <;> omega
  generalize hNN : (x :: S).length = N at *
  clear h2 hc h1 e0
  go_wp2_with fail
  have V1 : Hid (Ibk (wa.alloc (.cells #[.int .i64 x.id, .int .i64 x.w, .int .i64 x.s] 39)) wa.heap.size x) := heap_alloc_new wa _
  have HB2 := Lib.hid (HB1.out.trans ((below_al wa (.cells #[.int .i64 x.id, .int .i64 x.w, .int .i64 x.s] 39)).mono HB1.out.size))
  have HM2 := Lib.hid (HM9.out.later (below_al wa (.cells #[.int .i64 x.id, .int .i64 x.w, .int .i64 x.s] 39)))
  have D2 := Lib.hid (D1.out.later (below_al wa (.cells #[.int .i64 x.id, .int .i64 x.w, .int .i64 x.s] 39)))
  have HPer3 := Lib.hid (HPer.out _ HB2.out)
  have HV0 : Hid (wa.heap.size ≠ m ∧ p ≠ some wa.heap.size) := ⟨by have := HM9.out.lt; omega, fun e => by have := (HM9.out.lp e).2; omega⟩
  clear c0 x0 x1 x2 d0 d1 d2 f0 f1 f2 D1 HM HM9 HPer HPer2 HB1 hgw hdr
  generalize wa.alloc (.cells #[.int .i64 x.id, .int .i64 x.w, .int .i64 x.s] 39) = w2 at *
  generalize wa.heap.size = s9 at *
  obtain ⟨y0, y1, y2⟩ := V1.out.cells
  refine HPer3.out.mono ?_
  rintro e w3 ⟨rfl, rfl⟩
  have hB2 : B ≤ w2.heap.size := by have := HB2.out.size; omega
  have HSt := Lib.hid (rstop_yes HM2.out HOK.out (show x ∈ x :: S by simp) (by omega) hB2)
  rw [HT.out.1] at HSt
  clear HPer3 HM2
  go_wp2_with fail
  refine HSt.out.mono ?_
  rintro e w3 hr
  obtain ⟨p1, hm3, hk3⟩ := hr.2
  obtain rfl := hr.1
  have HM3 := Lib.hid hm3
  have HK3 := Lib.hid ((KT.of_below p HB2.out).trans hk3)
  have V3 := Lib.hid (V1.out.kt HV0.out.1 HV0.out.2 hk3)
  have D3 := Lib.hid (D2.out.kt HR0.out.1 HR0.out.2 hk3)
  have KQ := Lib.hid hk3
  clear hr hm3 HSt V1 D2 y0 y1 y2
  obtain ⟨y0, y1, y2⟩ := V3.out.cells
  by_cases hp : 0 < g x.id
  · obtain ⟨f1, f2⟩ := hfx
    obtain ⟨f3, f4⟩ := hfg
    by_cases hb : now ≤ 4611686018427387904
    · have HN : Hid (∀ w, Calls Try.prog 53 #[.int .i64 x.w, .int .i64 (g x.id), .int .i64 now] w fun e w' => e = .returned (.tuple #[.int .i64 (nx x.w (g x.id) now), .int .i64 0]) ∧ w = w') := fun w => rnext_yes _ _ _ w (by omega) (by omega) (by omega) (by omega) (by omega) (by omega)
      have hu : ¬ now < (nx x.w (g x.id) now) := fun e => hg ⟨by simp [nxB]; omega, e⟩
      generalize (nx x.w (g x.id) now) = u at *
      have HF : Hid (MC B m p n S (fput g x.id 0) (.tuple #[vD x.id x.w now, .bool true]) w (.returned (.tuple #[vD x.id x.w now, .bool true])) (((w3.setCell ⟨w.heap.size, 0, none⟩ (.int .i64 x.id)).setCell ⟨w.heap.size, 1, none⟩ (.int .i64 x.w)).setCell ⟨w.heap.size, 2, none⟩ (.int .i64 now))) := MC.set3 (w0 := w) (HM3.out) HK3.out (Nat.le_refl _) D3.out x.id x.w now
      obtain ⟨d0, d1, d2, f0, f1, f2⟩ := D3.out.cells
      go_wp2_with fail
      refine (HN.out _).mono ?_
      rintro e w4 ⟨rfl, rfl⟩
      clear HN
      go_wp2_with fail
      refine bodyPost_ret (v := .tuple #[vD x.id x.w now, .bool true]) ?_ rfl HF.out
      rw [results_cell_tmp rfl]
      go_simp
    · have HN : Hid (∀ w, Calls Try.prog 53 #[.int .i64 x.w, .int .i64 (g x.id), .int .i64 4611686018427387904] w fun e w' => e = .returned (.tuple #[.int .i64 (nx x.w (g x.id) 4611686018427387904), .int .i64 0]) ∧ w = w') := fun w => rnext_yes _ _ _ w (by omega) (by omega) (by omega) (by omega) (by omega) (by omega)
      have hu : ¬ now < (nx x.w (g x.id) 4611686018427387904) := fun e => by
        have h1 : nx x.w (g x.id) 4611686018427387904 ≤ 4611686018427387904 := by
          unfold nx
          split
          · omega
          · exact hd_hi _
        omega
      generalize (nx x.w (g x.id) 4611686018427387904) = u at *
      have HF : Hid (MC B m p n S (fput g x.id 0) (.tuple #[vD x.id x.w now, .bool true]) w (.returned (.tuple #[vD x.id x.w now, .bool true])) (((w3.setCell ⟨w.heap.size, 0, none⟩ (.int .i64 x.id)).setCell ⟨w.heap.size, 1, none⟩ (.int .i64 x.w)).setCell ⟨w.heap.size, 2, none⟩ (.int .i64 now))) := MC.set3 (w0 := w) (HM3.out) HK3.out (Nat.le_refl _) D3.out x.id x.w now
      obtain ⟨d0, d1, d2, f0, f1, f2⟩ := D3.out.cells
      go_wp2_with fail
      refine (HN.out _).mono ?_
      rintro e w4 ⟨rfl, rfl⟩
      clear HN
      go_wp2_with fail
      refine bodyPost_ret (v := .tuple #[vD x.id x.w now, .bool true]) ?_ rfl HF.out
      rw [results_cell_tmp rfl]
      go_simp
  · have HF : Hid (MC B m p n S (fput g x.id 0) (.tuple #[vD x.id x.w now, .bool true]) w (.returned (.tuple #[vD x.id x.w now, .bool true])) (((w3.setCell ⟨w.heap.size, 0, none⟩ (.int .i64 x.id)).setCell ⟨w.heap.size, 1, none⟩ (.int .i64 x.w)).setCell ⟨w.heap.size, 2, none⟩ (.int .i64 now))) := MC.set3 (w0 := w) (HM3.out) HK3.out (Nat.le_refl _) D3.out x.id x.w now
    obtain ⟨d0, d1, d2, f0, f1, f2⟩ := D3.out.cells
    go_wp2_with fail
    refine bodyPost_ret (v := .tuple #[vD x.id x.w now, .bool true]) ?_ rfl HF.out
    rw [results_cell_tmp rfl]
    go_simp
set_option maxHeartbeats 8000000 in
theorem rtake_on {x : It} {now : Int} (h : MT B m p n (x :: S) g w) (hS : Ok n (x :: S)) (hl : (x :: S).length ≤ 999) (hm1 : n ≤ 1000000) (hB : B ≤ w.heap.size) (hn : ¬ now < 0) (hw : x.w ≤ now) (hfx : Fit x.w) (hfg : Fit (g x.id)) (hg : Gon x.w (g x.id) now) :
    Calls Try.prog 35 #[.pointer (some ⟨m, 0, none⟩), .int .i64 now] w (MC B m p (n + 1) (ins ⟨x.id, nx x.w (g x.id) now, (n : Int) + 1⟩ S) g (.tuple #[vD x.id x.w now, .bool true]) w) := by
  have hw2 : ¬ now < x.w := by omega
  have hgm := mem_ids (show x ∈ x :: S by simp)
  have HR0 : Hid (w.heap.size ≠ m ∧ p ≠ some w.heap.size) := ⟨by have := h.lt; omega, fun e => by have := (h.lp e).2; omega⟩
  have HM := Lib.hid (h.later (below_al w (.cells #[.int .i64 0, .int .i64 0, .int .i64 0] 66)))
  have D1 : Hid (Rbk (w.alloc (.cells #[.int .i64 0, .int .i64 0, .int .i64 0] 66)) w.heap.size 0 0 0) := heap_alloc_new w _
  have HB1 := Lib.hid (below_al w (.cells #[.int .i64 0, .int .i64 0, .int .i64 0] 66))
  have HPer := Lib.hid (fun w2 hb => rper_yes (h.later (w' := w2) hb) hgm hS.ids (by omega))
  have HOK := Lib.hid hS
  have HT := Lib.hid hS.tail
  clear h hgm hS
  go_enter Try.func35, Try.ntmps35
  go_upto_region 1 with (fail)
  generalize w.alloc (.cells #[.int .i64 0, .int .i64 0, .int .i64 0] 66) = wa at *
  obtain ⟨d0, d1, d2, f0, f1, f2⟩ := D1.out.cells
  have hdr := lt_of_blk D1.out
  have HPer2 := Lib.hid (HPer.out wa HB1.out)
  have HM9 := Lib.hid HM.out
  have hlN := hl
  obtain ⟨A, c, P, c2, Q, e0, h1, h2⟩ := HM.out
  have c0 := h1.c0
  have hml := h1.lt
  obtain ⟨gw, off, rfl, -, hgw, hc⟩ := h1.mx.wn.cells (by simp)
  obtain ⟨x0, x1, x2⟩ := hc 0 x rfl
  simp only [Nat.zero_mul, Nat.add_zero] at x0 x1 x2
  have q0 : ((x :: S).length == 0) = false := by simp
  have q1 : (((x :: S).length : Int) == 0) = false := beq_eq_false_iff_ne.2 (by simp <;> omega)
  have q2 : (0 : Int) < ((x :: S).length : Int) := by simp <;> omega
  generalize hNN : (x :: S).length = N at *
  clear h2 hc h1 e0
  go_wp2_with fail
  have V1 : Hid (Ibk (wa.alloc (.cells #[.int .i64 x.id, .int .i64 x.w, .int .i64 x.s] 39)) wa.heap.size x) := heap_alloc_new wa _
  have HB2 := Lib.hid (HB1.out.trans ((below_al wa (.cells #[.int .i64 x.id, .int .i64 x.w, .int .i64 x.s] 39)).mono HB1.out.size))
  have HM2 := Lib.hid (HM9.out.later (below_al wa (.cells #[.int .i64 x.id, .int .i64 x.w, .int .i64 x.s] 39)))
  have D2 := Lib.hid (D1.out.later (below_al wa (.cells #[.int .i64 x.id, .int .i64 x.w, .int .i64 x.s] 39)))
  have HPer3 := Lib.hid (HPer.out _ HB2.out)
  have HV0 : Hid (wa.heap.size ≠ m ∧ p ≠ some wa.heap.size) := ⟨by have := HM9.out.lt; omega, fun e => by have := (HM9.out.lp e).2; omega⟩
  clear c0 x0 x1 x2 d0 d1 d2 f0 f1 f2 D1 HM HM9 HPer HPer2 HB1 hgw hdr
  generalize wa.alloc (.cells #[.int .i64 x.id, .int .i64 x.w, .int .i64 x.s] 39) = w2 at *
  generalize wa.heap.size = s9 at *
  obtain ⟨y0, y1, y2⟩ := V1.out.cells
  refine HPer3.out.mono ?_
  rintro e w3 ⟨rfl, rfl⟩
  have hB2 : B ≤ w2.heap.size := by have := HB2.out.size; omega
  have HSt := Lib.hid (rstop_yes HM2.out HOK.out (show x ∈ x :: S by simp) (by omega) hB2)
  rw [HT.out.1] at HSt
  clear HPer3 HM2
  go_wp2_with fail
  refine HSt.out.mono ?_
  rintro e w3 hr
  obtain ⟨p1, hm3, hk3⟩ := hr.2
  obtain rfl := hr.1
  have HM3 := Lib.hid hm3
  have HK3 := Lib.hid ((KT.of_below p HB2.out).trans hk3)
  have V3 := Lib.hid (V1.out.kt HV0.out.1 HV0.out.2 hk3)
  have D3 := Lib.hid (D2.out.kt HR0.out.1 HR0.out.2 hk3)
  have KQ := Lib.hid hk3
  have hsr2 := lt_of_blk V1.out
  have hdr2 := lt_of_blk D2.out
  clear hr hm3 HSt V1 D2 y0 y1 y2
  obtain ⟨y0, y1, y2⟩ := V3.out.cells
  obtain ⟨a1, a2, a3, a4, a5, a6⟩ := nxB_all hg.1
  have hp : 0 < g x.id := by omega
  have HN : Hid (∀ w, Calls Try.prog 53 #[.int .i64 x.w, .int .i64 (g x.id), .int .i64 now] w fun e w' => e = .returned (.tuple #[.int .i64 (nx x.w (g x.id) now), .int .i64 0]) ∧ w = w') := fun w => rnext_yes _ _ _ w a1 a2 a3 a4 a5 a6
  have hb9 : now ≤ 4611686018427387904 := a6
  have hu := hg.2
  have hfu : Fit (nx x.w (g x.id) now) := ⟨by omega, by unfold nx; split <;> first | omega | exact hd_hi _⟩
  have hB3 : B ≤ w3.heap.size := by have := HK3.out.size; omega
  have hNS : S.length ≤ 999 := by simp at hNN; omega
  have HA := Lib.hid (rarm_any x.id (nx x.w (g x.id) now) (g x.id) HM3.out HT.out.2 hfu hfg hm1 hNS hB3)
  have hdn : del x.id S = S := by
    have := (List.nodup_cons.1 HOK.out.ids).1
    exact del_none this
  have hgg : fput (fput g x.id 0) x.id (g x.id) = g := by
    rw [fput_two]; funext z; unfold fput; split
    · rename_i e; rw [e]
    · rfl
  rw [hdn, hgg] at HA
  clear a1 a2 a3 a4 a5 a6 hg hfx hfg hfu hdn hgg HM3
  generalize nx x.w (g x.id) now = u at *
  generalize ins ⟨x.id, u, (n : Int) + 1⟩ S = S2 at *
  have hne : p1 ≠ some w.heap.size := fun e => by
    rcases KQ.out.new with h1 | h1
    · exact HR0.out.2 (h1.symm.trans e)
    · have := h1 _ e; have := lt_of_blk D3.out; have := HB2.out.size; have h7 := h1 _ e; exact absurd (show w.heap.size < w2.heap.size from hdr2) (by omega)
  have hnv : p1 ≠ some s9 := fun e => by
    rcases KQ.out.new with h1 | h1
    · exact HV0.out.2 (h1.symm.trans e)
    · have := h1 _ e; exact absurd hsr2 (by omega)
  go_wp2_with fail
  refine (HN.out _).mono ?_
  rintro e w4 ⟨rfl, rfl⟩
  clear HN
  go_wp2_with fail
  refine HA.out.mono ?_
  rintro e w4 hr
  obtain ⟨p2, hm4, hk4⟩ := hr.2
  obtain rfl := hr.1
  have HM4 := Lib.hid hm4
  have HK4 := Lib.hid (HK3.out.trans hk4)
  have V4 := Lib.hid (V3.out.kt HV0.out.1 hnv hk4)
  have D4 := Lib.hid (D3.out.kt HR0.out.1 hne hk4)
  clear hr hm4 hk4 HA y0 y1 y2
  obtain ⟨y0, y1, y2⟩ := V4.out.cells
  have HF : Hid (MC B m p (n + 1) S2 g (.tuple #[vD x.id x.w now, .bool true]) w (.returned (.tuple #[vD x.id x.w now, .bool true])) (((w4.setCell ⟨w.heap.size, 0, none⟩ (.int .i64 x.id)).setCell ⟨w.heap.size, 1, none⟩ (.int .i64 x.w)).setCell ⟨w.heap.size, 2, none⟩ (.int .i64 now))) := MC.set3 (w0 := w) (HM4.out) HK4.out (Nat.le_refl _) D4.out x.id x.w now
  obtain ⟨d0, d1, d2, f0, f1, f2⟩ := D4.out.cells
  go_wp2_with fail
  refine bodyPost_ret (v := .tuple #[vD x.id x.w now, .bool true]) ?_ rfl HF.out
  rw [results_cell_tmp rfl]
  go_simp
end
end Go.Proofs.Ytbpoippgioincaa
