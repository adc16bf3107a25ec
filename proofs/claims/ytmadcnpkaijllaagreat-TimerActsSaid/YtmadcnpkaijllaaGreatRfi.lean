/- The document's own set: Fire. Conditions: each theorem's own premises. -/
import Derived.Test.YtmadcnpkaijllaaGreatSrsm
namespace Go.Proofs.YtmadcnpkaijllaaGreat
open Go.RowKit Ch
set_option linter.unusedVariables false
set_option maxRecDepth 100000
section
variable {RC : List Nat} {RT RT' : List CS} {W w w' w'' w0 w1 : World} {t mo m n n' i j c k : Nat} {E E' : List On} {S S' : List It} {g g' : Int → Int} {L L' : List (Nat × CS)} {v : Value} {e : Ending} {x : On} {s s' : CS} {ws : List Wk} {kept b : Bool} {now : Int}
abbrev gZ : Obj := .cells #[.int .i64 0, .int .i64 0, .int .i64 0, .int .i64 0, .int .i64 0, .slice none 0 0, .bool false] 76
theorem gz_cells {b : Nat} {u0 u1 u2 u3 u4 u5 u6 : Value} (h : w.heap[b]? = some (.cells #[u0, u1, u2, u3, u4, u5, u6] 76 (0, 0))) :
    (w.cell? ⟨b, 0, none⟩ = some u0 ∧ w.cell? ⟨b, 1, none⟩ = some u1 ∧ w.cell? ⟨b, 2, none⟩ = some u2 ∧ w.cell? ⟨b, 3, none⟩ = some u3 ∧ w.cell? ⟨b, 4, none⟩ = some u4 ∧ w.cell? ⟨b, 5, none⟩ = some u5 ∧ w.cell? ⟨b, 6, none⟩ = some u6) ∧ ∀ k, w.frozen? ⟨b, k, none⟩ = false := by
  refine ⟨⟨?_, ?_, ?_, ?_, ?_, ?_, ?_⟩, fun k => frozen_of_row w b k _ _ h⟩
  · rw [cell_of_row w b 0 _ _ _ h]; rfl
  · rw [cell_of_row w b 1 _ _ _ h]; rfl
  · rw [cell_of_row w b 2 _ _ _ h]; rfl
  · rw [cell_of_row w b 3 _ _ _ h]; rfl
  · rw [cell_of_row w b 4 _ _ _ h]; rfl
  · rw [cell_of_row w b 5 _ _ _ h]; rfl
  · rw [cell_of_row w b 6 _ _ _ h]; rfl
/-- The document's set and channels, and that nothing else has turned since. -/
structure RQ (W : World) (RC : List Nat) (RT : List CS) (mo : Nat) (E : List On) (m n : Nat) (S : List It) (g : Int → Int) (L : List (Nat × CS)) (w0 w : World) : Prop where
  rs : RS W mo E m n S g w
  ms : MS W RC RT L w
  ry : RY w0 w
  hB : W.heap.size ≤ w0.heap.size
theorem RQ.cell (h : RQ W RC RT mo E m n S g L w0 w) {cs : Array Value} {fr : Nat × Nat} {b : Nat} (hb : w.heap[b]? = some (.cells cs 76 fr)) (h0 : w0.heap.size ≤ b) (k : Nat) (u : Value) : RQ W RC RT mo E m n S g L w0 (w.setCell ⟨b, k, none⟩ u) := by
  have key : ∀ q, q ≠ b → (w.setCell ⟨b, k, none⟩ u).heap[q]? = w.heap[q]? := fun q hq => Below.heap_setCell _ _ _ _ (by exact hq)
  have ne : ∀ (q : Nat) (cs9 : Array Value) (ty9 : TypeId) (fr9 : Nat × Nat), w.heap[q]? = some (.cells cs9 ty9 fr9) → ty9 ≠ 76 → q ≠ b := fun q cs9 ty9 fr9 e1 e2 => by
    rintro rfl
    rw [hb] at e1; injection e1 with e1; injection e1 with _ e1 _; exact e2 e1.symm
  obtain ⟨h1, h2, h3, h4⟩ := h
  obtain ⟨p, P, c, k1, k2⟩ := h1
  refine ⟨⟨p, P, c, k1.rf fun q cs9 ty9 fr9 e1 e2 => (key q (ne q _ _ _ e1 (by rcases e2 with rfl | rfl <;> decide))).trans e1, row_keep k2 fun q hq => ?_⟩, ?_, ⟨by have := h3.1; simp [World.setCell]; exact this, fun q o e1 e2 => ?_⟩, h4⟩
  · obtain ⟨cs9, fr9, e1⟩ := row_tag k2 hq
    exact key q (ne q _ _ _ e1 (by decide))
  · exact h2.tg ⟨by simp [World.setCell], fun q cs9 ty9 fr9 e1 e2 => (key q (ne q _ _ _ e1 (by rcases e2 with rfl | rfl | rfl | rfl | rfl | rfl <;> decide))).trans e1⟩ (h2.bel.setCell (show W.heap.size ≤ (⟨b, k, none⟩ : Addr).block from Nat.le_trans h4 h0) _)
  · exact (key q (by have := lt_of_blk e1; omega)).trans (h3.2 q o e1 e2)
theorem RQ.later (h : RQ W RC RT mo E m n S g L w0 w) (hb : Below w.heap.size w w') : RQ W RC RT mo E m n S g L w0 w' :=
  ⟨h.rs.later hb, h.ms.later hb, h.ry.trans (RX.of_below hb).ry, h.hB⟩
theorem RQ.cell7 (h : RQ W RC RT mo E m n S g L w0 w) {b : Nat} {u0 u1 u2 u3 u4 u5 u6 y0 y1 y2 y3 y4 y5 y6 : Value} (hb : w.heap[b]? = some (.cells #[y0, y1, y2, y3, y4, y5, y6] 76 (0, 0))) (h0 : w0.heap.size ≤ b) :
    RQ W RC RT mo E m n S g L w0 (w7 w b u0 u1 u2 u3 u4 u5 u6) ∧ ∀ k, k ≠ b → (w7 w b u0 u1 u2 u3 u4 u5 u6).heap[k]? = w.heap[k]? := by
  have e1 := heap_setCell_same w b 0 _ _ u0 hb
  have e2 := heap_setCell_same _ b 1 _ _ u1 e1
  have e3 := heap_setCell_same _ b 2 _ _ u2 e2
  have e4 := heap_setCell_same _ b 3 _ _ u3 e3
  have e5 := heap_setCell_same _ b 4 _ _ u4 e4
  have e6 := heap_setCell_same _ b 5 _ _ u5 e5
  refine ⟨((((((h.cell hb h0 0 u0).cell e1 h0 1 u1).cell e2 h0 2 u2).cell e3 h0 3 u3).cell e4 h0 4 u4).cell e5 h0 5 u5).cell e6 h0 6 u6, fun k hk => ?_⟩
  unfold w7
  repeat (refine (Below.heap_setCell _ _ _ _ (by exact hk)).trans ?_)
  rfl
theorem RY.cells (h : RY w w') {k : Nat} {cs : Array Value} {ty : TypeId} {fr : Nat × Nat} (hk : w.heap[k]? = some (.cells cs ty fr)) (ht : ty = 76 ∨ ty = 124 := by decide) : w'.heap[k]? = some (.cells cs ty fr) :=
  h.at hk (by rcases ht with rfl | rfl <;> decide)
/-- A time is put on the document's channel. -/
structure RPt (RC : List Nat) (RT : List CS) (x : On) (now : Int) (RT' : List CS) (ws : List Wk) (kept : Bool) : Prop where
  h : (x.ch = none ∧ RT' = RT ∧ ws = [] ∧ kept = false) ∨ ∃ c j s s', x.ch = some c ∧ RC[j]? = some c ∧ RT[j]? = some s ∧ s.kd = 1 ∧ s.sz ≤ 64 ∧ s.l.length ≤ 1000 ∧ s.rs.length ≤ 1000 ∧ gv s now = (s', ws, kept) ∧ RT' = RT.set j s'
theorem rput_at (h : RQ W RC RT mo E m n S g L w0 w) (hc : x.ch = some c) (hp : RPt RC RT x now RT' ws kept) : Calls Tryz.prog 63 #[.pointer (some ⟨c, 0, none⟩), .int .i64 now] w fun e w' =>
    ∃ A k, e = .returned (.tuple #[.slice A ws.length k, .bool kept]) ∧ RdK w' A ws.length ws ∧ RQ W RC RT' mo E m n S g L w0 w' ∧ RY w w' := by
  rcases hp.h with ⟨hc2, -⟩ | ⟨c2, j, s, s', hc2, hi, ht, hk, hz, hl, hr, hg, rfl⟩
  · rw [hc] at hc2; cases hc2
  · rw [hc] at hc2; injection hc2 with hc2; subst hc2
    obtain ⟨ok, h1, h2⟩ := h.ms.ref hi ht
    refine (mPut_go now h1 hk hz hl hr).mono ?_
    rw [hg]
    rintro e w' ⟨A, k, rfl, hr2, ho⟩
    obtain ⟨h3, h4⟩ := h2 _ _ ho
    have hb := h.ms.rblk (List.mem_of_getElem? hi)
    exact ⟨A, k, rfl, hr2, ⟨h.rs.tn h4 hb, h3, h.ry.trans (RY.tn h4 hb), h.hB⟩, RY.tn h4 hb⟩
abbrev vFr (A : Option Addr) (n k : Nat) (u : Value) : Value := u
set_option maxHeartbeats 8000000 in
theorem rfire_no (h : RS W mo E m n S g w) (hm : MS W RC RT L w) (hT : tk now n S g = (none, n, S, g)) (hS : Ok n S) (hf : ∀ x ∈ S, Fit x.w ∧ Fit (g x.id)) (hn : n ≤ 1000000) (hl : S.length ≤ 999) :
    Calls Tryz.prog 23 #[pM mo, .int .i64 now] w (RV W RC RT mo E m n S g L (.tuple #[vF 0 0 0 0 0 none 0 0 false, .bool false]) w) := by
  have hsz := hm.bel.size
  have HA := Lib.hid (h.box gZ)
  have HQ0 : Hid (RQ W RC RT mo E m n S g L w (w.alloc gZ)) := ⟨h.box gZ, hm.alloc gZ, (RX.of_below (below_al w gZ)).ry, hsz⟩
  have FB := Lib.hid (heap_alloc_new w gZ)
  clear h hm
  go_enter Tryz.func23, Tryz.ntmps23
  go_wp2_with fail
  refine (rs_ttake now HA.out hS hf hn hl).mono ?_
  rintro e w1 hz
  rw [hT] at hz
  have HQ1 : Hid (RQ W RC RT mo E m n S g L w w1) := ⟨hz.2.1, HQ0.out.ms.rx hz.2.2.1 hz.2.2.2, HQ0.out.ry.trans hz.2.2.1.ry, hsz⟩
  have FB1 := Lib.hid (hz.2.2.1.ry.cells FB.out)
  obtain rfl := hz.1
  clear hz HA HQ0 FB hS hf
  have H2 := Lib.hid (HQ1.out.later (below_al w1 (.cells #[.int .i64 0, .int .i64 0, .int .i64 0] 124)))
  have FB2 := Lib.hid (((below_al w1 (.cells #[.int .i64 0, .int .i64 0, .int .i64 0] 124)).block _ (lt_of_blk FB1.out)).trans FB1.out)
  clear HQ1 FB1
  simp only [tkV]
  go_upto_region 3 with (fail)
  generalize w1.alloc (.cells #[.int .i64 0, .int .i64 0, .int .i64 0] 124) = w2 at *
  obtain ⟨⟨q0, q1, q2, q3, q4, q5, q6⟩, qf⟩ := gz_cells FB2.out
  have f0 := qf 0
  have f1 := qf 1
  have f2 := qf 2
  have f3 := qf 3
  have f4 := qf 4
  have f5 := qf 5
  have f6 := qf 6
  clear qf
  have HX := Lib.hid (H2.out.cell7 (u0 := .int .i64 0) (u1 := .int .i64 0) (u2 := .int .i64 0) (u3 := .int .i64 0) (u4 := .int .i64 0) (u5 := .slice none 0 0) (u6 := .bool false) FB2.out (Nat.le_refl _))
  unfold w7 at HX
  go_wp2_with fail
  refine bodyPost_ret (v := .tuple #[vF 0 0 0 0 0 none 0 0 false, .bool false]) ?_ rfl ⟨rfl, HX.out.1.rs, HX.out.1.ms, HX.out.1.ry⟩
  rw [results_cell_tmp rfl]
  go_simp
set_option maxHeartbeats 8000000 in
theorem rfire_nil {yw ys : Int} (h : RS W mo E m n S g w) (hm : MS W RC RT L w) (hT : tk now n S g = (some ⟨(i : Int), yw, ys⟩, n', S', g')) (hx : E[i]? = some x) (hc : x.ch = none) (hS : Ok n S) (hf : ∀ x ∈ S, Fit x.w ∧ Fit (g x.id)) (hn : n ≤ 1000000) (hl : S.length ≤ 999) :
    Calls Tryz.prog 23 #[pM mo, .int .i64 now] w (RV W RC RT mo E m n' S' g' L (.tuple #[vF i x.kd yw now x.dt none 0 0 false, .bool true]) w) := by
  have hlt := (List.getElem?_eq_some_iff.1 hx).1
  have b1 : (0 : Int) ≤ (i : Int) := by omega
  have b2 : (i : Int) < (E.length : Int) := by omega
  have hsz := hm.bel.size
  have HX := Lib.hid hx
  have HA := Lib.hid (h.box gZ)
  have HQ0 : Hid (RQ W RC RT mo E m n S g L w (w.alloc gZ)) := ⟨h.box gZ, hm.alloc gZ, (RX.of_below (below_al w gZ)).ry, hsz⟩
  have FB := Lib.hid (heap_alloc_new w gZ)
  clear h hm hlt hx
  go_enter Tryz.func23, Tryz.ntmps23
  go_wp2_with fail
  refine (rs_ttake now HA.out hS hf hn hl).mono ?_
  rintro e w1 hz
  rw [hT] at hz
  have HQ1 : Hid (RQ W RC RT mo E m n' S' g' L w w1) := ⟨hz.2.1, HQ0.out.ms.rx hz.2.2.1 hz.2.2.2, HQ0.out.ry.trans hz.2.2.1.ry, hsz⟩
  have FB1 := Lib.hid (hz.2.2.1.ry.cells FB.out)
  obtain rfl := hz.1
  clear hz HA HQ0 FB hS hf hT
  have H2 := Lib.hid (HQ1.out.later (below_al w1 (.cells #[.int .i64 i, .int .i64 yw, .int .i64 now] 124)))
  have FB2 := Lib.hid (((below_al w1 (.cells #[.int .i64 i, .int .i64 yw, .int .i64 now] 124)).block _ (lt_of_blk FB1.out)).trans FB1.out)
  have D2 : Hid (Rbk (w1.alloc (.cells #[.int .i64 i, .int .i64 yw, .int .i64 now] 124)) w1.heap.size i yw now) := heap_alloc_new w1 _
  have hne : w.heap.size < w1.heap.size := lt_of_blk FB1.out
  clear HQ1 FB1
  simp only [tkV]
  go_upto_region 4 with (fail)
  have hs2 : w1.heap.size < (w1.alloc (.cells #[.int .i64 i, .int .i64 yw, .int .i64 now] 124)).heap.size := by rw [World.size_alloc]; omega
  generalize w1.alloc (.cells #[.int .i64 i, .int .i64 yw, .int .i64 now] 124) = w2 at *
  generalize w1.heap.size = s2 at *
  obtain ⟨d0, d1, d2, -⟩ := D2.out.cells
  obtain ⟨P, cc, c3, -, -, -, hr⟩ := H2.out.rs.cells
  obtain ⟨q, rfl, hq, ⟨x0, x1, x2, x3⟩, -, -⟩ := hr i x HX.out
  have ht2 := H2.out.rs.lt
  clear hr
  rw [hc] at x2
  simp only [Option.map_none] at x2
  go_region
  have hb3 : Below w2.heap.size w2 (w2.alloc (.cells #[.int .i64 x.kd, .int .i64 x.dt, .pointer none, .int .i64 x.gn] 122)).drew := (below_al w2 _).drew
  have XB : Hid ((w2.alloc (.cells #[.int .i64 x.kd, .int .i64 x.dt, .pointer none, .int .i64 x.gn] 122)).drew.heap[w2.heap.size]? = some (.cells #[.int .i64 x.kd, .int .i64 x.dt, .pointer none, .int .i64 x.gn] 122 (0, 0))) := heap_alloc_new w2 _
  have hs3 : s2 < w2.heap.size := hs2
  clear c3 hq x0 x1 x2 x3 d0 d1 d2 ht2 hs2 HX b1 b2
  have H3 := Lib.hid (H2.out.later hb3)
  have FB3 := Lib.hid ((hb3.block _ (lt_of_blk FB2.out)).trans FB2.out)
  have D3 : Hid (Rbk _ s2 i yw now) := (hb3.block _ (lt_of_blk D2.out)).trans D2.out
  clear H2 FB2 D2 hb3
  generalize (w2.alloc (.cells #[.int .i64 x.kd, .int .i64 x.dt, .pointer none, .int .i64 x.gn] 122)).drew = w3 at *
  generalize w2.heap.size = s3 at *
  obtain ⟨d0, d1, d2, -⟩ := D3.out.cells
  have z0 : w3.cell? ⟨s3, 0, none⟩ = some (.int .i64 x.kd) := by rw [cell_of_row w3 s3 0 _ _ _ XB.out]; rfl
  have z1 : w3.cell? ⟨s3, 1, none⟩ = some (.int .i64 x.dt) := by rw [cell_of_row w3 s3 1 _ _ _ XB.out]; rfl
  have z2 : w3.cell? ⟨s3, 2, none⟩ = some (.pointer none) := by rw [cell_of_row w3 s3 2 _ _ _ XB.out]; rfl
  have hd3 := lt_of_blk D3.out
  have hx3 := lt_of_blk XB.out
  have hf3 := lt_of_blk FB3.out
  go_upto_region 6 with (fail)
  have H4 := Lib.hid (H3.out.later (below_al w3 (.cells #[.int .i64 i, .int .i64 x.kd, .int .i64 yw, .int .i64 now, .int .i64 x.dt, .slice none 0 0, .bool false] 76)))
  have FB4 := Lib.hid (((below_al w3 (.cells #[.int .i64 i, .int .i64 x.kd, .int .i64 yw, .int .i64 now, .int .i64 x.dt, .slice none 0 0, .bool false] 76)).block _ hf3).trans FB3.out)
  have XB4 := Lib.hid (((below_al w3 (.cells #[.int .i64 i, .int .i64 x.kd, .int .i64 yw, .int .i64 now, .int .i64 x.dt, .slice none 0 0, .bool false] 76)).block _ hx3).trans XB.out)
  have GB : Hid ((w3.alloc (.cells #[.int .i64 i, .int .i64 x.kd, .int .i64 yw, .int .i64 now, .int .i64 x.dt, .slice none 0 0, .bool false] 76)).heap[w3.heap.size]? = some (.cells #[.int .i64 i, .int .i64 x.kd, .int .i64 yw, .int .i64 now, .int .i64 x.dt, .slice none 0 0, .bool false] 76 (0, 0))) := heap_alloc_new w3 _
  clear d0 d1 d2 z0 z1 z2 H3 FB3 XB D3
  have hg4 : w.heap.size ≤ w3.heap.size := by omega
  have hgne : w3.heap.size ≠ w.heap.size := by omega
  generalize w3.alloc (.cells #[.int .i64 i, .int .i64 x.kd, .int .i64 yw, .int .i64 now, .int .i64 x.dt, .slice none 0 0, .bool false] 76) = w4 at *
  generalize w3.heap.size = s4 at *
  have z2 : w4.cell? ⟨s3, 2, none⟩ = some (.pointer none) := by rw [cell_of_row w4 s3 2 _ _ _ XB4.out]; rfl
  obtain ⟨⟨q0, q1, q2, q3, q4, q5, q6⟩, qf⟩ := gz_cells FB4.out
  obtain ⟨⟨p0, p1, p2, p3, p4, p5, p6⟩, -⟩ := gz_cells GB.out
  have f0 := qf 0
  have f1 := qf 1
  have f2 := qf 2
  have f3 := qf 3
  have f4 := qf 4
  have f5 := qf 5
  have f6 := qf 6
  clear qf
  have HX := Lib.hid (H4.out.cell7 (u0 := .int .i64 i) (u1 := .int .i64 x.kd) (u2 := .int .i64 yw) (u3 := .int .i64 now) (u4 := .int .i64 x.dt) (u5 := .slice none 0 0) (u6 := .bool false) FB4.out (Nat.le_refl _))
  unfold w7 at HX
  go_wp2_with fail
  refine bodyPost_ret (v := .tuple #[vF i x.kd yw now x.dt none 0 0 false, .bool true]) ?_ rfl ⟨rfl, HX.out.1.rs, HX.out.1.ms, HX.out.1.ry⟩
  rw [results_cell_tmp rfl]
  go_simp
set_option maxHeartbeats 8000000 in
theorem rfire_ch {yw ys : Int} (h : RS W mo E m n S g w) (hm : MS W RC RT L w) (hT : tk now n S g = (some ⟨(i : Int), yw, ys⟩, n', S', g')) (hx : E[i]? = some x) (hc : x.ch = some c) (hp : RPt RC RT x now RT' ws kept) (hS : Ok n S) (hf : ∀ x ∈ S, Fit x.w ∧ Fit (g x.id)) (hn : n ≤ 1000000) (hl : S.length ≤ 999) :
    Calls Tryz.prog 23 #[pM mo, .int .i64 now] w fun e w' => ∃ A k, e = .returned (.tuple #[vF i x.kd yw now x.dt A ws.length k kept, .bool true]) ∧ RdK w' A ws.length ws ∧ RQ W RC RT' mo E m n' S' g' L w w' := by
  have hlt := (List.getElem?_eq_some_iff.1 hx).1
  have b1 : (0 : Int) ≤ (i : Int) := by omega
  have b2 : (i : Int) < (E.length : Int) := by omega
  have hsz := hm.bel.size
  have HX := Lib.hid hx
  have HP := Lib.hid hp
  have HA := Lib.hid (h.box gZ)
  have HQ0 : Hid (RQ W RC RT mo E m n S g L w (w.alloc gZ)) := ⟨h.box gZ, hm.alloc gZ, (RX.of_below (below_al w gZ)).ry, hsz⟩
  have FB := Lib.hid (heap_alloc_new w gZ)
  clear h hm hlt hx hp
  go_enter Tryz.func23, Tryz.ntmps23
  go_wp2_with fail
  refine (rs_ttake now HA.out hS hf hn hl).mono ?_
  rintro e w1 hz
  rw [hT] at hz
  have HQ1 : Hid (RQ W RC RT mo E m n' S' g' L w w1) := ⟨hz.2.1, HQ0.out.ms.rx hz.2.2.1 hz.2.2.2, HQ0.out.ry.trans hz.2.2.1.ry, hsz⟩
  have FB1 := Lib.hid (hz.2.2.1.ry.cells FB.out)
  obtain rfl := hz.1
  clear hz HA HQ0 FB hS hf hT
  have H2 := Lib.hid (HQ1.out.later (below_al w1 (.cells #[.int .i64 i, .int .i64 yw, .int .i64 now] 124)))
  have FB2 := Lib.hid (((below_al w1 (.cells #[.int .i64 i, .int .i64 yw, .int .i64 now] 124)).block _ (lt_of_blk FB1.out)).trans FB1.out)
  have D2 : Hid (Rbk (w1.alloc (.cells #[.int .i64 i, .int .i64 yw, .int .i64 now] 124)) w1.heap.size i yw now) := heap_alloc_new w1 _
  have hne : w.heap.size < w1.heap.size := lt_of_blk FB1.out
  clear HQ1 FB1
  simp only [tkV]
  go_upto_region 4 with (fail)
  have hs2 : w1.heap.size < (w1.alloc (.cells #[.int .i64 i, .int .i64 yw, .int .i64 now] 124)).heap.size := by rw [World.size_alloc]; omega
  generalize w1.alloc (.cells #[.int .i64 i, .int .i64 yw, .int .i64 now] 124) = w2 at *
  generalize w1.heap.size = s2 at *
  obtain ⟨d0, d1, d2, -⟩ := D2.out.cells
  obtain ⟨P, cc, c3, -, -, -, hr⟩ := H2.out.rs.cells
  obtain ⟨q, rfl, hq, ⟨x0, x1, x2, x3⟩, -, -⟩ := hr i x HX.out
  have ht2 := H2.out.rs.lt
  clear hr
  rw [hc] at x2
  simp only [Option.map_some] at x2
  go_region
  have hb3 : Below w2.heap.size w2 (w2.alloc (.cells #[.int .i64 x.kd, .int .i64 x.dt, .pointer (some ⟨c, 0, none⟩), .int .i64 x.gn] 122)).drew := (below_al w2 _).drew
  have XB : Hid ((w2.alloc (.cells #[.int .i64 x.kd, .int .i64 x.dt, .pointer (some ⟨c, 0, none⟩), .int .i64 x.gn] 122)).drew.heap[w2.heap.size]? = some (.cells #[.int .i64 x.kd, .int .i64 x.dt, .pointer (some ⟨c, 0, none⟩), .int .i64 x.gn] 122 (0, 0))) := heap_alloc_new w2 _
  have hs3 : s2 < w2.heap.size := hs2
  clear c3 hq x0 x1 x2 x3 d0 d1 d2 ht2 hs2 HX b1 b2
  have H3 := Lib.hid (H2.out.later hb3)
  have FB3 := Lib.hid ((hb3.block _ (lt_of_blk FB2.out)).trans FB2.out)
  have D3 : Hid (Rbk _ s2 i yw now) := (hb3.block _ (lt_of_blk D2.out)).trans D2.out
  clear H2 FB2 D2 hb3
  generalize (w2.alloc (.cells #[.int .i64 x.kd, .int .i64 x.dt, .pointer (some ⟨c, 0, none⟩), .int .i64 x.gn] 122)).drew = w3 at *
  generalize w2.heap.size = s3 at *
  obtain ⟨d0, d1, d2, -⟩ := D3.out.cells
  have z0 : w3.cell? ⟨s3, 0, none⟩ = some (.int .i64 x.kd) := by rw [cell_of_row w3 s3 0 _ _ _ XB.out]; rfl
  have z1 : w3.cell? ⟨s3, 1, none⟩ = some (.int .i64 x.dt) := by rw [cell_of_row w3 s3 1 _ _ _ XB.out]; rfl
  have z2 : w3.cell? ⟨s3, 2, none⟩ = some (.pointer (some ⟨c, 0, none⟩)) := by rw [cell_of_row w3 s3 2 _ _ _ XB.out]; rfl
  have hd3 := lt_of_blk D3.out
  have hx3 := lt_of_blk XB.out
  have hf3 := lt_of_blk FB3.out
  go_upto_region 6 with (fail)
  have H4 := Lib.hid (H3.out.later (below_al w3 (.cells #[.int .i64 i, .int .i64 x.kd, .int .i64 yw, .int .i64 now, .int .i64 x.dt, .slice none 0 0, .bool false] 76)))
  have FB4 := Lib.hid (((below_al w3 (.cells #[.int .i64 i, .int .i64 x.kd, .int .i64 yw, .int .i64 now, .int .i64 x.dt, .slice none 0 0, .bool false] 76)).block _ hf3).trans FB3.out)
  have XB4 := Lib.hid (((below_al w3 (.cells #[.int .i64 i, .int .i64 x.kd, .int .i64 yw, .int .i64 now, .int .i64 x.dt, .slice none 0 0, .bool false] 76)).block _ hx3).trans XB.out)
  have GB : Hid ((w3.alloc (.cells #[.int .i64 i, .int .i64 x.kd, .int .i64 yw, .int .i64 now, .int .i64 x.dt, .slice none 0 0, .bool false] 76)).heap[w3.heap.size]? = some (.cells #[.int .i64 i, .int .i64 x.kd, .int .i64 yw, .int .i64 now, .int .i64 x.dt, .slice none 0 0, .bool false] 76 (0, 0))) := heap_alloc_new w3 _
  clear d0 d1 d2 z0 z1 z2 H3 FB3 XB D3
  have hg4 : w.heap.size ≤ w3.heap.size := by omega
  have hgne : w3.heap.size ≠ w.heap.size := by omega
  generalize w3.alloc (.cells #[.int .i64 i, .int .i64 x.kd, .int .i64 yw, .int .i64 now, .int .i64 x.dt, .slice none 0 0, .bool false] 76) = w4 at *
  generalize w3.heap.size = s4 at *
  have z2 : w4.cell? ⟨s3, 2, none⟩ = some (.pointer (some ⟨c, 0, none⟩)) := by rw [cell_of_row w4 s3 2 _ _ _ XB4.out]; rfl
  go_wp2_with fail
  refine (rput_at H4.out hc HP.out).mono ?_
  rintro e w5 ⟨A, k, rfl, hr, hs, hk⟩
  have H5 := Lib.hid hs
  have HR := Lib.hid hr
  have FB5 := Lib.hid (hk.cells FB4.out)
  have GB5 := Lib.hid (hk.cells GB.out)
  clear hs hr hk z2 H4 FB4 GB HP
  obtain ⟨-, gf⟩ := gz_cells GB5.out
  have g5 := gf 5
  have g6 := gf 6
  have o5 : w5.cell? ⟨s4, 5, none⟩ = some (.slice none 0 0) := by rw [cell_of_row w5 s4 5 _ _ _ GB5.out]; rfl
  have o6 : w5.cell? ⟨s4, 6, none⟩ = some (.bool false) := by rw [cell_of_row w5 s4 6 _ _ _ GB5.out]; rfl
  clear gf
  go_upto_region 8 with (fail)
  have e5 := heap_setCell_same w5 s4 5 _ _ (.slice A ws.length k) GB5.out
  have e6 := heap_setCell_same _ s4 6 _ _ (.bool kept) e5
  have H6 := Lib.hid ((H5.out.cell GB5.out hg4 5 (.slice A ws.length k)).cell e5 hg4 6 (.bool kept))
  have GB6 : Hid (((w5.setCell ⟨s4, 5, none⟩ (.slice A ws.length k)).setCell ⟨s4, 6, none⟩ (.bool kept)).heap[s4]? = some (.cells #[.int .i64 i, .int .i64 x.kd, .int .i64 yw, .int .i64 now, .int .i64 x.dt, .slice A ws.length k, .bool kept] 76 (0, 0))) := e6
  have key : ∀ q, q ≠ s4 → ((w5.setCell ⟨s4, 5, none⟩ (.slice A ws.length k)).setCell ⟨s4, 6, none⟩ (.bool kept)).heap[q]? = w5.heap[q]? := fun q hq => (Below.heap_setCell _ _ _ _ (by exact hq)).trans (Below.heap_setCell _ _ _ _ (by exact hq))
  have FB6 := Lib.hid ((key _ (Ne.symm hgne)).trans FB5.out)
  have HR6 := Lib.hid (HR.out.keep fun b cs e => key b (by
    rintro rfl
    have e2 := GB5.out
    rw [e] at e2; injection e2 with e2; injection e2 with _ e2 _; exact absurd e2 (by decide)))
  clear e5 e6 g5 g6 o5 o6 key HR H5 FB5 GB5
  generalize ((w5.setCell ⟨s4, 5, none⟩ (.slice A ws.length k)).setCell ⟨s4, 6, none⟩ (.bool kept)) = w6 at *
  obtain ⟨⟨q0, q1, q2, q3, q4, q5, q6⟩, qf⟩ := gz_cells FB6.out
  obtain ⟨⟨p0, p1, p2, p3, p4, p5, p6⟩, -⟩ := gz_cells GB6.out
  have f0 := qf 0
  have f1 := qf 1
  have f2 := qf 2
  have f3 := qf 3
  have f4 := qf 4
  have f5 := qf 5
  have f6 := qf 6
  clear qf
  have HX := Lib.hid (H6.out.cell7 (u0 := .int .i64 i) (u1 := .int .i64 x.kd) (u2 := .int .i64 yw) (u3 := .int .i64 now) (u4 := .int .i64 x.dt) (u5 := .slice A ws.length k) (u6 := .bool kept) FB6.out (Nat.le_refl _))
  have HR7 := Lib.hid (HR6.out.keep (w' := w7 w6 w.heap.size (.int .i64 i) (.int .i64 x.kd) (.int .i64 yw) (.int .i64 now) (.int .i64 x.dt) (.slice A ws.length k) (.bool kept)) fun b cs e => HX.out.2 b (by
    rintro rfl
    have e2 := FB6.out
    rw [e] at e2; injection e2 with e2; injection e2 with _ e2 _; exact absurd e2 (by decide)))
  unfold w7 at HX HR7
  go_wp2_with fail
  refine bodyPost_ret (v := .tuple #[vF i x.kd yw now x.dt A ws.length k kept, .bool true]) ?_ rfl ⟨A, k, rfl, HR7.out, HX.out.1⟩
  rw [results_cell_tmp rfl]
  go_simp
end
end Go.Proofs.YtmadcnpkaijllaaGreat
