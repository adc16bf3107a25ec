/- The document's own set: Take, Drop, Stop, Reset. Conditions: each theorem's own premises.
The document's own set: Fire. Conditions: each theorem's own premises. -/
import Derived.Test.YtdpapnfjpefhkaaGreatRstm
import Derived.Test.YtdpapnfjpefhkaaGreatStmm
import Derived.Test.YtdpapnfjpefhkaaGreatCMem
namespace Go.Proofs.YtdpapnfjpefhkaaGreat
open Go.RowKit Ch
set_option linter.unusedVariables false
set_option maxRecDepth 100000
section
variable {RC : List Nat} {RT RT' : List CS} {W w w' w'' w0 w1 : World} {t mo m n n' i j c k : Nat} {E E' : List On} {S S' : List It} {g g' : Int → Int} {L L' : List (Nat × CS)} {v : Value} {e : Ending} {x : On} {s s' : CS} {ws : List Wk} {kept b : Bool} {now : Int}
theorem rs_ttake (now : Int) (h : RS W mo E m n S g w) (hS : Ok n S) (hf : ∀ x ∈ S, Fit x.w ∧ Fit (g x.id)) (hn : n ≤ 1000000) (hl : S.length ≤ 999) :
  Calls Tryz.prog 67 #[pM mo, .int .i64 now] w (RZ W mo E m (tk now n S g).2.1 (tk now n S g).2.2.1 (tk now n S g).2.2.2 (tkV now (tk now n S g).1) w) := by
 by_cases hneg : now < 0
 · have e0 : tk now n S g = (none, n, S, g) := by
    cases S with
    | nil => rfl
    | cons x r =>
     have := (hf x (by simp)).1.1
     unfold tk; simp only; rw [if_pos (by omega)]
   rw [e0]
   obtain ⟨p, P, c, h1, h2⟩ := h
   exact (rtake_neg h1 hneg).mono fun e w' r => RS.rz ⟨p, P, c, h1, h2⟩ r
 cases S with
 | nil =>
  obtain ⟨p, P, c, h1, h2⟩ := h
  exact (rtake_empty h1 hneg).mono fun e w' r => RS.rz ⟨p, P, c, h1, h2⟩ r
 | cons x r =>
  obtain ⟨f1, f2⟩ := hf x (by simp)
  unfold tk
  by_cases h1 : now < x.w
  · simp only [if_pos h1]
    obtain ⟨p, P, c, k1, k2⟩ := h
    exact (rtake_early k1 hneg h1).mono fun e w' r => RS.rz ⟨p, P, c, k1, k2⟩ r
  · by_cases h2 : Gon x.w (g x.id) now
    · simp only [if_neg h1, if_pos h2]
      exact h.tim fun rA rN p k1 => rtake_on k1 hS hl hn h.hB hneg (by omega) f1 f2 h2
    · simp only [if_neg h1, if_neg h2]
      exact h.tim fun rA rN p k1 => rtake_end k1 hS hl hn h.hB hneg (by omega) f1 f2 h2
set_option maxHeartbeats 4000000 in
theorem rstop_nil (h : RS W mo E m n S g w) (hx : E[i]? = some x) (hc : x.ch = none) (hS : Ok n S) (hg : (i : Int) ∉ ids S → g i = 0) (hl : S.length ≤ 1000) :
  Calls Tryz.prog 84 #[pM mo, .int .i64 (i : Int)] w (RZ W mo E m n (del i S) (fput g i 0) (.tuple #[.bool (decide ((i : Int) ∈ ids S)), .int .i64 0]) w) := by
 have hlt := (List.getElem?_eq_some_iff.1 hx).1
 have b1 : (0 : Int) ≤ (i : Int) := by omega
 have b2 : (i : Int) < (E.length : Int) := by omega
 have F := rin_yes h hlt
 have HA := Lib.hid h
 have HX := Lib.hid hx
 have HS := Lib.hid hS
 have HD := Lib.hid fun w => mDrop_nil w
 clear h hx hlt hS
 go_enter Tryz.func84, Tryz.ntmps84
 go_wp2_with fail
 refine F.mono ?_
 rintro e w1 ⟨rfl, rfl⟩
 go_wp2_with fail
 refine (rs_tstop i HA.out HS.out hg hl).mono ?_
 rintro e w1 hz
 have HZ := Lib.hid hz
 obtain rfl := hz.1
 clear hz HA
 obtain ⟨P, cc, c3, -, -, -, hr⟩ := HZ.out.2.1.cells
 obtain ⟨q, rfl, hq, ⟨x0, x1, x2, x3⟩, -, -⟩ := hr i x HX.out
 clear hr x0 x1 x3
 rw [hc] at x2
 simp only [Option.map_none] at x2
 generalize hd : decide ((i : Int) ∈ ids S) = d at *
 clear hd
 go_wp2_with fail
 refine (HD.out _).mono ?_
 rintro e w2 ⟨rfl, rfl⟩
 clear c3 x2 HD
 cases d
 · go_wp2_with fail
   go_ret2
   exact HZ.out.but
 · go_wp2_with fail
   go_ret2
   exact HZ.out.but
end
end Go.Proofs.YtdpapnfjpefhkaaGreat
namespace Go.Proofs.YtdpapnfjpefhkaaGreat
open Go.RowKit Ch
set_option linter.unusedVariables false
set_option maxRecDepth 100000
section
variable {RC : List Nat} {RT RT' : List CS} {W w w' w'' w0 w1 : World} {t mo m n n' i j c k : Nat} {E E' : List On} {S S' : List It} {g g' : Int → Int} {L L' : List (Nat × CS)} {v : Value} {e : Ending} {x : On} {s s' : CS} {ws : List Wk} {kept b : Bool} {now : Int}
abbrev gZ : Obj := .cells #[.int .i64 0, .int .i64 0, .int .i64 0, .int .i64 0, .int .i64 0, .slice none 0 0, .bool false] 91
theorem gz_cells {b : Nat} {u0 u1 u2 u3 u4 u5 u6 : Value} (h : w.heap[b]? = some (.cells #[u0, u1, u2, u3, u4, u5, u6] 91 (0, 0))) :
  (w.cell? ⟨b, 0, none⟩ = some u0 ∧ w.cell? ⟨b, 1, none⟩ = some u1 ∧ w.cell? ⟨b, 2, none⟩ = some u2 ∧ w.cell? ⟨b, 3, none⟩ = some u3 ∧ w.cell? ⟨b, 4, none⟩ = some u4 ∧ w.cell? ⟨b, 5, none⟩ = some u5 ∧ w.cell? ⟨b, 6, none⟩ = some u6) ∧ ∀ k, w.frozen? ⟨b, k, none⟩ = false := by
 refine ⟨⟨?_, ?_, ?_, ?_, ?_, ?_, ?_⟩, fun k => frozen_of_row w b k _ _ h⟩
 · rw [cell_of_row w b 0 _ _ _ h]; rfl
 · rw [cell_of_row w b 1 _ _ _ h]; rfl
 · rw [cell_of_row w b 2 _ _ _ h]; rfl
 · rw [cell_of_row w b 3 _ _ _ h]; rfl
 · rw [cell_of_row w b 4 _ _ _ h]; rfl
 · rw [cell_of_row w b 5 _ _ _ h]; rfl
 · rw [cell_of_row w b 6 _ _ _ h]; rfl
structure RQ (W : World) (mo : Nat) (E : List On) (m n : Nat) (S : List It) (g : Int → Int) (w0 w : World) : Prop where
 rs : RS W mo E m n S g w
 rx : Go.Proofs.YtdpapnfjpefhkaaGreat.RX w0 w
 bl : Below W.heap.size w0 w
 hB : W.heap.size ≤ w0.heap.size
theorem RQ.cell (h : RQ W mo E m n S g w0 w) {cs : Array Value} {fr : Nat × Nat} {b : Nat} (hb : w.heap[b]? = some (.cells cs 91 fr)) (h0 : w0.heap.size ≤ b) (k : Nat) (u : Value) : RQ W mo E m n S g w0 (w.setCell ⟨b, k, none⟩ u) := by
 have key : ∀ q, q ≠ b → (w.setCell ⟨b, k, none⟩ u).heap[q]? = w.heap[q]? := fun q hq => Below.heap_setCell _ _ _ _ (by exact hq)
 have ne : ∀ (q : Nat) (cs9 : Array Value) (ty9 : TypeId) (fr9 : Nat × Nat), w.heap[q]? = some (.cells cs9 ty9 fr9) → ty9 ≠ 91 → q ≠ b := fun q cs9 ty9 fr9 e1 e2 => by
  rintro rfl
  rw [hb] at e1; injection e1 with e1; injection e1 with _ e1 _; exact e2 e1.symm
 obtain ⟨h1, h2, h3, h4⟩ := h
 obtain ⟨p, P, c, k1, k2⟩ := h1
 refine ⟨⟨p, P, c, k1.rf fun q cs9 ty9 fr9 e1 e2 => (key q (ne q _ _ _ e1 (by rcases e2 with rfl | rfl <;> decide))).trans e1, row_keep k2 fun q hq => ?_⟩, ⟨by have := h2.1; simp [World.setCell]; exact this, fun q o e1 e2 => ?_⟩, h3.setCell (show W.heap.size ≤ (⟨b, k, none⟩ : Addr).block from Nat.le_trans h4 h0) _, h4⟩
 · obtain ⟨cs9, fr9, e1⟩ := row_tag k2 hq
   exact key q (ne q _ _ _ e1 (by decide))
 · exact (key q (by have := lt_of_blk e1; omega)).trans (h2.2 q o e1 e2)
theorem RQ.later (h : RQ W mo E m n S g w0 w) (hb : Below w.heap.size w w') : RQ W mo E m n S g w0 w' :=
 ⟨h.rs.later hb, h.rx.trans (RX.of_below hb), h.bl.trans (hb.mono (Nat.le_trans h.hB h.bl.size)), h.hB⟩
theorem RQ.cell7 (h : RQ W mo E m n S g w0 w) {b : Nat} {u0 u1 u2 u3 u4 u5 u6 y0 y1 y2 y3 y4 y5 y6 : Value} (hb : w.heap[b]? = some (.cells #[y0, y1, y2, y3, y4, y5, y6] 91 (0, 0))) (h0 : w0.heap.size ≤ b) :
  RQ W mo E m n S g w0 (w7 w b u0 u1 u2 u3 u4 u5 u6) ∧ ∀ k, k ≠ b → (w7 w b u0 u1 u2 u3 u4 u5 u6).heap[k]? = w.heap[k]? := by
 have e1 := heap_setCell_same w b 0 _ _ u0 hb
 have e2 := heap_setCell_same _ b 1 _ _ u1 e1
 have e3 := heap_setCell_same _ b 2 _ _ u2 e2
 have e4 := heap_setCell_same _ b 3 _ _ u3 e3
 have e5 := heap_setCell_same _ b 4 _ _ u4 e4
 have e6 := heap_setCell_same _ b 5 _ _ u5 e5
 refine ⟨((((((h.cell hb h0 0 u0).cell e1 h0 1 u1).cell e2 h0 2 u2).cell e3 h0 3 u3).cell e4 h0 4 u4).cell e5 h0 5 u5).cell e6 h0 6 u6, fun k hk => ?_⟩
 unfold w7
 repeat (refine (Below.heap_setCell _ _ _ _ (by exact hk)).trans ?_)
 rfl
set_option maxHeartbeats 8000000 in
theorem rfire_no (h : RS W mo E m n S g w) (hT : tk now n S g = (none, n, S, g)) (hS : Ok n S) (hf : ∀ x ∈ S, Fit x.w ∧ Fit (g x.id)) (hn : n ≤ 1000000) (hl : S.length ≤ 999) :
  Calls Tryz.prog 31 #[pM mo, .int .i64 now] w (RZ W mo E m n S g (.tuple #[vF 0 0 0 0 0 none 0 0 false, .bool false]) w) := by
 have hsz := h.hB
 have HA := Lib.hid (h.box gZ)
 have HQ0 : Hid (RQ W mo E m n S g w (w.alloc gZ)) := ⟨h.box gZ, RX.of_below (below_al w gZ), (below_al w gZ).mono hsz, hsz⟩
 have FB := Lib.hid (heap_alloc_new w gZ)
 clear h
 go_enter Tryz.func31, Tryz.ntmps31
 go_wp2_with fail
 refine (rs_ttake now HA.out hS hf hn hl).mono ?_
 rintro e w1 hz
 rw [hT] at hz
 have HQ1 : Hid (RQ W mo E m n S g w w1) := ⟨hz.2.1, HQ0.out.rx.trans hz.2.2.1, HQ0.out.bl.trans hz.2.2.2, hsz⟩
 have FB1 := Lib.hid (hz.2.2.1.at FB.out (by decide))
 obtain rfl := hz.1
 clear hz HA HQ0 FB hS hf
 have H2 := Lib.hid (HQ1.out.later (below_al w1 (.cells #[.int .i64 0, .int .i64 0, .int .i64 0] 174)))
 have FB2 := Lib.hid (((below_al w1 (.cells #[.int .i64 0, .int .i64 0, .int .i64 0] 174)).block _ (lt_of_blk FB1.out)).trans FB1.out)
 clear HQ1 FB1
 simp only [tkV]
 go_upto_region 3 with (fail)
 generalize w1.alloc (.cells #[.int .i64 0, .int .i64 0, .int .i64 0] 174) = w2 at *
 obtain ⟨⟨q0, q1, q2, q3, q4, q5, q6⟩, qf⟩ := gz_cells FB2.out
 have f0 := qf 0
 have f1 := qf 1
 have f2 := qf 2
 have f3 := qf 3
 have f4 := qf 4
 have f5 := qf 5
 have f6 := qf 6
 clear qf
 have HX := Lib.hid (H2.out.cell7 (u0 := .int .i64 0) (u1 := .int .i64 0) (u2 := .int .i64 0) (u3 := .int .i64 0) (u4 := .int .i64 0) (u5 := .slice none 0 0) (u6 := .bool false) FB2.out (Nat.le_refl _))
 unfold w7 at HX
 go_wp2_with fail
 refine bodyPost_ret (v := .tuple #[vF 0 0 0 0 0 none 0 0 false, .bool false]) ?_ rfl ⟨rfl, HX.out.1.rs, HX.out.1.rx, HX.out.1.bl⟩
 rw [results_cell_tmp rfl]
 go_simp
set_option maxHeartbeats 8000000 in
theorem rfire_nil {yw ys : Int} (h : RS W mo E m n S g w) (hT : tk now n S g = (some ⟨(i : Int), yw, ys⟩, n', S', g')) (hx : E[i]? = some x) (hc : x.ch = none) (hS : Ok n S) (hf : ∀ x ∈ S, Fit x.w ∧ Fit (g x.id)) (hn : n ≤ 1000000) (hl : S.length ≤ 999) :
  Calls Tryz.prog 31 #[pM mo, .int .i64 now] w (RZ W mo E m n' S' g' (.tuple #[vF i x.kd yw now x.dt none 0 0 false, .bool true]) w) := by
 have hlt := (List.getElem?_eq_some_iff.1 hx).1
 have b1 : (0 : Int) ≤ (i : Int) := by omega
 have b2 : (i : Int) < (E.length : Int) := by omega
 have hsz := h.hB
 have HX := Lib.hid hx
 have HA := Lib.hid (h.box gZ)
 have HQ0 : Hid (RQ W mo E m n S g w (w.alloc gZ)) := ⟨h.box gZ, RX.of_below (below_al w gZ), (below_al w gZ).mono hsz, hsz⟩
 have FB := Lib.hid (heap_alloc_new w gZ)
 clear h hlt hx
 go_enter Tryz.func31, Tryz.ntmps31
 go_wp2_with fail
 refine (rs_ttake now HA.out hS hf hn hl).mono ?_
 rintro e w1 hz
 rw [hT] at hz
 have HQ1 : Hid (RQ W mo E m n' S' g' w w1) := ⟨hz.2.1, HQ0.out.rx.trans hz.2.2.1, HQ0.out.bl.trans hz.2.2.2, hsz⟩
 have FB1 := Lib.hid (hz.2.2.1.at FB.out (by decide))
 obtain rfl := hz.1
 clear hz HA HQ0 FB hS hf hT
 have H2 := Lib.hid (HQ1.out.later (below_al w1 (.cells #[.int .i64 i, .int .i64 yw, .int .i64 now] 174)))
 have FB2 := Lib.hid (((below_al w1 (.cells #[.int .i64 i, .int .i64 yw, .int .i64 now] 174)).block _ (lt_of_blk FB1.out)).trans FB1.out)
 have D2 : Hid (Rbk (w1.alloc (.cells #[.int .i64 i, .int .i64 yw, .int .i64 now] 174)) w1.heap.size i yw now) := heap_alloc_new w1 _
 have hne : w.heap.size < w1.heap.size := lt_of_blk FB1.out
 clear HQ1 FB1
 simp only [tkV]
 go_upto_region 4 with (fail)
 have hs2 : w1.heap.size < (w1.alloc (.cells #[.int .i64 i, .int .i64 yw, .int .i64 now] 174)).heap.size := by rw [World.size_alloc]; omega
 generalize w1.alloc (.cells #[.int .i64 i, .int .i64 yw, .int .i64 now] 174) = w2 at *
 generalize w1.heap.size = s2 at *
 obtain ⟨d0, d1, d2, -⟩ := D2.out.cells
 obtain ⟨P, cc, c3, -, -, -, hr⟩ := H2.out.rs.cells
 obtain ⟨q, rfl, hq, ⟨x0, x1, x2, x3⟩, -, -⟩ := hr i x HX.out
 have ht2 := H2.out.rs.lt
 clear hr
 rw [hc] at x2
 simp only [Option.map_none] at x2
 go_region
 have hb3 : Below w2.heap.size w2 (w2.alloc (.cells #[.int .i64 x.kd, .int .i64 x.dt, .pointer none, .int .i64 x.gn] 178)).drew := (below_al w2 _).drew
 have XB : Hid ((w2.alloc (.cells #[.int .i64 x.kd, .int .i64 x.dt, .pointer none, .int .i64 x.gn] 178)).drew.heap[w2.heap.size]? = some (.cells #[.int .i64 x.kd, .int .i64 x.dt, .pointer none, .int .i64 x.gn] 178 (0, 0))) := heap_alloc_new w2 _
 have hs3 : s2 < w2.heap.size := hs2
 clear c3 hq x0 x1 x2 x3 d0 d1 d2 ht2 hs2 HX b1 b2
 have H3 := Lib.hid (H2.out.later hb3)
 have FB3 := Lib.hid ((hb3.block _ (lt_of_blk FB2.out)).trans FB2.out)
 have D3 : Hid (Rbk _ s2 i yw now) := (hb3.block _ (lt_of_blk D2.out)).trans D2.out
 clear H2 FB2 D2 hb3
 generalize (w2.alloc (.cells #[.int .i64 x.kd, .int .i64 x.dt, .pointer none, .int .i64 x.gn] 178)).drew = w3 at *
 generalize w2.heap.size = s3 at *
 obtain ⟨d0, d1, d2, -⟩ := D3.out.cells
 have z0 : w3.cell? ⟨s3, 0, none⟩ = some (.int .i64 x.kd) := by rw [cell_of_row w3 s3 0 _ _ _ XB.out]; rfl
 have z1 : w3.cell? ⟨s3, 1, none⟩ = some (.int .i64 x.dt) := by rw [cell_of_row w3 s3 1 _ _ _ XB.out]; rfl
 have z2 : w3.cell? ⟨s3, 2, none⟩ = some (.pointer none) := by rw [cell_of_row w3 s3 2 _ _ _ XB.out]; rfl
 have hd3 := lt_of_blk D3.out
 have hx3 := lt_of_blk XB.out
 have hf3 := lt_of_blk FB3.out
 go_upto_region 6 with (fail)
 have H4 := Lib.hid (H3.out.later (below_al w3 (.cells #[.int .i64 i, .int .i64 x.kd, .int .i64 yw, .int .i64 now, .int .i64 x.dt, .slice none 0 0, .bool false] 91)))
 have FB4 := Lib.hid (((below_al w3 (.cells #[.int .i64 i, .int .i64 x.kd, .int .i64 yw, .int .i64 now, .int .i64 x.dt, .slice none 0 0, .bool false] 91)).block _ hf3).trans FB3.out)
 have XB4 := Lib.hid (((below_al w3 (.cells #[.int .i64 i, .int .i64 x.kd, .int .i64 yw, .int .i64 now, .int .i64 x.dt, .slice none 0 0, .bool false] 91)).block _ hx3).trans XB.out)
 have GB : Hid ((w3.alloc (.cells #[.int .i64 i, .int .i64 x.kd, .int .i64 yw, .int .i64 now, .int .i64 x.dt, .slice none 0 0, .bool false] 91)).heap[w3.heap.size]? = some (.cells #[.int .i64 i, .int .i64 x.kd, .int .i64 yw, .int .i64 now, .int .i64 x.dt, .slice none 0 0, .bool false] 91 (0, 0))) := heap_alloc_new w3 _
 clear d0 d1 d2 z0 z1 z2 H3 FB3 XB D3
 have hg4 : w.heap.size ≤ w3.heap.size := by omega
 have hgne : w3.heap.size ≠ w.heap.size := by omega
 generalize w3.alloc (.cells #[.int .i64 i, .int .i64 x.kd, .int .i64 yw, .int .i64 now, .int .i64 x.dt, .slice none 0 0, .bool false] 91) = w4 at *
 generalize w3.heap.size = s4 at *
 have z2 : w4.cell? ⟨s3, 2, none⟩ = some (.pointer none) := by rw [cell_of_row w4 s3 2 _ _ _ XB4.out]; rfl
 obtain ⟨⟨q0, q1, q2, q3, q4, q5, q6⟩, qf⟩ := gz_cells FB4.out
 obtain ⟨⟨p0, p1, p2, p3, p4, p5, p6⟩, -⟩ := gz_cells GB.out
 have f0 := qf 0
 have f1 := qf 1
 have f2 := qf 2
 have f3 := qf 3
 have f4 := qf 4
 have f5 := qf 5
 have f6 := qf 6
 clear qf
 have HX := Lib.hid (H4.out.cell7 (u0 := .int .i64 i) (u1 := .int .i64 x.kd) (u2 := .int .i64 yw) (u3 := .int .i64 now) (u4 := .int .i64 x.dt) (u5 := .slice none 0 0) (u6 := .bool false) FB4.out (Nat.le_refl _))
 unfold w7 at HX
 go_wp2_with fail
 refine bodyPost_ret (v := .tuple #[vF i x.kd yw now x.dt none 0 0 false, .bool true]) ?_ rfl ⟨rfl, HX.out.1.rs, HX.out.1.rx, HX.out.1.bl⟩
 rw [results_cell_tmp rfl]
 go_simp
end
end Go.Proofs.YtdpapnfjpefhkaaGreat
