/- Fire of package timer. Conditions: each theorem's own premises. -/
import Derived.Test.YtmadcnpkaijllaaSrs
namespace Go.Proofs.Ytmadcnpkaijllaa
open Go.RowKit Ch
set_option linter.unusedVariables false
set_option maxRecDepth 100000
section
variable {W w w' w'' : World} {t m n n' i j c : Nat} {E E' : List On} {S S' : List It} {g g' : Int → Int} {L L' : List (Nat × CS)} {v : Value} {e : Ending} {x : On} {s s' : CS} {ws : List Wk} {kept : Bool} {now : Int}
/-- A time is put on the channel of one that was made: the channels, who is woken, and whether it was kept. -/
structure Pt (L : List (Nat × CS)) (x : On) (now : Int) (L' : List (Nat × CS)) (ws : List Wk) (kept : Bool) : Prop where
  h : (x.ch = none ∧ L' = L ∧ ws = [] ∧ kept = false) ∨ ∃ c j s s', x.ch = some c ∧ L[j]? = some (c, s) ∧ s.kd = 1 ∧ s.rs.length ≤ 1000000 ∧ gv s now = (s', ws, kept) ∧ L' = L.set j (c, s')
theorem Pt.none (hc : x.ch = none) : Pt L x now L [] false := ⟨.inl ⟨hc, rfl, rfl, rfl⟩⟩
theorem Pt.chan (hc : x.ch = some c) (hi : L[j]? = some (c, s)) (hk : s.kd = 1) (hr : s.rs.length ≤ 1000000) (hg : gv s now = (s', ws, kept)) : Pt L x now (L.set j (c, s')) ws kept := ⟨.inr ⟨c, j, s, s', hc, hi, hk, hr, hg, rfl⟩⟩
theorem put_at (h : SS W t E m n S g L w) (hp : Pt L x now L' ws kept) : Calls Try.prog 33 #[.pointer (cp x.ch), .int .i64 now] w fun e w' =>
    ∃ A k, e = .returned (.tuple #[.slice A ws.length k, .bool kept]) ∧ RdK w' A ws.length ws ∧ SS W t E m n S g L' w' ∧ Kp w w' := by
  rcases hp.h with ⟨hc, rfl, rfl, rfl⟩ | ⟨c, j, s, s', hc, hi, hk, hr, hg, rfl⟩
  · rw [hc]
    refine (put_nil now w).mono ?_
    rintro e w' ⟨rfl, rfl⟩
    exact ⟨none, 0, rfl, RdK.nil _ _, h, Kp.refl _⟩
  · rw [hc]
    refine (ms_put now h.ms hi hk hr hg rfl).mono ?_
    rintro e w' ⟨A, k, rfl, h1, h2, h3⟩
    exact ⟨A, k, rfl, h1, (h.chan h2 h3).1, h3⟩
abbrev vF (id kd wh at_ dt : Int) (A : Option Addr) (n k : Nat) (b : Bool) : Value := .agg #[.int .i64 id, .int .i64 kd, .int .i64 wh, .int .i64 at_, .int .i64 dt, .slice A n k, .bool b]
abbrev fZ : Obj := .cells #[.int .i64 0, .int .i64 0, .int .i64 0, .int .i64 0, .int .i64 0, .slice none 0 0, .bool false] 35
theorem fire_nil (now : Int) (w : World) : Calls Try.prog 15 #[.pointer none, .int .i64 now] w fun e w' => e = .returned (.tuple #[vF 0 0 0 0 0 none 0 0 false, .bool false]) ∧ Below w.heap.size w w' := by
  go_enter Try.func15, Try.ntmps15
  go_wp2_with fail
  refine bodyPost_ret (v := .tuple #[vF 0 0 0 0 0 none 0 0 false, .bool false]) ?_ rfl ⟨rfl, ?_⟩
  · rw [results_cell_tmp rfl]; go_simp; try rfl
  · first | exact below_al _ _ | (repeat' (first | exact below_al _ _ | refine Below.alloc ?_ (by omega) _))
/-- The seven cells of one that fired. -/
theorem fz_cells {b : Nat} {u0 u1 u2 u3 u4 u5 u6 : Value} (h : w.heap[b]? = some (.cells #[u0, u1, u2, u3, u4, u5, u6] 35 (0, 0))) :
    (w.cell? ⟨b, 0, none⟩ = some u0 ∧ w.cell? ⟨b, 1, none⟩ = some u1 ∧ w.cell? ⟨b, 2, none⟩ = some u2 ∧ w.cell? ⟨b, 3, none⟩ = some u3 ∧ w.cell? ⟨b, 4, none⟩ = some u4 ∧ w.cell? ⟨b, 5, none⟩ = some u5 ∧ w.cell? ⟨b, 6, none⟩ = some u6) ∧ ∀ k, w.frozen? ⟨b, k, none⟩ = false := by
  refine ⟨⟨?_, ?_, ?_, ?_, ?_, ?_, ?_⟩, fun k => frozen_of_row w b k _ _ h⟩
  · rw [cell_of_row w b 0 _ _ _ h]; rfl
  · rw [cell_of_row w b 1 _ _ _ h]; rfl
  · rw [cell_of_row w b 2 _ _ _ h]; rfl
  · rw [cell_of_row w b 3 _ _ _ h]; rfl
  · rw [cell_of_row w b 4 _ _ _ h]; rfl
  · rw [cell_of_row w b 5 _ _ _ h]; rfl
  · rw [cell_of_row w b 6 _ _ _ h]; rfl
/-- The world with all seven written. -/
def w7 (w : World) (b : Nat) (u0 u1 u2 u3 u4 u5 u6 : Value) : World := ((((((w.setCell ⟨b, 0, none⟩ u0).setCell ⟨b, 1, none⟩ u1).setCell ⟨b, 2, none⟩ u2).setCell ⟨b, 3, none⟩ u3).setCell ⟨b, 4, none⟩ u4).setCell ⟨b, 5, none⟩ u5).setCell ⟨b, 6, none⟩ u6
theorem w7_other {w0 : World} {b : Nat} {u0 u1 u2 u3 u4 u5 u6 y0 y1 y2 y3 y4 y5 y6 : Value} (h : SS W t E m n S g L w) (hb : w.heap[b]? = some (.cells #[y0, y1, y2, y3, y4, y5, y6] 35 (0, 0))) (hW : W.heap.size ≤ b) (hz : OZ w0 w) (h0 : w0.heap.size ≤ b) :
    SS W t E m n S g L (w7 w b u0 u1 u2 u3 u4 u5 u6) ∧ OZ w0 (w7 w b u0 u1 u2 u3 u4 u5 u6) ∧ ∀ k, k ≠ b → (w7 w b u0 u1 u2 u3 u4 u5 u6).heap[k]? = w.heap[k]? := by
  have e1 := heap_setCell_same w b 0 _ _ u0 hb
  have e2 := heap_setCell_same _ b 1 _ _ u1 e1
  have e3 := heap_setCell_same _ b 2 _ _ u2 e2
  have e4 := heap_setCell_same _ b 3 _ _ u3 e3
  have e5 := heap_setCell_same _ b 4 _ _ u4 e4
  have e6 := heap_setCell_same _ b 5 _ _ u5 e5
  have o : OthZ 35 := by decide
  refine ⟨((((((h.cellO hb o hW 0 u0).cellO e1 o hW 1 u1).cellO e2 o hW 2 u2).cellO e3 o hW 3 u3).cellO e4 o hW 4 u4).cellO e5 o hW 5 u5).cellO e6 o hW 6 u6, ((((((hz.cell h0 0 u0).cell h0 1 u1).cell h0 2 u2).cell h0 3 u3).cell h0 4 u4).cell h0 5 u5).cell h0 6 u6, fun k hk => ?_⟩
  unfold w7
  repeat (refine (Below.heap_setCell _ _ _ _ (by exact hk)).trans ?_)
  rfl
set_option maxHeartbeats 8000000 in
theorem fire_no (h : SS W t E m n S g L w) (hT : tk now n S g = (none, n, S, g)) (hn : n ≤ 1000000) (hl : S.length ≤ 1000) :
    Calls Try.prog 15 #[pS t, .int .i64 now] w (SZ W t E m n S g L (.tuple #[vF 0 0 0 0 0 none 0 0 false, .bool false]) w) := by
  have hsz := h.bel.size
  have HA := Lib.hid (h.box fZ)
  have FB := Lib.hid (heap_alloc_new w fZ)
  clear h
  go_enter Try.func15, Try.ntmps15
  go_wp2_with fail
  refine (ss_ttake now HA.out hn hl).mono ?_
  rintro e w1 hz
  rw [hT] at hz
  have HZ := Lib.hid hz
  obtain rfl := hz.1
  clear hz HA
  have FB1 := Lib.hid (HZ.out.2.2 _ _ _ _ FB.out (by decide))
  have H2 := Lib.hid (HZ.out.2.1.box (.cells #[.int .i64 0, .int .i64 0, .int .i64 0] 76))
  have FB2 := Lib.hid (((below_al w1 (.cells #[.int .i64 0, .int .i64 0, .int .i64 0] 76)).block _ (lt_of_blk FB1.out)).trans FB1.out)
  have HO : Hid (OZ w (w1.alloc (.cells #[.int .i64 0, .int .i64 0, .int .i64 0] 76))) := ((OZ.of_below (below_al w fZ)).trans HZ.out.2.2).trans (OZ.of_below (below_al _ _))
  clear HZ FB FB1
  simp only [tkV]
  go_upto_region 4 with (fail)
  generalize w1.alloc (.cells #[.int .i64 0, .int .i64 0, .int .i64 0] 76) = w2 at *
  obtain ⟨⟨q0, q1, q2, q3, q4, q5, q6⟩, qf⟩ := fz_cells FB2.out
  have f0 := qf 0
  have f1 := qf 1
  have f2 := qf 2
  have f3 := qf 3
  have f4 := qf 4
  have f5 := qf 5
  have f6 := qf 6
  clear qf
  have HX := Lib.hid (w7_other (u0 := .int .i64 0) (u1 := .int .i64 0) (u2 := .int .i64 0) (u3 := .int .i64 0) (u4 := .int .i64 0) (u5 := .slice none 0 0) (u6 := .bool false) H2.out FB2.out hsz HO.out (Nat.le_refl _))
  unfold w7 at HX
  go_wp2_with fail
  refine bodyPost_ret (v := .tuple #[vF 0 0 0 0 0 none 0 0 false, .bool false]) ?_ rfl ⟨rfl, HX.out.1, HX.out.2.1⟩
  rw [results_cell_tmp rfl]
  go_simp
set_option maxHeartbeats 8000000 in
theorem fire_some {yw ys : Int} (h : SS W t E m n S g L w) (hT : tk now n S g = (some ⟨(i : Int), yw, ys⟩, n', S', g')) (hx : E[i]? = some x) (hp : Pt L x now L' ws kept) (hE : E.length ≤ 100000) (hn : n ≤ 1000000) (hl : S.length ≤ 1000) :
    Calls Try.prog 15 #[pS t, .int .i64 now] w fun e w' => ∃ A k, e = .returned (.tuple #[vF i x.kd yw now x.dt A ws.length k kept, .bool true]) ∧ RdK w' A ws.length ws ∧ SS W t E m n' S' g' L' w' ∧ OZ w w' := by
  have hlt := (List.getElem?_eq_some_iff.1 hx).1
  have b1 : (0 : Int) ≤ (i : Int) := by omega
  have b2 : (i : Int) < (E.length : Int) := by omega
  have hsz := h.bel.size
  have HX := Lib.hid hx
  have HP := Lib.hid hp
  have HA := Lib.hid (h.box fZ)
  have FB := Lib.hid (heap_alloc_new w fZ)
  clear h hx hp hlt hE
  go_enter Try.func15, Try.ntmps15
  go_wp2_with fail
  refine (ss_ttake now HA.out hn hl).mono ?_
  rintro e w1 hz
  rw [hT] at hz
  have HZ := Lib.hid hz
  obtain rfl := hz.1
  clear hz HA hT
  have FB1 := Lib.hid (HZ.out.2.2 _ _ _ _ FB.out (by decide))
  have H2 := Lib.hid (HZ.out.2.1.box (.cells #[.int .i64 i, .int .i64 yw, .int .i64 now] 76))
  have FB2 := Lib.hid (((below_al w1 (.cells #[.int .i64 i, .int .i64 yw, .int .i64 now] 76)).block _ (lt_of_blk FB1.out)).trans FB1.out)
  have HO : Hid (OZ w (w1.alloc (.cells #[.int .i64 i, .int .i64 yw, .int .i64 now] 76))) := ((OZ.of_below (below_al w fZ)).trans HZ.out.2.2).trans (OZ.of_below (below_al _ _))
  have D2 := Lib.hid (Dbk.new w1 i yw now)
  have hne : w.heap.size < w1.heap.size := lt_of_blk FB1.out
  clear HZ FB FB1
  simp only [tkV]
  go_upto_region 6 with (fail)
  have hs2 : w1.heap.size < (w1.alloc (.cells #[.int .i64 i, .int .i64 yw, .int .i64 now] 76)).heap.size := by rw [World.size_alloc]; omega
  generalize w1.alloc (.cells #[.int .i64 i, .int .i64 yw, .int .i64 now] 76) = w2 at *
  generalize w1.heap.size = s2 at *
  obtain ⟨d0, d1, d2, -⟩ := D2.out.cells
  obtain ⟨P, cc, c0, -, -, -, hr⟩ := H2.out.cells
  obtain ⟨q, rfl, hq, ⟨x0, x1, x2, x3⟩, -, -⟩ := hr i x HX.out
  have ht2 := H2.out.lt
  clear hr
  go_region
  go_upto_region 7 with (fail)
  have hb3 : Below w2.heap.size w2 (w2.alloc (.cells #[.int .i64 x.kd, .int .i64 x.dt, .pointer (cp x.ch), .int .i64 x.gn] 80)).drew := (below_al w2 _).drew
  have XB : Hid ((w2.alloc (.cells #[.int .i64 x.kd, .int .i64 x.dt, .pointer (cp x.ch), .int .i64 x.gn] 80)).drew.heap[w2.heap.size]? = some (.cells #[.int .i64 x.kd, .int .i64 x.dt, .pointer (cp x.ch), .int .i64 x.gn] 80 (0, 0))) := heap_alloc_new w2 _
  have hs3 : s2 < w2.heap.size := hs2
  clear c0 hq x0 x1 x2 x3 d0 d1 d2 ht2 hs2
  have H3 := Lib.hid (H2.out.later hb3)
  have FB3 := Lib.hid ((hb3.block _ (lt_of_blk FB2.out)).trans FB2.out)
  have D3 := Lib.hid (D2.out.later hb3)
  have HO3 : Hid (OZ w _) := HO.out.trans (OZ.of_below hb3)
  clear H2 FB2 D2 HO hb3
  generalize (w2.alloc (.cells #[.int .i64 x.kd, .int .i64 x.dt, .pointer (cp x.ch), .int .i64 x.gn] 80)).drew = w3 at *
  generalize w2.heap.size = s3 at *
  have z2 : w3.cell? ⟨s3, 2, none⟩ = some (.pointer (cp x.ch)) := by rw [cell_of_row w3 s3 2 _ _ _ XB.out]; rfl
  go_wp2_with fail
  refine (put_at H3.out HP.out).mono ?_
  rintro e w4 ⟨A, k, rfl, hr, hs, hk⟩
  have HS := Lib.hid hs
  have HR := Lib.hid hr
  have HO4 : Hid (OZ w w4) := HO3.out.trans hk.oz
  have FB4 := Lib.hid (hk.at FB3.out (by decide))
  have D4 : Hid (Dbk w4 s2 i yw now) := hk.at D3.out (by decide)
  have XB4 := Lib.hid (hk.at XB.out (by decide))
  clear hs hr hk z2 H3 FB3 D3 HO3 XB HP HX
  obtain ⟨⟨q0, q1, q2, q3, q4, q5, q6⟩, qf⟩ := fz_cells FB4.out
  have f0 := qf 0
  have f1 := qf 1
  have f2 := qf 2
  have f3 := qf 3
  have f4 := qf 4
  have f5 := qf 5
  have f6 := qf 6
  clear qf
  obtain ⟨d0, d1, d2, -⟩ := D4.out.cells
  have z0 : w4.cell? ⟨s3, 0, none⟩ = some (.int .i64 x.kd) := by rw [cell_of_row w4 s3 0 _ _ _ XB4.out]; rfl
  have z1 : w4.cell? ⟨s3, 1, none⟩ = some (.int .i64 x.dt) := by rw [cell_of_row w4 s3 1 _ _ _ XB4.out]; rfl
  have HX := Lib.hid (w7_other (u0 := .int .i64 i) (u1 := .int .i64 x.kd) (u2 := .int .i64 yw) (u3 := .int .i64 now) (u4 := .int .i64 x.dt) (u5 := .slice A ws.length k) (u6 := .bool kept) HS.out FB4.out hsz HO4.out (Nat.le_refl _))
  have HR2 := Lib.hid (HR.out.keep (w' := w7 w4 w.heap.size (.int .i64 i) (.int .i64 x.kd) (.int .i64 yw) (.int .i64 now) (.int .i64 x.dt) (.slice A ws.length k) (.bool kept)) fun b cs e => HX.out.2.2 b (by
    rintro rfl
    have e2 := FB4.out
    rw [e] at e2; injection e2 with e2; injection e2 with _ e2 _; exact absurd e2 (by decide)))
  unfold w7 at HX HR2
  clear HR HS
  go_wp2_with fail
  refine bodyPost_ret (v := .tuple #[vF i x.kd yw now x.dt A ws.length k kept, .bool true]) ?_ rfl ⟨A, k, rfl, HR2.out, HX.out.1, HX.out.2.1⟩
  rw [results_cell_tmp rfl]
  go_simp
end
end Go.Proofs.Ytmadcnpkaijllaa
