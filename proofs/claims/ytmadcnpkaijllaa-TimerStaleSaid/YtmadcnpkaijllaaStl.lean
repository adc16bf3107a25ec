/- What settle of package heap does. Conditions: each theorem's own premises. -/
import Derived.Test.YtmadcnpkaijllaaSnk
namespace Go.Proofs.Ytmadcnpkaijllaa
open Go.RowKit
set_option linter.unusedVariables false
set_option maxRecDepth 100000
section
variable {Q Q' : List It → Nat → Prop} {B o b c n s : Nat} {P : Option Addr} {m : List It} {K : List Int} {f : Int → Int} {l0 : List It} {x y : It} {w w' w1 wr : World} {i j : Nat} {e : Ending}
theorem SetR.from (h : SetR B o b P c n l0 w1 e w') (hc : Chg o b (blk P) (blk P) w w1) : SetR B o b P c n l0 w e w' := by
  obtain ⟨h1, m, f, h2, h3, h4, h5, h6⟩ := h
  exact ⟨h1, m, f, h2, h3, h4, h5, hc.trans h6⟩
theorem Way.re (h : Way Q B o b P c n K l0 x w m f i wr) (hq : Q' (m.set i x) i) : Way Q' B o b P c n K l0 x wr m f i wr := ⟨h.hb, h.mid, hq, h.pm, Chg.refl _ _⟩

set_option maxHeartbeats 8000000 in
theorem settle_any (i : Nat) (x : It) (w : World) (h : Way HpAt B o b P c n K l0 x w m f i w) (hx : Wf x.id) (hl : l0.length ≤ 1000) :
    Calls Try.prog 75 #[.pointer (some ⟨o, 0, none⟩), .int .i64 i, .agg #[.int .i64 x.id, .int .i64 x.w, .int .i64 x.s]] w (SetR B o b P c n l0 w) := by
  have hB1 : Below w.heap.size w (w.alloc (.cells #[.int .i64 x.id, .int .i64 x.w, .int .i64 x.s] 106)) := below_al w _
  have HW := Lib.hid (h.later hB1)
  have HX : Hid (Box (w.alloc (.cells #[.int .i64 x.id, .int .i64 x.w, .int .i64 x.s] 106)) w.heap.size x) := Box.new w x
  obtain ⟨q1, q2, q3⟩ := h.klen hl
  have q4 : m.length ≤ 1000 := by omega
  clear h hB1 q1
  by_cases h0 : i = 0
  · subst h0
    have e9 : ((0 : Nat) : Int) = 0 := rfl
    rw [e9]
    go_enter Try.func75, Try.ntmps75
    go_wp2_with fail
    generalize w.alloc (.cells #[.int .i64 x.id, .int .i64 x.w, .int .i64 x.s] 106) = w1 at *
    go_quiet (fail)
    have HW2 := Lib.hid (HW.out.later (below_drewN w1 nq))
    have HX2 := Lib.hid (HX.out.later (below_drewN w1 nq))
    generalize w1.drewN nq = w2 at *
    obtain ⟨xs, x0, x1, x2⟩ := HX2.out
    have HS := Lib.hid (sink_any 0 x w2 (HW2.out.re (dn_first HW2.out.hp)) hx hl)
    clear HW HX
    go_wp2_with fail
    refine HS.out.mono ?_
    rintro e w3 hR
    obtain rfl := hR.1
    have HR := Lib.hid (hR.from HW2.out.ch)
    clear hR HS x0 x1 x2
    go_wp2_with fail
    go_end0
    exact HR.out
  · have hj : (i - 1) / 4 < m.length := by omega
    have hji : (i - 1) / 4 < i := by omega
    obtain ⟨j, hjj⟩ : ∃ j, j = (i - 1) / 4 := ⟨_, rfl⟩
    rw [← hjj] at hj hji
    obtain ⟨y, hy⟩ := ex_at hj
    have HY := Lib.hid hy
    have hA := fun W => above_any i W (by omega) (by omega)
    rw [← hjj] at hA
    have HJ := Lib.hid hjj
    obtain ⟨g, rfl, y0, y1, y2⟩ := HW.out.hb.at hy
    have hpos : (0 : Int) < (i : Int) := by omega
    have hpn : 0 < i := by omega
    have dpos : decide (0 < i) = true := decide_eq_true hpn
    obtain ⟨xs, x0, x1, x2⟩ := HX.out
    have a0 := HW.out.hb.c0
    clear hjj hy
    go_enter Try.func75, Try.ntmps75
    go_wp2_with fail
    generalize w.alloc (.cells #[.int .i64 x.id, .int .i64 x.w, .int .i64 x.s] 106) = wr at *
    have KP : Hid (∀ v, Below wr.heap.size wr v → v.cell? ⟨o, 0, none⟩ = some (.slice (some ⟨g, 0, none⟩) m.length c) ∧ v.cell? ⟨w.heap.size, 0, none⟩ = some (.int .i64 x.id) ∧ v.cell? ⟨w.heap.size, 1, none⟩ = some (.int .i64 x.w) ∧ v.cell? ⟨w.heap.size, 2, none⟩ = some (.int .i64 x.s) ∧ v.cell? ⟨g, j * 3, none⟩ = some (.int .i64 y.id) ∧ v.cell? ⟨g, j * 3 + 1, none⟩ = some (.int .i64 y.w) ∧ v.cell? ⟨g, j * 3 + 2, none⟩ = some (.int .i64 y.s)) := fun v hb => by
      have hs := HX.out.1
      have hg := (row_lt HW.out.hb.own (k := g) rfl).2
      exact ⟨(cell_blk (hb.block _ HW.out.hb.lo) _).trans a0, (cell_blk (hb.block _ hs) _).trans x0, (cell_blk (hb.block _ hs) _).trans x1, (cell_blk (hb.block _ hs) _).trans x2, (cell_blk (hb.block _ hg) _).trans y0, (cell_blk (hb.block _ hg) _).trans y1, (cell_blk (hb.block _ hg) _).trans y2⟩
    go_region_held3 (fun v => v.cell? ⟨o, 0, none⟩ = some (.slice (some ⟨g, 0, none⟩) m.length c) ∧ v.cell? ⟨w.heap.size, 0, none⟩ = some (.int .i64 x.id) ∧ v.cell? ⟨w.heap.size, 1, none⟩ = some (.int .i64 x.w) ∧ v.cell? ⟨w.heap.size, 2, none⟩ = some (.int .i64 x.s) ∧ v.cell? ⟨g, j * 3, none⟩ = some (.int .i64 y.id) ∧ v.cell? ⟨g, j * 3 + 1, none⟩ = some (.int .i64 y.w) ∧ v.cell? ⟨g, j * 3 + 2, none⟩ = some (.int .i64 y.s))
      (first | exact KP.out _ (Below.refl _ _).drew | exact KP.out _ ((Below.refl _ _).drew.trans hb3))
      (first
      | (go_at_call 80; (with_reducible refine (hA _).mono ?_); rintro e w' ⟨rfl, rfl⟩)
      | (go_at_call 79; go_loud ((with_reducible refine (order_bel x y _).mono ?_); rintro e w3 ⟨rfl, hb3⟩)))
    have hb4 : Below wr.heap.size wr w3 := (Below.refl _ _).drew.trans hb3
    obtain ⟨a0', x0', x1', x2', y0', y1', y2'⟩ := KP.out _ hb4
    have HW3 := Lib.hid (HW.out.later hb4)
    clear HW HX KP a0 x0 x1 x2 y0 y1 y2 hb3 hb4
    have ex : (m.set i x)[i]? = some x := by simp [q3]
    have ey : (m.set i x)[(i - 1) / 4]? = some y := by rw [← HJ.out, List.getElem?_set_ne (by omega)]; exact HY.out
    by_cases hxy : x.lt y
    · have hq := (ord_neg x y).2 hxy
      have HS := Lib.hid (rise_any i x w3 (HW3.out.re (up_of_at HW3.out.hp hpn ex ey hxy)) hx hl)
      generalize ordI x y = r at *
      clear ex ey
      go_wp2_with fail
      refine HS.out.mono ?_
      rintro e w4 hR
      obtain rfl := hR.1
      have HR := Lib.hid (hR.from HW3.out.ch)
      clear hR HS a0' x0' x1' x2' y0' y1' y2'
      go_wp2_with fail
      go_end0
      exact HR.out
    · have hq : ¬ ordI x y < 0 := fun e => hxy ((ord_neg x y).1 e)
      have HS := Lib.hid (sink_any i x w3 (HW3.out.re (dn_of_at HW3.out.hp ex ey hxy)) hx hl)
      generalize ordI x y = r at *
      clear ex ey
      go_wp2_with fail
      refine HS.out.mono ?_
      rintro e w4 hR
      obtain rfl := hR.1
      have HR := Lib.hid (hR.from HW3.out.ch)
      clear hR HS a0' x0' x1' x2' y0' y1' y2'
      go_wp2_with fail
      go_end0
      exact HR.out
end
end Go.Proofs.Ytmadcnpkaijllaa
