/- What sink and settle of package heap do. Conditions: each theorem's own premises. -/
import Derived.Test.YtmadcnpkaijllaaRse
namespace Go.Proofs.Ytmadcnpkaijllaa
open Go.RowKit
set_option linter.unusedVariables false
set_option maxRecDepth 100000
section
variable {Q : List It → Nat → Prop} {B o b c n s : Nat} {P : Option Addr} {m : List It} {K : List Int} {f : Int → Int} {l0 : List It} {x y : It} {w w' wr : World} {i j : Nat}
theorem dn_end (h : HpDn (m.set i x) i) (hi : i < m.length) (e : ∀ c, 0 < c → c < m.length → (c - 1) / 4 = i → ∀ v, m[c]? = some v → x.le v) : Hp (m.set i x) := by
  refine hp_of_dn h (below_of (x := x) (by simp [hi]) fun c h1 h2 h3 v hv => ?_)
  rw [List.length_set] at h2
  rw [List.getElem?_set_ne (by omega)] at hv
  exact e c h1 h2 h3 v hv
theorem dn_next (h : HpDn (m.set i x) i) (hi : i < m.length) (h0 : 0 < j) (hj : (j - 1) / 4 = i) (hy : m[j]? = some y) (e : ∀ c, 0 < c → c < m.length → (c - 1) / 4 = i → ∀ v, m[c]? = some v → y.le v) (hxy : ¬ x.lt y) : HpDn (sw (m.set i x) i j x y) j := by
  refine dn_step h h0 hj (by simp [hi]) (by rw [List.getElem?_set_ne (by omega)]; exact hy) (It.le_of_not hxy) fun c h1 h2 h3 v hv => ?_
  rw [List.length_set] at h2
  rw [List.getElem?_set_ne (by omega)] at hv
  exact e c h1 h2 h3 v hv

set_option maxHeartbeats 8000000 in
theorem sink_any (i : Nat) (x : It) (w : World) (h : Way HpDn B o b P c n K l0 x w m f i w) (hx : Wf x.id) (hl : l0.length ≤ 1000) :
    Calls Try.prog 81 #[.pointer (some ⟨o, 0, none⟩), .int .i64 i, .agg #[.int .i64 x.id, .int .i64 x.w, .int .i64 x.s]] w (SetR B o b P c n l0 w) := by
  have hB1 : Below w.heap.size w (w.alloc (.cells #[.int .i64 x.id, .int .i64 x.w, .int .i64 x.s] 106)) := below_al w _
  have H1 := Lib.hid (h.later hB1)
  have X1 : Hid (Box (w.alloc (.cells #[.int .i64 x.id, .int .i64 x.w, .int .i64 x.s] 106)) w.heap.size x) := Box.new w x
  have n1 : Hid (o ≠ w.heap.size ∧ b ≠ w.heap.size ∧ blk P ≠ some w.heap.size) := ⟨by have := h.hb.lo; omega, by have := h.hb.tm.lt; omega, fun e => by have := (row_lt h.hb.own e).2; omega⟩
  clear h hB1
  go_enter Try.func81, Try.ntmps81
  go_wp2_with fail
  go_loopw [1] (fun u wr => ∃ (i : Nat) (m : List It) (f : Int → Int), u = .int .i64 i ∧ Hid (Way HpDn B o b P c n K l0 x w m f i wr) ∧ Hid (Box wr w.heap.size x)) (fun u _ => l0.length - (intOf u).toNat)
  case atStart => exact ⟨i, m, f, rfl, H1, X1⟩
  case round =>
    clear H1 X1
    obtain ⟨i, m, f, rfl, HW, HX⟩ := hrel
    obtain ⟨q1, q2, q3⟩ := HW.out.klen hl
    have HL := Lib.hid q1
    have q4 : m.length ≤ 1000 := by omega
    clear q1
    by_cases h0 : m.length ≤ 4 * i + 1
    · have HE : Hid (Hp (m.set i x)) := dn_end HW.out.hp q3 fun c h1 h2 h3 => absurd h2 (by omega)
      go_wp2_with fail
      refine (first_none i wr HW.out.hb h0 (by omega)).mono ?_
      rintro e w1 ⟨rfl, rfl⟩
      go_wp2_with fail
      go_quiet (fail)
      have HW2 := Lib.hid (HW.out.later (below_drewN wr nq))
      have HX2 := Lib.hid (HX.out.later (below_drewN wr nq))
      generalize wr.drewN nq = w2 at *
      obtain ⟨xs, x0, x1, x2⟩ := HX2.out
      clear HW HX h0
      go_wp2_with fail
      refine (put_any i x w2 HW2.out.hb q3 hx q4 q2).mono ?_
      rintro e w3 ⟨rfl, r1, r2⟩
      have HR := Lib.hid (HW2.out.end HE.out r1 r2)
      clear r1 r2 HW2 HX2 HE x0 x1 x2
      go_wp2_with fail
      go_end0
      exact HR.out
    · go_wp2_with fail
      refine (first_some i wr HW.out.hb (by omega) q4).mono ?_
      rintro e w1 ⟨j, y, rfl, hj0, hji, hy, hmin, hb1⟩
      have hj := at_lt hy
      have hne : i < j := by omega
      have HJ := Lib.hid (And.intro hj0 (And.intro hji hmin))
      have HY := Lib.hid hy
      have HW1 := Lib.hid (HW.out.later hb1)
      have HX1 := Lib.hid (HX.out.later hb1)
      clear HW HX hb1 hji hmin hj0
      obtain ⟨g, rfl, y0, y1, y2⟩ := HW1.out.hb.at hy
      obtain ⟨xs, x0, x1, x2⟩ := HX1.out
      have a0 := HW1.out.hb.c0
      clear hy
      have KP : Hid (∀ v, Below w1.heap.size w1 v → v.cell? ⟨o, 0, none⟩ = some (.slice (some ⟨g, 0, none⟩) m.length c) ∧ v.cell? ⟨w.heap.size, 0, none⟩ = some (.int .i64 x.id) ∧ v.cell? ⟨w.heap.size, 1, none⟩ = some (.int .i64 x.w) ∧ v.cell? ⟨w.heap.size, 2, none⟩ = some (.int .i64 x.s) ∧ v.cell? ⟨g, j * 3, none⟩ = some (.int .i64 y.id) ∧ v.cell? ⟨g, j * 3 + 1, none⟩ = some (.int .i64 y.w) ∧ v.cell? ⟨g, j * 3 + 2, none⟩ = some (.int .i64 y.s)) := fun v hb => by
        have hs := HX1.out.1
        have hg := (row_lt HW1.out.hb.own (k := g) rfl).2
        exact ⟨(cell_blk (hb.block _ HW1.out.hb.lo) _).trans a0, (cell_blk (hb.block _ hs) _).trans x0, (cell_blk (hb.block _ hs) _).trans x1, (cell_blk (hb.block _ hs) _).trans x2, (cell_blk (hb.block _ hg) _).trans y0, (cell_blk (hb.block _ hg) _).trans y1, (cell_blk (hb.block _ hg) _).trans y2⟩
      go_wp2_with fail
      go_region_held3 (fun v => v.cell? ⟨o, 0, none⟩ = some (.slice (some ⟨g, 0, none⟩) m.length c) ∧ v.cell? ⟨w.heap.size, 0, none⟩ = some (.int .i64 x.id) ∧ v.cell? ⟨w.heap.size, 1, none⟩ = some (.int .i64 x.w) ∧ v.cell? ⟨w.heap.size, 2, none⟩ = some (.int .i64 x.s) ∧ v.cell? ⟨g, j * 3, none⟩ = some (.int .i64 y.id) ∧ v.cell? ⟨g, j * 3 + 1, none⟩ = some (.int .i64 y.w) ∧ v.cell? ⟨g, j * 3 + 2, none⟩ = some (.int .i64 y.s))
        (first | exact KP.out _ (Below.refl _ _).drew | exact KP.out _ ((Below.refl _ _).drew.trans hb3))
        (first
        | (go_at_call 79; go_loud ((with_reducible refine (order_bel y x _).mono ?_); rintro e w3 ⟨rfl, hb3⟩)))
      have hb4 : Below w1.heap.size w1 w3 := (Below.refl _ _).drew.trans hb3
      obtain ⟨a0', x0', x1', x2', y0', y1', y2'⟩ := KP.out _ hb4
      have HW3 := Lib.hid (HW1.out.later hb4)
      have HX3 := Lib.hid (HX1.out.later hb4)
      clear HW1 HX1 KP a0 x0 x1 x2 y0 y1 y2 hb3 hb4
      by_cases hxy : x.lt y
      · have hq := (ord_pos y x).2 hxy
        have HE : Hid (Hp (m.set i x)) := dn_end HW3.out.hp q3 fun c h1 h2 h3 v hv => It.le_trans (It.le_of_lt hxy) (HJ.out.2.2 c h1 h2 h3 v hv)
        generalize ordI y x = r at *
        go_wp2_with fail
        refine (put_any i x w3 HW3.out.hb q3 hx q4 q2).mono ?_
        rintro e w4 ⟨rfl, r1, r2⟩
        have HR := Lib.hid (HW3.out.end HE.out r1 r2)
        clear r1 r2 HW3 HX3 HE a0' x0' x1' x2' y0' y1' y2'
        go_wp2_with fail
        go_end0
        exact HR.out
      · have hq : ¬ 0 < ordI y x := fun e => hxy ((ord_pos y x).1 e)
        have HU : Hid (HpDn (sw (m.set i x) i j x y) j) := dn_next HW3.out.hp q3 HJ.out.1 HJ.out.2.1 HY.out HJ.out.2.2 hxy
        generalize ordI y x = r at *
        go_wp2_with fail
        refine (put_any i y w3 HW3.out.hb q3 (HW3.out.hb.wf y (at_mem HY.out)) q4 q2).mono ?_
        rintro e w4 ⟨rfl, r1, r2⟩
        have HW4 : Hid (Way HpDn B o b (some ⟨g, 0, none⟩) c n K l0 x w (m.set i y) (fput f y.id i) j w4) := HW3.out.step (by omega) HY.out HU.out r1 r2
        have HX4 : Hid (Box w4 w.heap.size x) := HX3.out.chg r2 n1.out
        clear r1 r2 HW3 HX3 HU a0' x0' x1' x2' y0' y1' y2'
        go_wp2_with fail
        go_roundw
        case rel => exact ⟨j, m.set i y, fput f y.id i, rfl, HW4, HX4⟩
        case measure => have := HL.out; simp [intOf]; omega
end
end Go.Proofs.Ytmadcnpkaijllaa
