/- What rise of package heap does. Conditions: each theorem's own premises. -/
import Derived.Test.YtmadcnpkaijllaaFst
namespace Go.Proofs.Ytmadcnpkaijllaa
open Go.RowKit
set_option linter.unusedVariables false
set_option maxRecDepth 100000
/-- All stand where they may: l0 in some order. -/
def SetR (B o b : Nat) (P : Option Addr) (c n : Nat) (l0 : List It) (w : World) (e : Ending) (w' : World) : Prop :=
  e = .returned (.tuple #[]) ∧ ∃ m f, HB B w' o b P c n m (ids m) f ∧ Pl m f ∧ Hp m ∧ m.Perm l0 ∧ Chg o b (blk P) (blk P) w w'
/-- One is on its way: place i is free for it. -/
structure Way (Q : List It → Nat → Prop) (B o b : Nat) (P : Option Addr) (c n : Nat) (K : List Int) (l0 : List It) (x : It) (w : World) (m : List It) (f : Int → Int) (i : Nat) (wr : World) : Prop where
  hb : HB B wr o b P c n m K f
  mid : Mid (ids l0) m i x K f
  hp : Q (m.set i x) i
  pm : (m.set i x).Perm l0
  ch : Chg o b (blk P) (blk P) w wr
/-- Three cells of a block. -/
def Box (w : World) (s : Nat) (x : It) : Prop := s < w.heap.size ∧ w.cell? ⟨s, 0, none⟩ = some (.int .i64 x.id) ∧ w.cell? ⟨s, 1, none⟩ = some (.int .i64 x.w) ∧ w.cell? ⟨s, 2, none⟩ = some (.int .i64 x.s)
section
variable {Q : List It → Nat → Prop} {B o b c n s : Nat} {P : Option Addr} {m : List It} {K : List Int} {f : Int → Int} {l0 : List It} {x y : It} {w w' wr : World} {i j : Nat}
theorem Box.keep (h : Box w s x) (hs : w.heap.size ≤ w'.heap.size) (e : w'.heap[s]? = w.heap[s]?) : Box w' s x := by
  unfold Box; rw [cell_blk e, cell_blk e, cell_blk e]; exact ⟨Nat.lt_of_lt_of_le h.1 hs, h.2⟩
theorem Box.later (h : Box w s x) (hb : Below w.heap.size w w') : Box w' s x := h.keep hb.size (hb.block _ h.1)
theorem Box.chg {p p' : Option Nat} (h : Box w s x) (hc : Chg o b p p' w w') (hn : o ≠ s ∧ b ≠ s ∧ p ≠ some s) : Box w' s x := h.keep hc.size (hc.block s h.1 (fun e => hn.1 e.symm) (fun e => hn.2.1 e.symm) hn.2.2)
theorem Box.new (w : World) (x : It) : Box (w.alloc (.cells #[.int .i64 x.id, .int .i64 x.w, .int .i64 x.s] 106)) w.heap.size x :=
  ⟨by simp, new_cell (w := w) rfl rfl, new_cell (w := w) rfl rfl, new_cell (w := w) rfl rfl⟩
theorem Way.klen (h : Way Q B o b P c n K l0 x w m f i wr) (hl : l0.length ≤ 1000) : m.length = l0.length ∧ K.length ≤ 1000 ∧ i < m.length := by
  have h1 := h.pm.length_eq
  have h2 := h.mid.len
  rw [List.length_set] at h1
  exact ⟨h1, by omega, h.mid.hi⟩
/-- It is put where it is. -/
theorem Way.end (h : Way Q B o b P c n K l0 x w m f i wr) (hp : Hp (m.set i x)) (h1 : HB B w' o b P c n (m.set i x) (if x.id ∈ K then K else K ++ [x.id]) (fput f x.id i)) (h2 : Chg o b (blk P) (blk P) wr w') :
    SetR B o b P c n l0 w (.returned (.tuple #[])) w' :=
  ⟨rfl, _, _, h1.perm h.mid.last.1, h.mid.last.2, hp, h.pm, h.ch.trans h2⟩
/-- Another takes its place. -/
theorem Way.step {Q' : List It → Nat → Prop} (h : Way Q B o b P c n K l0 x w m f i wr) (hj : j ≠ i) (hy : m[j]? = some y) (hq : Q' (sw (m.set i x) i j x y) j) (h1 : HB B w' o b P c n (m.set i y) (if y.id ∈ K then K else K ++ [y.id]) (fput f y.id i)) (h2 : Chg o b (blk P) (blk P) wr w') :
    Way Q' B o b P c n K l0 x w (m.set i y) (fput f y.id i) j w' := by
  obtain ⟨k1, k2⟩ := h.mid.step hj hy
  have hi := h.mid.hi
  have e1 : (m.set i y).set j x = sw (m.set i x) i j x y := by simp [sw]
  rw [if_pos k1] at h1
  refine ⟨h1, k2, by rw [e1]; exact hq, by rw [e1]; exact (sw_perm (by simp [hi]) (by rw [List.getElem?_set_ne (Ne.symm hj)]; exact hy)).trans h.pm, h.ch.trans h2⟩
theorem Way.later (h : Way Q B o b P c n K l0 x w m f i wr) (hb : Below wr.heap.size wr w') : Way Q B o b P c n K l0 x w m f i w' := ⟨h.hb.later hb, h.mid, h.hp, h.pm, h.ch.trans (Chg.of_below _ hb)⟩
theorem up_end (h : HpUp (m.set i x) i) (hi : i < m.length) (e : 0 < i → ∃ y, m[(i - 1) / 4]? = some y ∧ ¬ x.lt y) : Hp (m.set i x) := by
  refine hp_of_up h fun h0 => ?_
  obtain ⟨y, hy, hn⟩ := e h0
  exact edge_of (x := x) (y := y) (by simp [hi]) (by rw [List.getElem?_set_ne (by omega)]; exact hy) hn
theorem up_next (h : HpUp (m.set i x) i) (hi : i < m.length) (h0 : 0 < i) (hy : m[(i - 1) / 4]? = some y) (e : x.lt y) : HpUp (sw (m.set i x) i ((i - 1) / 4) x y) ((i - 1) / 4) :=
  up_step h h0 (by simp [hi]) (by rw [List.getElem?_set_ne (by omega)]; exact hy) e

theorem after_put {g : Nat} (h : HB B w' o b (some ⟨g, 0, none⟩) c n (m.set i x) K f) (hy : m[j]? = some y) (hj : j ≠ i) :
    w'.cell? ⟨o, 0, none⟩ = some (.slice (some ⟨g, 0, none⟩) m.length c) ∧ w'.cell? ⟨g, j * 3, none⟩ = some (.int .i64 y.id) ∧ w'.cell? ⟨g, j * 3 + 1, none⟩ = some (.int .i64 y.w) ∧ w'.cell? ⟨g, j * 3 + 2, none⟩ = some (.int .i64 y.s) := by
  obtain ⟨g', e', h1⟩ := h.at (j := j) (x := y) (by rw [List.getElem?_set_ne (Ne.symm hj)]; exact hy)
  obtain rfl : g' = g := by injection e' with e'; injection e' with e'; exact e'.symm
  have := h.c0
  rw [List.length_set] at this
  exact ⟨this, h1⟩
set_option maxHeartbeats 8000000 in
theorem rise_any (i : Nat) (x : It) (w : World) (h : Way HpUp B o b P c n K l0 x w m f i w) (hx : Wf x.id) (hl : l0.length ≤ 1000) :
    Calls Try.prog 78 #[.pointer (some ⟨o, 0, none⟩), .int .i64 i, .agg #[.int .i64 x.id, .int .i64 x.w, .int .i64 x.s]] w (SetR B o b P c n l0 w) := by
  have hB1 : Below w.heap.size w (w.alloc (.cells #[.int .i64 x.id, .int .i64 x.w, .int .i64 x.s] 106)) := below_al w _
  have H1 := Lib.hid (h.later hB1)
  have X1 : Hid (Box (w.alloc (.cells #[.int .i64 x.id, .int .i64 x.w, .int .i64 x.s] 106)) w.heap.size x) := Box.new w x
  have n1 : Hid (o ≠ w.heap.size ∧ b ≠ w.heap.size ∧ blk P ≠ some w.heap.size) := ⟨by have := h.hb.lo; omega, by have := h.hb.tm.lt; omega, fun e => by have := (row_lt h.hb.own e).2; omega⟩
  clear h hB1
  go_enter Try.func78, Try.ntmps78
  go_wp2_with fail
  go_loopw [1] (fun u wr => ∃ (i : Nat) (m : List It) (f : Int → Int), u = .int .i64 i ∧ Hid (Way HpUp B o b P c n K l0 x w m f i wr) ∧ Hid (Box wr w.heap.size x)) (fun u _ => (intOf u).toNat)
  case atStart => exact ⟨i, m, f, rfl, H1, X1⟩
  case round =>
    clear H1 X1
    obtain ⟨i, m, f, rfl, HW, HX⟩ := hrel
    obtain ⟨q1, q2, q3⟩ := HW.out.klen hl
    by_cases h0 : i = 0
    · subst h0
      have HE : Hid (Hp (m.set 0 x)) := up_end HW.out.hp q3 fun h => absurd h (by omega)
      have e9 : ((0 : Nat) : Int) = 0 := rfl
      rw [e9]
      go_wp2_with fail
      go_quiet (fail)
      have HW2 := Lib.hid (HW.out.later (below_drewN wr nq))
      have HX2 := Lib.hid (HX.out.later (below_drewN wr nq))
      generalize wr.drewN nq = w2 at *
      obtain ⟨xs, x0, x1, x2⟩ := HX2.out
      clear HW HX
      go_wp2_with fail
      refine (put_any 0 x w2 HW2.out.hb q3 hx (by omega) q2).mono ?_
      rintro e w3 ⟨rfl, r1, r2⟩
      have HR := Lib.hid (HW2.out.end HE.out r1 r2)
      clear r1 r2 HW2 HX2 HE x0 x1 x2
      go_wp2_with fail
      go_end0
      exact HR.out
    · have hj : (i - 1) / 4 < m.length := by omega
      have hji : (i - 1) / 4 < i := by omega
      obtain ⟨j, hjj⟩ : ∃ j, j = (i - 1) / 4 := ⟨_, rfl⟩
      rw [← hjj] at hj hji
      obtain ⟨y, hy⟩ := ex_at hj
      have HY := Lib.hid hy
      have hA := fun W => above_any i W (by omega) (by omega)
      rw [← hjj] at hA
      have HJ := Lib.hid hjj
      have HL := Lib.hid q1
      have q4 : m.length ≤ 1000 := by omega
      clear hjj q1
      obtain ⟨g, rfl, y0, y1, y2⟩ := HW.out.hb.at hy
      have hpos : (0 : Int) < (i : Int) := by omega
      have hpn : 0 < i := by omega
      have dpos : decide (0 < i) = true := decide_eq_true hpn
      obtain ⟨xs, x0, x1, x2⟩ := HX.out
      have a0 := HW.out.hb.c0
      have KP : Hid (∀ v, Below wr.heap.size wr v → v.cell? ⟨o, 0, none⟩ = some (.slice (some ⟨g, 0, none⟩) m.length c) ∧ v.cell? ⟨w.heap.size, 0, none⟩ = some (.int .i64 x.id) ∧ v.cell? ⟨w.heap.size, 1, none⟩ = some (.int .i64 x.w) ∧ v.cell? ⟨w.heap.size, 2, none⟩ = some (.int .i64 x.s) ∧ v.cell? ⟨g, j * 3, none⟩ = some (.int .i64 y.id) ∧ v.cell? ⟨g, j * 3 + 1, none⟩ = some (.int .i64 y.w) ∧ v.cell? ⟨g, j * 3 + 2, none⟩ = some (.int .i64 y.s)) := fun v hb => by
        have hs := HX.out.1
        have hg := (row_lt HW.out.hb.own (k := g) rfl).2
        exact ⟨(cell_blk (hb.block _ HW.out.hb.lo) _).trans a0, (cell_blk (hb.block _ hs) _).trans x0, (cell_blk (hb.block _ hs) _).trans x1, (cell_blk (hb.block _ hs) _).trans x2, (cell_blk (hb.block _ hg) _).trans y0, (cell_blk (hb.block _ hg) _).trans y1, (cell_blk (hb.block _ hg) _).trans y2⟩
      go_wp2_with fail
      go_region_held3 (fun v => v.cell? ⟨o, 0, none⟩ = some (.slice (some ⟨g, 0, none⟩) m.length c) ∧ v.cell? ⟨w.heap.size, 0, none⟩ = some (.int .i64 x.id) ∧ v.cell? ⟨w.heap.size, 1, none⟩ = some (.int .i64 x.w) ∧ v.cell? ⟨w.heap.size, 2, none⟩ = some (.int .i64 x.s) ∧ v.cell? ⟨g, j * 3, none⟩ = some (.int .i64 y.id) ∧ v.cell? ⟨g, j * 3 + 1, none⟩ = some (.int .i64 y.w) ∧ v.cell? ⟨g, j * 3 + 2, none⟩ = some (.int .i64 y.s))
        (first | exact KP.out _ (Below.refl _ _).drew | exact KP.out _ ((Below.refl _ _).drew.trans hb3))
        (first
        | (go_at_call 80; (with_reducible refine (hA _).mono ?_); rintro e w' ⟨rfl, rfl⟩)
        | (go_at_call 79; go_loud ((with_reducible refine (order_bel x y _).mono ?_); rintro e w3 ⟨rfl, hb3⟩)))
      have hb4 : Below wr.heap.size wr w3 := (Below.refl _ _).drew.trans hb3
      obtain ⟨a0', x0', x1', x2', y0', y1', y2'⟩ := KP.out _ hb4
      have HW3 := Lib.hid (HW.out.later hb4)
      have HX3 := Lib.hid (HX.out.later hb4)
      clear HW HX KP a0 x0 x1 x2 y0 y1 y2 hb3 hb4
      by_cases hxy : x.lt y
      · have hq := (ord_neg x y).2 hxy
        have HU : Hid (HpUp (sw (m.set i x) i j x y) j) := by rw [HJ.out]; exact up_next HW3.out.hp q3 hpn (by rw [← HJ.out]; exact HY.out) hxy
        generalize ordI x y = r at *
        have hP := fun W hb => put_any i y W (HW3.out.hb.later (w' := W) hb) q3 (HW3.out.hb.wf y (at_mem HY.out)) q4 q2
        go_wp2_with fail
        go_region_held3 (fun v => v.cell? ⟨o, 0, none⟩ = some (.slice (some ⟨g, 0, none⟩) m.length c) ∧ v.cell? ⟨g, j * 3, none⟩ = some (.int .i64 y.id) ∧ v.cell? ⟨g, j * 3 + 1, none⟩ = some (.int .i64 y.w) ∧ v.cell? ⟨g, j * 3 + 2, none⟩ = some (.int .i64 y.s))
          (first | exact ⟨a0', y0', y1', y2'⟩ | exact HZ4.out)
          (first
          | (go_at_call 80; (with_reducible refine (hA _).mono ?_); rintro e w' ⟨rfl, rfl⟩)
          | (go_at_call 82; go_loud ((with_reducible refine (hP _ (Below.refl _ _).drew).mono ?_); rintro e w4 ⟨rfl, r1, r2⟩; have HZ4 : Hid (w4.cell? ⟨o, 0, none⟩ = some (.slice (some ⟨g, 0, none⟩) m.length c) ∧ w4.cell? ⟨g, j * 3, none⟩ = some (.int .i64 y.id) ∧ w4.cell? ⟨g, j * 3 + 1, none⟩ = some (.int .i64 y.w) ∧ w4.cell? ⟨g, j * 3 + 2, none⟩ = some (.int .i64 y.s)) := (after_put r1 HY.out (by omega)))))
        have HW4 : Hid (Way HpUp B o b (some ⟨g, 0, none⟩) c n K l0 x w (m.set i y) (fput f y.id i) j w4) := (HW3.out.later (Below.refl _ _).drew).step (by omega) HY.out HU.out r1 r2
        have HX4 : Hid (Box w4 w.heap.size x) := (HX3.out.later (Below.refl _ _).drew).chg r2 n1.out
        clear r1 r2 HW3 HX3 HU HZ4 a0' x0' x1' x2' y0' y1' y2' hP
        go_wp2_with (go_at_call 80; (with_reducible refine (hA _).mono ?_); rintro e w' ⟨rfl, rfl⟩)
        go_roundw
        case rel => exact ⟨j, m.set i y, fput f y.id i, rfl, HW4, HX4⟩
        case measure => simp [intOf]; omega
      · have hq : ¬ ordI x y < 0 := fun e => hxy ((ord_neg x y).1 e)
        have HE : Hid (Hp (m.set i x)) := up_end HW3.out.hp q3 fun _ => ⟨y, by rw [← HJ.out]; exact HY.out, hxy⟩
        generalize ordI x y = r at *
        go_wp2_with fail
        refine (put_any i x w3 HW3.out.hb q3 hx q4 q2).mono ?_
        rintro e w4 ⟨rfl, r1, r2⟩
        have HR := Lib.hid (HW3.out.end HE.out r1 r2)
        clear r1 r2 HW3 HX3 HE a0' x0' x1' x2' y0' y1' y2'
        go_wp2_with fail
        go_end0
        exact HR.out
end
end Go.Proofs.Ytmadcnpkaijllaa
