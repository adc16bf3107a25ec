/- The cases that a law makes of picks, on both. Conditions: each theorem's own premises. -/
import Derived.Test.YtmcacmbllpphiaaPk
import Derived.Deep.RegionHeld3
import Derived.Deep.RegionLaw
import Derived.Deep.CutRange
import Derived.Deep.DeepCutAuto
namespace Go.Proofs.Ytmcacmbllpphiaa
open Go.RowKit
set_option linter.unusedVariables false

theorem inf97 : (Try.prog.info? 97).map (fun i => (i.zero, i.size, i.bytes)) = some (some (.agg #[.pointer none, .bool false, .int .i64 0]), 3, 24) := by kernel_rfl
/-- Two rows of the call's own. -/
structure CR (W : World) (B C : List Nat) (vx vy : Value) (lx ly : List Ca) (w : World) : Prop where
  bel : Below W.heap.size W w
  rx : w.ownsRow W.heap.size 65 3 vx lx.length (caF B lx)
  ry : w.ownsRow W.heap.size 97 3 vy ly.length (caF C ly)
theorem rd_blkT {w : World} {B : List Nat} {N : Nat} {x : Ca} {t : TypeId} (h : w.heap[N]? = some (.cells (caA B x) t (0, 0))) : Rd w w.heap.size (some ⟨N, 0, none⟩) 1 3 (caF B [x]) := by
  refine ⟨rfl, fun _ => ⟨N, 0, rfl, lt_of_blk h, fun j u hu => ?_⟩⟩
  rw [Nat.zero_add, cell_of_row w N j _ _ _ h]
  simpa [caF, caV, caA] using hu
section
variable {W w w' wx : World} {B C : List Nat} {vx vy : Value} {lx ly : List Ca} {ops : Array Oper} {o : Oper} {a : Act} {K : Act → World → Prop} {Q : Exit → Act → World → Prop} {E : Prop}
theorem CR.later (h : CR W B C vx vy lx ly w) (hb : Below w.heap.size w w') : CR W B C vx vy lx ly w' :=
  ⟨h.bel.trans (hb.mono h.bel.size), own_kept h.rx fun b e => hb.block b (h.rx.lt b e).2, own_kept h.ry fun b e => hb.block b (h.ry.lt b e).2⟩
theorem CR.start (W : World) (B C : List Nat) : CR W B C (.slice none 0 0) (.slice none 0 0) [] [] W := ⟨Below.refl _ _, World.ownsRow_nil _ _ _ _, World.ownsRow_nil _ _ _ _⟩
theorem grown_keep {w w' : World} {base n sz : Nat} {e t : TypeId} {v : Value} {xs : List Value} (ho : w.ownsRow base e sz v n xs) (hg : w.grownBy w' v.ownBlock) (ht : e ≠ t) {b : Nat} {cs : Array Value} (hb : w.heap[b]? = some (.cells cs t (0, 0))) : w'.heap[b]? = some (.cells cs t (0, 0)) := by
  refine (hg.block b (lt_of_blk hb) fun e9 => ?_).trans hb
  obtain ⟨ds, h8⟩ := own_tg ho e9.symm
  exact tag_ne h8 hb ht rfl
theorem step_x (hgd : o.guard = none) (s x : Operand) (hop : o.op = .call { callee := .builtin .append, args := #[s, x], argTypes := #[38, 38] })
    (N c : Nat) (y : Ca) (hv : a.eval s = vx) (hx : a.eval x = .slice (some ⟨N, 0, none⟩) 1 c) (h0 : CR W B C vx vy lx ly w) (hb0 : Below w.heap.size w wx) (hN : wx.heap[N]? = some (.cells (caA B y) 65 (0, 0))) (hn : lx.length ≤ 1000)
    (hK : ∀ v' w', CR W B C v' vy (lx ++ [y]) ly w' → (∀ (b : Nat) (cs : Array Value), wx.heap[b]? = some (.cells cs 97 (0, 0)) → w'.heap[b]? = some (.cells cs 97 (0, 0))) → (∀ (b : Nat) (cs : Array Value), w.heap[b]? = some (.cells cs 97 (0, 0)) → w'.heap[b]? = some (.cells cs 97 (0, 0))) → K (a.put o.dst v') w') :
    if Region.wanted o (yielded ops a.tmps) = true then Oper.wp Try.prog o a wx K Q else E := by
  have h := h0.later hb0
  obtain ⟨i0, hi, hz0, hz1, hz2⟩ := info_parts inf65
  refine step_app hgd s x 38 hop W.heap.size 65 3 24 i0 _ Try.underlying38 hi hz0 hz1 hz2 rfl (by decide) _ lx.length (caF B lx) hv h.rx _ (some ⟨N, 0, none⟩) 1 c (caF B [y]) hx (rd_blkT hN) (caF_one _ _) (by unfold maxLen; omega) (by omega) h.bel.size fun v' w' ho hg => ?_
  have kp : ∀ (b : Nat) (cs : Array Value), wx.heap[b]? = some (.cells cs 97 (0, 0)) → w'.heap[b]? = some (.cells cs 97 (0, 0)) := fun b cs hb => grown_keep h.rx hg (by decide) hb
  refine hK v' w' ⟨below_app h.bel (Nat.le_refl _) h.bel.size h.rx hg, by rw [caF_app, List.length_append, List.length_singleton]; exact ho, own_kept h.ry fun b e => ?_⟩ kp (fun b cs hb => kp b cs ((hb0.block b (lt_of_blk hb)).trans hb))
  obtain ⟨cs, h8⟩ := own_tg h.ry e
  exact (kp b cs h8).trans h8.symm
theorem step_y (hgd : o.guard = none) (s x : Operand) (hop : o.op = .call { callee := .builtin .append, args := #[s, x], argTypes := #[39, 39] })
    (N c : Nat) (y : Ca) (hv : a.eval s = vy) (hx : a.eval x = .slice (some ⟨N, 0, none⟩) 1 c) (h0 : CR W B C vx vy lx ly w) (hb0 : Below w.heap.size w wx) (hN : wx.heap[N]? = some (.cells (caA C y) 97 (0, 0))) (hn : ly.length ≤ 1000)
    (hK : ∀ v' w', CR W B C vx v' lx (ly ++ [y]) w' → (∀ (b : Nat) (cs : Array Value), wx.heap[b]? = some (.cells cs 65 (0, 0)) → w'.heap[b]? = some (.cells cs 65 (0, 0))) → (∀ (b : Nat) (cs : Array Value), w.heap[b]? = some (.cells cs 65 (0, 0)) → w'.heap[b]? = some (.cells cs 65 (0, 0))) → K (a.put o.dst v') w') :
    if Region.wanted o (yielded ops a.tmps) = true then Oper.wp Try.prog o a wx K Q else E := by
  have h := h0.later hb0
  obtain ⟨i0, hi, hz0, hz1, hz2⟩ := info_parts inf97
  refine step_app hgd s x 39 hop W.heap.size 97 3 24 i0 _ Try.underlying39 hi hz0 hz1 hz2 rfl (by decide) _ ly.length (caF C ly) hv h.ry _ (some ⟨N, 0, none⟩) 1 c (caF C [y]) hx (rd_blkT hN) (caF_one _ _) (by unfold maxLen; omega) (by omega) h.bel.size fun v' w' ho hg => ?_
  have kp : ∀ (b : Nat) (cs : Array Value), wx.heap[b]? = some (.cells cs 65 (0, 0)) → w'.heap[b]? = some (.cells cs 65 (0, 0)) := fun b cs hb => grown_keep h.ry hg (by decide) hb
  refine hK v' w' ⟨below_app h.bel (Nat.le_refl _) h.bel.size h.ry hg, own_kept h.rx fun b e => ?_, by rw [caF_app, List.length_append, List.length_singleton]; exact ho⟩ kp (fun b cs hb => kp b cs ((hb0.block b (lt_of_blk hb)).trans hb))
  obtain ⟨cs, h8⟩ := own_tg h.rx e
  exact (kp b cs h8).trans h8.symm
end
theorem al2a (w : World) (o o2 : Obj) : ((w.alloc o).alloc o2).heap[w.heap.size]? = some o := (Below.heap_alloc _ _ _ (by simp)).trans (heap_alloc_new _ _)
theorem al2b (w : World) (o o2 : Obj) : ((w.alloc o).alloc o2).heap[w.heap.size + 1]? = some o2 := by
  have := heap_alloc_new (w.alloc o) o2
  rw [World.size_alloc] at this
  exact this
def CsR (B C : List Nat) (l : List Ca) (w : World) (e : Ending) (w' : World) : Prop :=
  ∃ A1 k1 A2 k2, e = .returned (.tuple #[.slice A1 l.length k1, .slice A2 l.length k2]) ∧ RdX 65 B w' A1 l.length l ∧ RdX 97 C w' A2 l.length l ∧ Below w.heap.size w w'
set_option maxRecDepth 100000 in
set_option maxHeartbeats 8000000 in
theorem cases_any {W w : World} {B C : List Nat} {A A1 A2 : Option Addr} {n cap m c1 c2 : Nat} {P : List Pk} {K : List (Option Nat)} (hP : IsP W A n cap P) (hb0 : Below W.heap.size W w) (h1 : RdC 28 B w A1 m K) (h2 : RdC 29 C w A2 m K) (hn : n ≤ 20) :
    Calls Try.prog 12 #[.slice A n cap, .slice A1 m c1, .slice A2 m c2] w (CsR B C (caL K P) w) := by
  have HP := Lib.hid hP
  have HB0 := Lib.hid hb0
  have H1 := Lib.hid h1
  have H2 := Lib.hid h2
  have HL := Lib.hid hP.2.2.1
  have HS0 : Hid (CR w B C (.slice none 0 0) (.slice none 0 0) (caL K (P.take 0)) (caL K (P.take 0)) w) := CR.start w B C
  clear hP hb0 h1 h2
  go_enter Try.func12, Try.ntmps12
  go_wp2_with fail
  go_loopw [8, 9, 10] (fun vx vy i wr => ∃ k : Nat, k ≤ n ∧ i = .int .i64 k ∧ Hid (CR w B C vx vy (caL K (P.take k)) (caL K (P.take k)) wr)) (fun _ _ i _ => n - (intOf i).toNat)
  case atStart => exact ⟨0, by omega, rfl, HS0⟩
  case round =>
    clear HS0
    obtain ⟨k, hk, rfl, hS⟩ := hrel
    by_cases hlt : k < n
    · have g1 : (k : Int) < (n : Int) := by omega
      have g2 : 0 ≤ (k : Int) := by omega
      have hkl : k < P.length := by rw [HL.out]; exact hlt
      have HX := Lib.hid (List.getElem?_eq_getElem hkl)
      obtain ⟨bb, off, rfl, hbb, p0, p1, p2⟩ := IsP.at HP.out (HB0.out.trans (hS.out.bel.mono HB0.out.size)) HX.out
      generalize P[k]'hkl = p at *
      have hbw : bb < wr.heap.size := by have := HB0.out.size; have := hS.out.bel.size; omega
      have KP : Hid (∀ w', Below wr.heap.size wr w' → w'.cell? ⟨bb, off + k * 3 + 1, none⟩ = some (.bool p.s) ∧ w'.cell? ⟨bb, off + k * 3 + 2, none⟩ = some (.int .i64 p.v) ∧ Hid (Below wr.heap.size wr w')) := fun w' hb => ⟨(cell_blk (hb.block _ hbw) _).trans p1, (cell_blk (hb.block _ hbw) _).trans p2, hb⟩
      go_upto_region 6 with fail
      go_cut [11, 12] from 14 to 72 (fun s11 s12 wx => ∃ X Y : Nat, s11 = .pointer (some ⟨X, 0, none⟩) ∧ s12 = .pointer (some ⟨Y, 0, none⟩) ∧ Hid (Below wr.heap.size wr wx) ∧ Hid (wr.heap.size ≤ X ∧ wr.heap.size ≤ Y) ∧ Hid (wx.heap[X]? = some (.cells #[.pointer none, .bool p.s, .int .i64 p.v] 65 (0, 0))) ∧ Hid (wx.heap[Y]? = some (.cells #[.pointer none, .bool p.s, .int .i64 p.v] 97 (0, 0))))
      case first =>
        go_region_held3 (fun w' => w'.cell? ⟨bb, off + k * 3 + 1, none⟩ = some (.bool p.s) ∧ w'.cell? ⟨bb, off + k * 3 + 2, none⟩ = some (.int .i64 p.v) ∧ Hid (Below wr.heap.size wr w'))
          (first
            | exact KP.out _ (by repeat' (first | exact Below.refl _ _ | refine Below.drew ?_ | refine Below.alloc ?_ (by simp <;> omega) _ | refine Below.setCell ?_ (by simp <;> omega) _)))
          (first | fail)
        all_goals (go_wp2_with fail)
        all_goals go_meet
        all_goals (exact ⟨_, _, rfl, rfl, (by repeat' (first | exact Below.refl _ _ | refine Below.drew ?_ | refine Below.alloc ?_ (by simp <;> omega) _)), ⟨by omega, by omega⟩,
          by first | exact al2a _ _ _ | exact al2b _ _ _, by first | exact al2a _ _ _ | exact al2b _ _ _⟩)
      case rest =>
        obtain ⟨X, Y, rfl, rfl, hB, hXY, hX, hY⟩ := hcut
        have q0 := (cell_blk (hB.out.block _ hbw) (off + k * 3)).trans p0
        have HKR : Hid (∀ w' : World, Below wr.heap.size wr w' → ∀ (i : Nat) (kk : Option Nat), K[i]? = some kk → (∃ b off, A1 = some ⟨b, off, none⟩ ∧ w'.cell? ⟨b, off + i, none⟩ = some (.pointer (kAt B kk))) ∧ (∃ b off, A2 = some ⟨b, off, none⟩ ∧ w'.cell? ⟨b, off + i, none⟩ = some (.pointer (kAt C kk)))) := by
          intro w' hb i kk hi
          have hb2 := hS.out.bel.trans (hb.mono hS.out.bel.size)
          obtain ⟨b, o, _, e, _, h⟩ := (H1.out.later hb2).at hi
          obtain ⟨b', o', _, e', _, h'⟩ := (H2.out.later hb2).at hi
          exact ⟨⟨b, o, e, h⟩, ⟨b', o', e', h'⟩⟩
        have HS := hS.out
        clear KP p0 p1 p2
        have hm : (K.length : Int) = (m : Int) := by rw [H1.out.1]
        go_upto_region 8 with fail
        generalize hX0 : Lib.hid hX = hX1
        generalize hY0 : Lib.hid hY = hY1
        clear hX0 hY0 hX1 hY1
        go_cut [11, 12, 13, 54] from 14 to 72 (fun s11 s12 s13 s54 wx => s11 = .pointer (some ⟨X, 0, none⟩) ∧ s12 = .pointer (some ⟨Y, 0, none⟩) ∧ s13 = .int .i64 p.c ∧ s54 = .bool (decide (0 ≤ p.c ∧ p.c < (m : Int))) ∧ wx = wc)
        case first =>
          go_wp2_with fail
          all_goals go_meet
          all_goals (refine ⟨rfl, rfl, rfl, ?_, rfl⟩)
          all_goals (first
            | (congr 1; exact decide_eq_decide.2 (by omega))
            | (congr 1; exact (decide_eq_false (by omega)).symm))
        case rest =>
          obtain ⟨rfl, rfl, rfl, rfl, rfl⟩ := hcut
          clear q0
          have HKc := Lib.hid (show (toCa K p).ix = if 0 ≤ p.c ∧ p.c < (m : Int) then (K[p.c.toNat]?).join else none by rw [← hm]; rfl)
          have hXs := lt_of_blk hX.out
          have hYs := lt_of_blk hY.out
          have hXn := hXY.out.1
          have hYn := hXY.out.2
          have hNE : X ≠ Y := tag_ne hX.out hY.out (by decide)
          have hNE1 : ¬ X = Y := hNE
          have hNE2 : ¬ Y = X := fun e => hNE e.symm
          go_upto_if 54 with fail
          go_cut [11, 12, 13] from 14 to 72 (fun s11 s12 s13 wx => s11 = .pointer (some ⟨X, 0, none⟩) ∧ s12 = .pointer (some ⟨Y, 0, none⟩) ∧ Hid (Below wr.heap.size wr wx) ∧ Hid (wx.heap[X]? = some (.cells (caA B (toCa K p)) 65 (0, 0))) ∧ Hid (wx.heap[Y]? = some (.cells (caA C (toCa K p)) 97 (0, 0))))
          case first =>
            by_cases hr : 0 ≤ p.c ∧ p.c < (m : Int)
            · rw [decide_eq_true hr]
              obtain ⟨q, hq⟩ := Int.eq_ofNat_of_zero_le hr.1
              rw [if_pos hr, hq, Int.toNat_natCast] at HKc
              rw [hq]
              have r1 : (q : Int) < (m : Int) := by omega
              have r2 : 0 ≤ (q : Int) := by omega
              have hqK : q < K.length := by omega
              have HKQ := Lib.hid (List.getElem?_eq_getElem hqK)
              generalize K[q]'hqK = kk at *
              rw [HKQ.out] at HKc
              have e65 : caA B (toCa K p) = #[.pointer (kAt B kk), .bool p.s, .int .i64 p.v] := by unfold caA ptr; rw [HKc.out]; rfl
              have e97 : caA C (toCa K p) = #[.pointer (kAt C kk), .bool p.s, .int .i64 p.v] := by unfold caA ptr; rw [HKc.out]; rfl
              obtain ⟨⟨b1, o1, rfl, _⟩, ⟨b2, o2, rfl, _⟩⟩ := HKR.out wr (Below.refl _ _) q kk HKQ.out
              have KP2 : Hid (∀ w', Below wr.heap.size wr w' → w'.cell? ⟨b1, o1 + q, none⟩ = some (.pointer (kAt B kk)) ∧ w'.cell? ⟨b2, o2 + q, none⟩ = some (.pointer (kAt C kk)) ∧ Hid (Below wr.heap.size wr w')) := by
                intro w' hb
                obtain ⟨⟨b, o, e, h⟩, ⟨b', o', e', h'⟩⟩ := HKR.out w' hb q kk HKQ.out
                cases e
                cases e'
                exact ⟨h, h', hb⟩
              have fX := frozen_of_row wc X 0 _ _ hX.out
              have fY := frozen_of_row wc Y 0 _ _ hY.out
              have aX := cell_of_row wc X 0 _ _ _ hX.out
              have aY := cell_of_row wc Y 0 _ _ _ hY.out
              simp only [List.getElem?_toArray, List.getElem?_cons_zero] at aX aY
              have sX := heap_setCell_same wc X 0 _ _ (.pointer (kAt B kk)) hX.out
              have sY := heap_setCell_same wc Y 0 _ _ (.pointer (kAt C kk)) hY.out
              have E65 := Lib.hid e65
              have E97 := Lib.hid e97
              clear e65 e97 HKc hr HKQ
              go_upto_region 9 with fail
              go_region_held3 (fun w' => w'.cell? ⟨b1, o1 + q, none⟩ = some (.pointer (kAt B kk)) ∧ w'.cell? ⟨b2, o2 + q, none⟩ = some (.pointer (kAt C kk)) ∧ Hid (Below wr.heap.size wr w'))
                (first
                  | exact KP2.out _ (by repeat' (first | exact Below.refl _ _ | (with_reducible exact hB.out) | refine Below.drew ?_ | refine Below.setCell ?_ (by simp <;> omega) _)))
                (first | fail)
              all_goals (go_wp2_with fail)
              all_goals go_meet
              all_goals (refine ⟨rfl, rfl, ?_, ?_, ?_⟩)
              all_goals (first
                | (show Below _ _ _; repeat' (first | exact hB.out | refine Below.drew ?_ | refine Below.setCell ?_ (by simp <;> omega) _))
                | (rw [E65.out]; exact (Below.heap_setCell _ _ _ _ hNE).trans sX)
                | (rw [E97.out]; exact heap_setCell_same _ Y 0 _ _ _ ((Below.heap_setCell _ _ _ _ hNE2).trans hY.out)))
            · rw [decide_eq_false hr]
              rw [if_neg hr] at HKc
              have e65 : caA B (toCa K p) = #[.pointer none, .bool p.s, .int .i64 p.v] := by unfold caA ptr; rw [HKc.out]; rfl
              have e97 : caA C (toCa K p) = #[.pointer none, .bool p.s, .int .i64 p.v] := by unfold caA ptr; rw [HKc.out]; rfl
              have E65 := Lib.hid e65
              have E97 := Lib.hid e97
              clear e65 e97 HKc
              go_wp2_with fail
              go_meet
              exact ⟨rfl, rfl, hB, by rw [E65.out]; exact hX, by rw [E97.out]; exact hY⟩
          case rest =>
            obtain ⟨rfl, rfl, hB3, hX3, hY3⟩ := hcut
            have HS3 := Lib.hid (HS.later hB3.out)
            clear hB hX hY hXs hYs HKR HKc HS hS
            have hXs := lt_of_blk hX3.out
            have hYs := lt_of_blk hY3.out
            have HTK := Lib.hid (caL_take (K := K) HX.out)
            have hxl : (caL K (P.take k)).length ≤ 1000 := by rw [caL_len, List.length_take]; omega
            generalize hzz : toCa K p = z at *
            obtain ⟨ix, sd, v⟩ := z
            have x0 := cell_of_row wc X 0 _ _ _ hX3.out
            have x1 := cell_of_row wc X 1 _ _ _ hX3.out
            have x2 := cell_of_row wc X 2 _ _ _ hX3.out
            have y0 := cell_of_row wc Y 0 _ _ _ hY3.out
            have y1 := cell_of_row wc Y 1 _ _ _ hY3.out
            have y2 := cell_of_row wc Y 2 _ _ _ hY3.out
            simp only [caA, List.getElem?_toArray, List.getElem?_cons_succ, List.getElem?_cons_zero] at x0 x1 x2 y0 y1 y2
            go_upto_region 10 with fail
            go_region_law (first
              | (refine step_x (W := w) (B := B) (C := C) (lx := caL K (P.take k)) (ly := caL K (P.take k)) (vx := u8) (vy := u9) rfl (.tmp 65) (.tmp 67) rfl _ _ ⟨ix, sd, v⟩ rfl rfl HS3.out (by repeat' (first | exact Below.refl _ _ | refine Below.drew ?_ | refine Below.alloc ?_ (by first | omega | (simp <;> omega)) _)) (by first | exact heap_alloc_new _ _ | exact al2a _ _ _ | exact al2b _ _ _) hxl ?_; intro v7 w7 h7 k7 k7'; have HC7 := Lib.hid h7; have hs7 := h7.bel.size; have hNc := k7' _ _ hY3.out; have hqc := lt_of_blk hNc; have c0 := cell_of_row w7 Y 0 _ _ _ hNc; have c1 := cell_of_row w7 Y 1 _ _ _ hNc; have c2 := cell_of_row w7 Y 2 _ _ _ hNc; simp only [caA, List.getElem?_toArray, List.getElem?_cons_succ, List.getElem?_cons_zero] at c0 c1 c2; clear h7)
              | (refine step_y (W := w) (B := B) (C := C) (lx := caL K (P.take k) ++ [⟨ix, sd, v⟩]) (ly := caL K (P.take k)) (vx := v7) (vy := u9) rfl (.tmp 69) (.tmp 71) rfl _ _ ⟨ix, sd, v⟩ rfl rfl HC7.out (by repeat' (first | exact Below.refl _ _ | refine Below.drew ?_ | refine Below.alloc ?_ (by first | omega | (simp <;> omega)) _)) (by first | exact heap_alloc_new _ _ | exact k7 _ _ (heap_alloc_new _ _) | exact k7 _ _ (al2a _ _ _) | exact k7 _ _ (al2b _ _ _)) hxl ?_; intro v9 w9 h9 k9 k9'; have HR9 : Hid (CR w B C v7 v9 (caL K (P.take (k + 1))) (caL K (P.take (k + 1))) w9) := (by rw [HTK.out]; exact h9); clear h9 k9 k9' k7 k7')
              | (refine step_y (W := w) (B := B) (C := C) (lx := caL K (P.take k)) (ly := caL K (P.take k)) (vx := u8) (vy := u9) rfl (.tmp 69) (.tmp 71) rfl _ _ ⟨ix, sd, v⟩ rfl rfl HS3.out (by repeat' (first | exact Below.refl _ _ | refine Below.drew ?_ | refine Below.alloc ?_ (by first | omega | (simp <;> omega)) _)) (by first | exact heap_alloc_new _ _ | exact al2a _ _ _ | exact al2b _ _ _) hxl ?_; intro v8 w8 h8 k8 k8'; have HC8 := Lib.hid h8; have hs8 := h8.bel.size; have hNd := k8' _ _ hX3.out; have hqd := lt_of_blk hNd; have d0 := cell_of_row w8 X 0 _ _ _ hNd; have d1 := cell_of_row w8 X 1 _ _ _ hNd; have d2 := cell_of_row w8 X 2 _ _ _ hNd; simp only [caA, List.getElem?_toArray, List.getElem?_cons_succ, List.getElem?_cons_zero] at d0 d1 d2; clear h8)
              | (refine step_x (W := w) (B := B) (C := C) (lx := caL K (P.take k)) (ly := caL K (P.take k) ++ [⟨ix, sd, v⟩]) (vx := u8) (vy := v8) rfl (.tmp 65) (.tmp 67) rfl _ _ ⟨ix, sd, v⟩ rfl rfl HC8.out (by repeat' (first | exact Below.refl _ _ | refine Below.drew ?_ | refine Below.alloc ?_ (by first | omega | (simp <;> omega)) _)) (by first | exact heap_alloc_new _ _ | exact k8 _ _ (heap_alloc_new _ _) | exact k8 _ _ (al2a _ _ _) | exact k8 _ _ (al2b _ _ _)) hxl ?_; intro v9 w9 h9 k9 k9'; have HR9 : Hid (CR w B C v9 v8 (caL K (P.take (k + 1))) (caL K (P.take (k + 1))) w9) := (by rw [HTK.out]; exact h9); clear h9 k9 k9' k8 k8'))
            all_goals
              go_wp2_with fail
              go_roundw
              case rel => exact ⟨k + 1, by omega, by go_num, HR9⟩
              case measure => simp [intOf]; omega
    · obtain rfl : k = n := by omega
      have hS' := hS.out
      rw [List.take_of_length_le (by rw [HL.out]; exact Nat.le_refl _)] at hS'
      obtain ⟨A8, c8, rfl, hx8⟩ := RdX.of_own rfl hS'.rx
      obtain ⟨A9, c9, rfl, hy9⟩ := RdX.of_own rfl hS'.ry
      have HX8 := Lib.hid hx8
      have HY9 := Lib.hid hy9
      have HB := Lib.hid hS'.bel
      clear hS hS' hx8 hy9
      go_wp2_with fail
      go_ret2
      exact ⟨A8, c8, A9, c9, rfl, HX8.out, HY9.out, HB.out⟩
end Go.Proofs.Ytmcacmbllpphiaa
