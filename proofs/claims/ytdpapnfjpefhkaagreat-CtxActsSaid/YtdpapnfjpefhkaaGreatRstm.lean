/- The document's own set of timers in memory; what carries it. No condition.
What the document's own set answers: late, Add, in, Kind, Gen, Chan, arm. Conditions: each theorem's own premises.
The document's own set: make, with, Timer, Ticker, Func, Lapse. Conditions: each theorem's own premises.
The document's own set: what make refuses, Func's and Lapse's. Conditions: each theorem's own premises. -/
import Derived.Test.YtdpapnfjpefhkaaGreatQrmm
import Derived.Test.YtdpapnfjpefhkaaGreatStmm
namespace Go.Proofs.YtdpapnfjpefhkaaGreat
open Go.RowKit Ch
set_option linter.unusedVariables false
set_option maxRecDepth 100000
def RF (w w' : World) : Prop := ∀ (k : Nat) (cs : Array Value) (ty : TypeId) (fr : Nat × Nat), w.heap[k]? = some (.cells cs ty fr) → (ty = 68 ∨ ty = 215) → w'.heap[k]? = some (.cells cs ty fr)
theorem OZ.rf {w w' : World} (h : OZ w w') : RF w w' := fun k cs ty fr e h2 => h.2 k cs ty fr e (by rcases h2 with rfl | rfl <;> decide)
theorem RF.of_below {w w' : World} (h : Below w.heap.size w w') : RF w w' := fun k cs t fr h1 _ => (h.block k (lt_of_blk h1)).trans h1
theorem RF.row {w w' : World} {B e s n c : Nat} {P : Option Addr} {xs : List Value} (h : RF w w') (r : w.ownsRow B e s (.slice P n c) n xs) (he : e = 68 ∨ e = 215) : w'.ownsRow B e s (.slice P n c) n xs :=
 row_keep r fun k hk => by
  obtain ⟨cs, fr, ht⟩ := row_tag r hk
  rw [ht]; exact h k cs e fr ht he
theorem OZ.row {w w' : World} {B e s n c : Nat} {P : Option Addr} {xs : List Value} (h : OZ w w') (r : w.ownsRow B e s (.slice P n c) n xs) (he : OthZ e) : w'.ownsRow B e s (.slice P n c) n xs :=
 row_keep r fun k hk => by
  obtain ⟨cs, fr, ht⟩ := row_tag r hk
  rw [ht]; exact h.2 k cs e fr ht he
section
variable {B m n c d2 : Nat} {rA rN : Value} {w w' : World} {A P : Option Addr} {p : Option Nat} {S Q : List It} {g : Int → Int} {Rx : List Value}
theorem MX.rf (h : MX Rx 68 B w m n A c S) (f : RF w w') : MX Rx 68 B w' m n A c S := ⟨f m _ 68 (0, 0) h.hb (.inl rfl), h.wn.keep fun g cur _ hg => f g cur 215 (0, 0) hg (.inr rfl), h.lo, h.nn, h.ty⟩
theorem MY.rf (h : MY B m rA rN A c P d2 n S Q w) (f : RF w w') : MY B m rA rN A c P d2 n S Q w' := ⟨h.mx.rf f, f.row h.row (.inr rfl), h.ap⟩
theorem MT.rf (h : MT B m rA rN p n S g w) (f : RF w w') : MT B m rA rN p n S g w' := by
 obtain ⟨A, c, P, c2, Q, e, h1, h2⟩ := h
 exact ⟨A, c, P, c2, Q, e, h1.rf f, h2⟩
theorem MT.blk (h : MT B m rA rN p n S g w) : B ≤ m ∧ ∃ A c u v, Wn w B A S.length c S ∧ w.heap[m]? = some (.cells #[.slice A S.length c, u, v, rA, rN] 68 (0, 0)) := by
 obtain ⟨A, c, P, c2, Q, e, h1, h2⟩ := h
 exact ⟨h1.mx.lo, A, c, _, _, h1.mx.wn, h1.mx.hb⟩
theorem MT.setA (h : MT B m rA rN p n S g w) (u : Value) : MT B m u rN p n S g (w.setCell ⟨m, 3, none⟩ u) := by
 obtain ⟨A, c, P, c2, Q, e, h1, h2⟩ := h
 have key : ∀ k, k ≠ m → (w.setCell ⟨m, 3, none⟩ u).heap[k]? = w.heap[k]? := fun k hk => Below.heap_setCell _ _ _ _ (by exact hk)
 have tag : ∀ (k : Nat) (cs : Array Value) (fr : Nat × Nat), w.heap[k]? = some (.cells cs 215 fr) → k ≠ m := fun k cs fr e9 => by
  rintro rfl
  have h3 := h1.mx.hb
  rw [e9] at h3; injection h3 with h3; injection h3 with _ h3 _; cases h3
 refine ⟨A, c, P, c2, Q, e, ⟨⟨?_, h1.mx.wn.keep fun g cur _ hg => (key g (tag g _ _ hg)).trans hg, h1.mx.lo, h1.mx.nn, h1.mx.ty⟩, row_keep h1.row fun k hk => key k ?_, h1.ap⟩, h2⟩
 · rw [heap_setCell_same w m 3 _ _ u h1.mx.hb]; rfl
 · obtain ⟨cs, fr, ht⟩ := row_tag h1.row hk
   exact tag k _ _ ht
end
structure RS (W : World) (mo : Nat) (E : List On) (m n : Nat) (S : List It) (g : Int → Int) (w : World) : Prop where
 ex : ∃ p P c, MT W.heap.size mo (.slice P E.length c) (.int .i64 m) p n S g w ∧ w.ownsRow W.heap.size 178 4 (.slice P E.length c) E.length (oV E)
def RX (w w' : World) : Prop := w.heap.size ≤ w'.heap.size ∧ ∀ (k : Nat) (o : Obj), w.heap[k]? = some o → (∀ cs fr, o ≠ .cells cs 68 fr ∧ o ≠ .cells cs 215 fr ∧ o ≠ .cells cs 178 fr) → w'.heap[k]? = some o
theorem RX.refl (w : World) : RX w w := ⟨Nat.le_refl _, fun _ _ h _ => h⟩
theorem RX.trans {u v w : World} (h : RX u v) (k : RX v w) : RX u w := ⟨Nat.le_trans h.1 k.1, fun i o h1 h2 => k.2 i o (h.2 i o h1 h2) h2⟩
theorem RX.of_below {w w' : World} (h : Below w.heap.size w w') : RX w w' := ⟨h.size, fun k o h1 _ => (h.block k (lt_of_blk h1)).trans h1⟩
theorem RX.at {w w' : World} (h : RX w w') {k : Nat} {cs : Array Value} {ty : TypeId} {fr : Nat × Nat} (hk : w.heap[k]? = some (.cells cs ty fr)) (ht : ty ≠ 68 ∧ ty ≠ 215 ∧ ty ≠ 178) : w'.heap[k]? = some (.cells cs ty fr) :=
 h.2 k _ hk fun cs' fr' => ⟨fun e => (by injection e with _ e _; exact ht.1 e), fun e => (by injection e with _ e _; exact ht.2.1 e), fun e => (by injection e with _ e _; exact ht.2.2 e)⟩
def RZ (W : World) (mo : Nat) (E : List On) (m n : Nat) (S : List It) (g : Int → Int) (v : Value) (w : World) (e : Ending) (w' : World) : Prop :=
 e = .returned v ∧ RS W mo E m n S g w' ∧ RX w w' ∧ Below W.heap.size w w'
section
variable {RC : List Nat} {RT : List CS} {W w w' w'' w1 : World} {t mo m n n' i j c k : Nat} {E E' : List On} {S S' : List It} {g g' : Int → Int} {L L' : List (Nat × CS)} {v : Value} {e : Ending} {x : On} {s s' : CS}
theorem RS.oz (h : RS W mo E m n S g w) (z : OZ w w') : RS W mo E m n S g w' := by
 obtain ⟨p, P, c, h1, h2⟩ := h
 exact ⟨p, P, c, h1.rf z.rf, z.row h2 (by decide)⟩
theorem RS.later (h : RS W mo E m n S g w) (hb : Below w.heap.size w w') : RS W mo E m n S g w' := h.oz (OZ.of_below hb)
theorem RS.box (h : RS W mo E m n S g w) (u : Obj) : RS W mo E m n S g (w.alloc u) := h.later (below_al w u)
theorem RS.lt (h : RS W mo E m n S g w) : mo < w.heap.size := by
 obtain ⟨p, P, c, h1, h2⟩ := h
 exact h1.lt
theorem RS.lo (h : RS W mo E m n S g w) : W.heap.size ≤ mo := by
 obtain ⟨p, P, c, h1, h2⟩ := h
 exact h1.lo
theorem RS.hB (h : RS W mo E m n S g w) : W.heap.size ≤ w.heap.size := by have := h.lt; have := h.lo; omega
theorem RS.rz (h : RS W mo E m n S g w) (hr : e = .returned v ∧ Below w.heap.size w w') : RZ W mo E m n S g v w e w' := ⟨hr.1, h.later hr.2, RX.of_below hr.2, hr.2.mono h.hB⟩
theorem RZ.but {u : Value} (h : RZ W mo E m n S g v w e w') : RZ W mo E m n S g u w (.returned u) w' := ⟨rfl, h.2⟩
theorem RZ.after (h : RX w w') (hb : Below W.heap.size w w') (k : RZ W mo E m n S g v w' e w'') : RZ W mo E m n S g v w e w'' := ⟨k.1, k.2.1, h.trans k.2.2.1, hb.trans k.2.2.2⟩
theorem RZ.from (hB : W.heap.size ≤ w.heap.size) (hb : Below w.heap.size w w') (h : RZ W mo E m n S g v w' e w'') : RZ W mo E m n S g v w e w'' := h.after (RX.of_below hb) (hb.mono hB)
theorem RS.tim (h : RS W mo E m n S g w) {f : Nat} {args : Array Value} (hc : ∀ rA rN p, MT W.heap.size mo rA rN p n S g w → Calls Tryz.prog f args w (MC W.heap.size mo rA rN p n' S' g' v w)) : Calls Tryz.prog f args w (RZ W mo E m n' S' g' v w) := by
 have hB := h.hB
 obtain ⟨p, P, c, h1, h2⟩ := h
 refine (hc _ _ p h1).mono fun e w' r => ?_
 obtain ⟨h3, p', h4, h5⟩ := r
 have far : ∀ k, k < w.heap.size → (∀ cs fr, w.heap[k]? ≠ some (.cells cs 68 fr)) → (∀ cs fr, w.heap[k]? ≠ some (.cells cs 215 fr)) → w'.heap[k]? = w.heap[k]? := fun k hk a1 a2 => h5.block k hk (by
  rintro rfl
  obtain ⟨cs, h6⟩ := h1.tm
  exact a1 _ _ h6) (fun e9 => by
  obtain ⟨cs, fr, h6⟩ := h1.tp e9
  exact a2 _ _ h6)
 refine ⟨h3, ⟨p', P, c, h4, row_keep h2 fun k hk => ?_⟩, ⟨h5.size, fun k o a1 a2 => (far k (lt_of_blk a1) ?_ ?_).trans a1⟩, h1.low hB h5⟩
 · obtain ⟨cs, fr, h6⟩ := row_tag h2 hk
   refine far k (lt_of_blk h6) ?_ ?_
   · intro cs' fr' e9; rw [h6] at e9; injection e9 with e9; injection e9 with _ e9 _; exact absurd e9 (by decide)
   · intro cs' fr' e9; rw [h6] at e9; injection e9 with e9; injection e9 with _ e9 _; exact absurd e9 (by decide)
 · intro cs' fr' e9; rw [a1] at e9; injection e9 with e9; exact (a2 cs' fr').1 e9
 · intro cs' fr' e9; rw [a1] at e9; injection e9 with e9; exact (a2 cs' fr').2.1 e9
theorem RS.cells (h : RS W mo E m n S g w) : ∃ P c, w.cell? ⟨mo, 3, none⟩ = some (.slice P E.length c) ∧ w.cell? ⟨mo, 4, none⟩ = some (.int .i64 m) ∧ w.frozen? ⟨mo, 3, none⟩ = false ∧ w.frozen? ⟨mo, 4, none⟩ = false ∧
  ∀ i x, E[i]? = some x → ∃ q, P = some ⟨q, 0, none⟩ ∧ q < w.heap.size ∧ (w.cell? ⟨q, i * 4, none⟩ = some (.int .i64 x.kd) ∧ w.cell? ⟨q, i * 4 + 1, none⟩ = some (.int .i64 x.dt) ∧ w.cell? ⟨q, i * 4 + 2, none⟩ = some (.pointer (cp x.ch)) ∧ w.cell? ⟨q, i * 4 + 3, none⟩ = some (.int .i64 x.gn)) ∧ (∀ k, w.frozen? ⟨q, k, none⟩ = false) ∧
   ∀ y, RS W mo (E.set i { x with gn := y }) m n S g (w.setCell ⟨q, i * 4 + 3, none⟩ (.int .i64 y)) ∧ RX w (w.setCell ⟨q, i * 4 + 3, none⟩ (.int .i64 y)) ∧ Below W.heap.size w (w.setCell ⟨q, i * 4 + 3, none⟩ (.int .i64 y)) := by
 have hB9 := h.hB
 obtain ⟨p, P, c, h1, h2⟩ := h
 obtain ⟨hB, A, c2, u, v, hwn, hb⟩ := h1.blk
 refine ⟨P, c, by rw [cell_of_row w mo 3 _ _ _ hb]; rfl, by rw [cell_of_row w mo 4 _ _ _ hb]; rfl, frozen_of_row w mo 3 _ _ hb, frozen_of_row w mo 4 _ _ hb, fun i x hx => ?_⟩
 have hi := (List.getElem?_eq_some_iff.1 hx).1
 obtain ⟨q, hP, hle⟩ := row_form h2 (by omega)
 subst hP
 have hc : ∀ j, j < 4 → w.cell? ⟨q, i * 4 + j, none⟩ = (oE x)[j]? := fun j hj => by
  rw [h2.cellAt (i * 4 + j) (by omega)]
  exact oV_at hx j hj
 refine ⟨q, rfl, (row_lt h2 rfl).2, ⟨hc 0 (by omega), hc 1 (by omega), hc 2 (by omega), hc 3 (by omega)⟩, fun k => h2.frozenAt k, fun y => ?_⟩
 obtain ⟨cs, fr, hq⟩ := row_tag h2 rfl
 have hqB := (row_lt h2 rfl).1
 have key : ∀ j, j ≠ q → (w.setCell ⟨q, i * 4 + 3, none⟩ (.int .i64 y)).heap[j]? = w.heap[j]? := fun j hj => Below.heap_setCell _ _ _ _ (by exact hj)
 have r := (h2.stored (i * 4 + 3) (.int .i64 y)).1
 rw [oV_set hx] at r
 refine ⟨⟨p, some ⟨q, 0, none⟩, c, ?_, ?_⟩, ⟨by simp [World.setCell], fun j o e1 e2 => (key j ?_).trans e1⟩, (Below.refl _ _).setCell (show W.heap.size ≤ (⟨q, i * 4 + 3, none⟩ : Addr).block from hqB) _⟩
 · rw [List.length_set]
   exact h1.rf fun j cs' ty fr' e1 e2 => (key j (by
    rintro rfl
    rw [e1] at hq; injection hq with hq; injection hq with _ hq _; rcases e2 with e2 | e2 <;> (rw [e2] at hq; exact absurd hq (by decide)))).trans e1
 · rw [List.length_set]; exact r
 · rintro rfl
   rw [hq] at e1; injection e1 with e1
   exact (e2 cs fr).2.2 e1.symm
theorem RS.added {wy : World} {gB cap cc : Nat} {P : Option Addr} (h : RS W mo E m n S g w) (hc0 : w.cell? ⟨mo, 3, none⟩ = some (.slice P E.length cc)) (hy : Below w.heap.size w wy)
  (ho : w1.ownsRow W.heap.size 178 4 (.slice (some ⟨gB, 0, none⟩) (E.length + 1) cap) (E.length + 1) (oV E ++ oE x)) (hg : wy.grownBy w1 (Value.slice P E.length cc).ownBlock) (hat : (Value.slice P E.length cc).ownBlock = some gB ∨ w.heap.size ≤ gB) :
  RS W mo (E ++ [x]) m n S g (w1.setCell ⟨mo, 3, none⟩ (.slice (some ⟨gB, 0, none⟩) (E.length + 1) cap)) ∧ RX w (w1.setCell ⟨mo, 3, none⟩ (.slice (some ⟨gB, 0, none⟩) (E.length + 1) cap)) ∧ Below W.heap.size w (w1.setCell ⟨mo, 3, none⟩ (.slice (some ⟨gB, 0, none⟩) (E.length + 1) cap)) := by
 have hB9 := h.hB
 rw [own_blk] at hg hat
 obtain ⟨p, P', c', h1, h2⟩ := h
 obtain ⟨hB, A, c2, u, v, hwn, hb⟩ := h1.blk
 have e0 : w.cell? ⟨mo, 3, none⟩ = some (.slice P' E.length c') := by rw [cell_of_row w mo 3 _ _ _ hb]; rfl
 rw [hc0] at e0
 injection e0 with e0; injection e0 with e0 _ e1
 subst e0; subst e1
 have hs := hy.size
 have hsz : w.heap.size ≤ w1.heap.size := by have := hg.size; omega
 have old : ∀ j, j < w.heap.size → (∀ cs fr, w.heap[j]? ≠ some (.cells cs 178 fr)) → w1.heap[j]? = w.heap[j]? := fun j hj hn => (hg.block j (by omega) (fun e => by
  obtain ⟨cs, fr, hq⟩ := row_tag h2 e.symm
  exact hn _ _ hq)).trans (hy.block j hj)
 have rf : RF w w1 := fun j cs ty fr e1 e2 => (old j (lt_of_blk e1) fun cs9 fr9 e9 => by
  rw [e1] at e9; injection e9 with e9; injection e9 with _ e9 _; rcases e2 with e2 | e2 <;> (rw [e2] at e9; exact absurd e9 (by decide))).trans e1
 have hbel : Below W.heap.size w w1 := ⟨hg.os.trans hy.os, hg.tape.trans hy.tape, hg.output.trans hy.output, hsz, fun k hk =>
  (hg.block k (by omega) (fun e => by have := (row_lt h2 e.symm).1; omega)).trans (hy.block k (by omega))⟩
 have hb1 : w1.heap[mo]? = some (.cells #[.slice A S.length c2, u, v, .slice P E.length cc, .int .i64 m] 68 (0, 0)) := rf mo _ 68 _ hb (.inl rfl)
 obtain ⟨cs, fr, hq⟩ := row_tag ho rfl
 have htg : mo ≠ gB := by
  rintro rfl
  rw [hb1] at hq; injection hq with hq; injection hq with _ hq _; exact absurd hq (by decide)
 have key : ∀ k, k ≠ mo → (w1.setCell ⟨mo, 3, none⟩ (.slice (some ⟨gB, 0, none⟩) (E.length + 1) cap)).heap[k]? = w1.heap[k]? := fun k hk => Below.heap_setCell _ _ _ _ (by exact hk)
 have e5 : (E ++ [x]).length = E.length + 1 := by simp
 refine ⟨⟨p, some ⟨gB, 0, none⟩, cap, ?_, ?_⟩, ⟨by simp [World.setCell]; omega, fun k o a1 a2 => ?_⟩, hbel.setCell (show W.heap.size ≤ (⟨mo, 3, none⟩ : Addr).block from hB) _⟩
 · rw [e5]; exact (h1.rf rf).setA _
 · rw [e5, ← oV_snoc]
   refine row_keep ho fun k hk => ?_
   injection hk with hk; subst hk
   exact key _ htg.symm
 · rw [key k ?_, old k (lt_of_blk a1) ?_]
   · exact a1
   · intro cs9 fr9 e9; rw [a1] at e9; injection e9 with e9; exact (a2 cs9 fr9).2.2 e9
   · rintro rfl
     rw [hb] at a1; injection a1 with a1; exact (a2 _ _).1 a1.symm
theorem RS.mid {wx : World} {P : Option Addr} (h : RS W mo E m n S g w) (hc0 : w.cell? ⟨mo, 3, none⟩ = some (.slice P E.length c)) (hx : Below w.heap.size w wx) (hg : wx.grownBy w1 (Value.slice P E.length c).ownBlock) : w1.cell? ⟨mo, 3, none⟩ = some (.slice P E.length c) ∧ w1.frozen? ⟨mo, 3, none⟩ = false := by
 obtain ⟨p, P', c', h1, h2⟩ := h
 obtain ⟨hB, A, c2, u, v, hwn, hb⟩ := h1.blk
 have e0 : w.cell? ⟨mo, 3, none⟩ = some (.slice P' E.length c') := by rw [cell_of_row w mo 3 _ _ _ hb]; rfl
 rw [hc0] at e0
 injection e0 with e0; injection e0 with e0 _ e1
 subst e0; subst e1
 rw [own_blk] at hg
 have hk := (hg.block mo (by have := hx.size; have := lt_of_blk hb; omega) (fun e => by
  obtain ⟨cs, fr, hq⟩ := row_tag h2 e.symm
  rw [hb] at hq; injection hq with hq; injection hq with _ hq _; exact absurd hq (by decide))).trans (hx.block mo (lt_of_blk hb))
 exact ⟨(cell_blk hk 3).trans hc0, (frozen_blk hk 3).trans (frozen_of_row w mo 3 _ _ hb)⟩
theorem RS.own {P : Option Addr} (h : RS W mo E m n S g w) (hc0 : w.cell? ⟨mo, 3, none⟩ = some (.slice P E.length c)) : w.ownsRow W.heap.size 178 4 (.slice P E.length c) E.length (oV E) := by
 obtain ⟨p, P', c', h1, h2⟩ := h
 obtain ⟨hB, A, c2, u, v, hwn, hb⟩ := h1.blk
 have e0 : w.cell? ⟨mo, 3, none⟩ = some (.slice P' E.length c') := by rw [cell_of_row w mo 3 _ _ _ hb]; rfl
 rw [hc0] at e0
 injection e0 with e0; injection e0 with e0 _ e1
 subst e0; subst e1
 exact h2
end
end Go.Proofs.YtdpapnfjpefhkaaGreat
namespace Go.Proofs.YtdpapnfjpefhkaaGreat
open Go.RowKit Ch
set_option linter.unusedVariables false
set_option maxRecDepth 100000
theorem rheld_any (x : Int) (w : World) : Calls Tryz.prog 64 #[.int .i64 x] w fun e w' => e = .returned (.int .i64 (hd x)) ∧ w = w' := by
 go_enter Tryz.func64, Tryz.ntmps64
 go_wp2
 all_goals (go_ret; exact ⟨ret_int (by unfold hd; omega), rfl⟩)
theorem radd_any (t d : Int) (w : World) : Calls Tryz.prog 29 #[.int .i64 t, .int .i64 d] w fun e w' => e = .returned (.int .i64 (ad t d)) ∧ w = w' := by
 have h1 := hd_lo t
 have h2 := hd_hi t
 have h3 := hd_lo d
 have h4 := hd_hi d
 go_enter Tryz.func29, Tryz.ntmps29
 go_wp2_with (go_at_call 64; refine (rheld_any _ _).mono ?_; rintro e w' ⟨rfl, rfl⟩)
 all_goals (go_ret; exact ⟨ret_int (by rw [ad_eq]; omega), rfl⟩)
theorem rlate_any (x : Int) (w : World) : Calls Tryz.prog 60 #[.int .i64 x] w fun e w' => e = .returned (.int .i64 (hz x)) ∧ w = w' := by
 go_enter Tryz.func60, Tryz.ntmps60
 go_wp2
 all_goals (go_ret; exact ⟨ret_int (by unfold hz; omega), rfl⟩)
abbrev pM (m : Nat) : Value := .pointer (some ⟨m, 0, none⟩)
section
variable {RC : List Nat} {RT : List CS} {W w w' w'' w1 : World} {t mo m n n' i j c k : Nat} {E E' : List On} {S S' : List It} {g g' : Int → Int} {L L' : List (Nat × CS)} {v : Value} {e : Ending} {x : On} {s s' : CS}
theorem rin_yes (h : RS W mo E m n S g w) (hi : i < E.length) : Calls Tryz.prog 104 #[pM mo, .int .i64 (i : Int)] w fun e w' => e = .returned (.bool true) ∧ w = w' := by
 obtain ⟨P, cc, c3, -, -, -, -⟩ := h.cells
 have b1 : 0 ≤ (i : Int) := by omega
 have b2 : (i : Int) < (E.length : Int) := by omega
 clear h hi
 go_enter Tryz.func104, Tryz.ntmps104
 go_wp2_with fail
 go_ret
 exact ⟨rfl, rfl⟩
theorem rin_no {k : Int} (h : RS W mo E m n S g w) (hi : k < 0 ∨ (E.length : Int) ≤ k) : Calls Tryz.prog 104 #[pM mo, .int .i64 k] w fun e w' => e = .returned (.bool false) ∧ w = w' := by
 obtain ⟨P, cc, c3, -, -, -, -⟩ := h.cells
 by_cases b1 : 0 ≤ k
 · have b2 : ¬ k < (E.length : Int) := by omega
   clear h hi
   go_enter Tryz.func104, Tryz.ntmps104
   go_wp2_with fail
   go_ret
   exact ⟨rfl, rfl⟩
 · clear h hi
   go_enter Tryz.func104, Tryz.ntmps104
   go_wp2_with fail
   go_ret
   exact ⟨rfl, rfl⟩
theorem rs_tarm (k y z : Int) (h : RS W mo E m n S g w) (hS : Ok n S) (hy : Fit y) (hz : Fit z) (hn : n ≤ 1000000) (hl : S.length ≤ 999) : Calls Tryz.prog 86 #[pM mo, .int .i64 k, .int .i64 y, .int .i64 z] w (RZ W mo E m (n + 1) (ins ⟨k, y, (n : Int) + 1⟩ (del k S)) (fput g k z) (.int .i64 0) w) :=
 h.tim fun rA rN p hm => rarm_any k y z hm hS hy hz hn hl h.hB
theorem rs_tstop (k : Int) (h : RS W mo E m n S g w) (hS : Ok n S) (hg : k ∉ ids S → g k = 0) (hl : S.length ≤ 1000) : Calls Tryz.prog 90 #[pM mo, .int .i64 k] w (RZ W mo E m n (del k S) (fput g k 0) (.bool (decide (k ∈ ids S))) w) := by
 by_cases hm : k ∈ ids S
 · obtain ⟨q, x, hx, rfl⟩ := ids_mem hm
   rw [decide_eq_true hm]
   exact h.tim fun rA rN p h1 => rstop_yes h1 hS (List.mem_of_getElem? hx) hl h.hB
 · rw [decide_eq_false hm, del_none hm]
   have e : fput g k 0 = g := by
    funext y; unfold fput; split
    · rename_i e; rw [e, hg hm]
    · rfl
   rw [e]
   exact h.tim fun rA rN p h1 => rstop_no h1 hS hm hl
end
end Go.Proofs.YtdpapnfjpefhkaaGreat
namespace Go.Proofs.YtdpapnfjpefhkaaGreat
open Go.RowKit Ch
set_option linter.unusedVariables false
set_option maxRecDepth 100000
theorem RX.set {w : World} {b : Nat} {cs : Array Value} {fr : Nat × Nat} (hb : w.heap[b]? = some (.cells cs 178 fr)) (k : Nat) (u : Value) : Go.Proofs.YtdpapnfjpefhkaaGreat.RX w (w.setCell ⟨b, k, none⟩ u) :=
 ⟨by simp [World.setCell], fun q o e1 e2 => (Below.heap_setCell _ _ _ _ (show q ≠ b by
  rintro rfl
  rw [hb] at e1; injection e1 with e1
  exact (e2 cs fr).2.2 e1.symm)).trans e1⟩
theorem infR : (Tryz.prog.info? 178).map (fun i => (i.zero, i.size, i.bytes)) = some (some (.agg #[.int .i64 0, .int .i64 0, .pointer none, .int .i64 0]), 4, 32) := by kernel_rfl
end Go.Proofs.YtdpapnfjpefhkaaGreat
namespace Go.Proofs.YtdpapnfjpefhkaaGreat
open Go.RowKit Ch
set_option linter.unusedVariables false
set_option maxRecDepth 100000
section
variable {RC : List Nat} {RT : List CS} {W w w' w'' w1 : World} {t mo m n n' i j c k : Nat} {E E' : List On} {S S' : List It} {g g' : Int → Int} {L L' : List (Nat × CS)} {v : Value} {e : Ending} {x : On} {s s' : CS}
def RkF (W : World) (mo : Nat) (E : List On) (m m' n : Nat) (S : List It) (g : Int → Int) (kd wh p : Int) (w : World) (e : Ending) (w' : World) : Prop :=
 RZ W mo (E ++ [⟨kd, p, none, 1⟩]) m' (n + 1) (ins ⟨(E.length : Int), wh, (n : Int) + 1⟩ (del (E.length : Int) S)) (fput g (E.length : Int) 0) (.tuple #[.int .i64 (E.length : Int), .int .i64 0]) w e w'
set_option maxHeartbeats 8000000 in
theorem rlapse_ok {wh p : Int} (h : RS W mo E m n S g w) (hp : 0 ≤ p) (hS : Ok n S) (hE : E.length < 100000) (hn : n ≤ 1000000) (hl : S.length ≤ 999) :
  Calls Tryz.prog 61 #[pM mo, .int .i64 wh, .int .i64 p] w (RkF W mo E m m n S g 4 (hz wh) p w) := by
 obtain ⟨i0, hi, hz0, hz1, hz2⟩ := info_parts infR
 have a3 : ¬ p < 0 := by omega
 have b4 : IntKind.i64.wrap (((E.length + 1 : Nat) : Int) - 1) = (E.length : Int) := by rw [IntKind.wrap_i64]; omega
 have b6 : IntKind.i64.wrap ((E.length : Int) + 1 - 1) = (E.length : Int) := by rw [IntKind.wrap_i64]; omega
 have b3 : (0 : Int) ≤ (E.length : Int) := by omega
 have b5 : (E.length : Int) ≤ 100000 := by omega
 have HN := Lib.hid (And.intro hE (And.intro hn (And.intro hl hS)))
 have hB := h.hB
 have HF := Lib.hid (hz_fit wh)
 have hlt := h.lt
 have hla : mo ≠ w.heap.size := by omega
 have H3 := Lib.hid h
 obtain ⟨P, cc, c3, -, f3, -, -⟩ := h.cells
 have HC := Lib.hid c3
 have F1 := fun w => rlate_any wh w
 clear h hE hn hl hS hp
 unfold RkF
 generalize hz wh = y at *
 go_enter Tryz.func61, Tryz.ntmps61
 go_wp2_with (at_builtin; go_loud (refine wpList_append_lies _ rfl _ _ _ rfl W.heap.size 178 i0 (.agg #[.int .i64 0, .int .i64 0, .pointer none, .int .i64 0]) 4 32 Tryz.underlying66 hi hz0 hz1 hz2 rfl (by omega) (.slice P E.length cc) E.length (oV E) rfl (row_later (H3.out.own HC.out) (below_al w _)) ⟨w.heap.size, 0, none⟩ 1 1 (oE ⟨4, p, none, 1⟩) rfl rfl (World.news_of_block (cs := #[.int .i64 4, .int .i64 p, .pointer none, .int .i64 1]) (heap_alloc_new w _)) (oE_one ⟨4, p, none, 1⟩) (by omega) (by unfold maxLen; omega) (by omega) (by simp; omega) (w.heap.size + 1) (by simp) ?_; intro q cap w1 hown hgrow hat hlt1; have HM := H3.out.mid HC.out (below_al w _) hgrow; have HE := Lib.hid (H3.out.added (x := ⟨4, p, none, 1⟩) HC.out (below_al w _) hown hgrow (hat.imp id (by omega))); have hc1 := HM.1; have hf1 := HM.2; clear HM hown hgrow hat hlt1 c3 f3))
 generalize (w1.setCell ⟨mo, 3, none⟩ _) = w5 at *
 have HE1 := Lib.hid HE.out.1
 have HE2 := Lib.hid HE.out.2
 have HA2 := Lib.hid (HE1.out.later ((Below.refl w5.heap.size w5).drew))
 have HC3 := Lib.hid (rs_tarm (E.length : Int) y 0 HA2.out HN.out.2.2.2 HF.out (by decide) HN.out.2.1 HN.out.2.2.1)
 clear HE HC hla hlt hB hc1 hf1
 go_region_with (first
  | (go_at_call 60; go_loud ((with_reducible refine (F1 _).mono ?_); rintro e w' ⟨rfl, rfl⟩))
  | (go_at_call 86; go_loud ((with_reducible refine HC3.out.mono ?_); rintro e w' hz; have HZ := Lib.hid (RZ.from HE1.out.hB ((Below.refl w5.heap.size w5).drew) hz); obtain rfl := hz.1; clear hz)))
 go_wp2_with fail
 go_ret2
 exact (RZ.after HE2.out.1 HE2.out.2 HZ.out).but
end
end Go.Proofs.YtdpapnfjpefhkaaGreat
