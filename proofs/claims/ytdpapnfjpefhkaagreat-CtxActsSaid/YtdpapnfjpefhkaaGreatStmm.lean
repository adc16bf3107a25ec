/- A set of timers in memory; what carries it. No condition.
What Len, get, Kind, Chan, Gen, Next, New of package timer answer, and what the timers and channels of a set do. Conditions: each theorem's own premises.
stop, arm and add of package timer. Conditions: each theorem's own premises.
due, start, withChan, Timer, Ticker, Func, Lapse of package timer. Conditions: each theorem's own premises.
Stop, Reset and Fire of package timer. Conditions: each theorem's own premises.
Fire of package timer. Conditions: each theorem's own premises. -/
import Derived.Test.YtdpapnfjpefhkaaGreatTkem
import Derived.Test.YtdpapnfjpefhkaaGreatCAllm
namespace Go.Proofs.YtdpapnfjpefhkaaGreat
open Go.RowKit Ch
set_option linter.unusedVariables false
set_option maxRecDepth 100000
def OthZ (ty : TypeId) : Prop := ty ≠ 228 ∧ ty ≠ 203 ∧ ty ≠ 146 ∧ ty ≠ 171
instance (ty : TypeId) : Decidable (OthZ ty) := inferInstanceAs (Decidable (_ ∧ _))
def OZ (w w' : World) : Prop := w.heap.size ≤ w'.heap.size ∧ ∀ (k : Nat) (cs : Array Value) (ty : TypeId) (fr : Nat × Nat), w.heap[k]? = some (.cells cs ty fr) → OthZ ty → w'.heap[k]? = some (.cells cs ty fr)
theorem OZ.refl (w : World) : OZ w w := ⟨Nat.le_refl _, fun _ _ _ _ h _ => h⟩
theorem OZ.trans {u v w : World} (h : OZ u v) (k : OZ v w) : OZ u w := ⟨Nat.le_trans h.1 k.1, fun i cs ty fr h1 h2 => k.2 i cs ty fr (h.2 i cs ty fr h1 h2) h2⟩
theorem OZ.of_below {w w' : World} (h : Below w.heap.size w w') : OZ w w' := ⟨h.size, fun k cs ty fr h1 _ => (h.block k (lt_of_blk h1)).trans h1⟩
theorem OY.oz {w w' : World} (h : OY w w') (hl : w.heap.size ≤ w'.heap.size) : OZ w w' := ⟨hl, fun k cs ty fr h1 h2 => h k cs ty fr h1 h2.1 h2.2.1 h2.2.2.1⟩
def IsT (w : World) (j : Nat) : Prop := (∃ cs ty fr, w.heap[j]? = some (.cells cs ty fr) ∧ (ty = 228 ∨ ty = 203 ∨ ty = 146)) ∨ ∃ es cl, w.heap[j]? = some (.map es cl)
section
variable {W w w' : World} {B t n : Nat} {vA vL : Value} {S : List It} {g : Int → Int} {L : List (Nat × CS)}
theorem TU.keep (h : TU B t vA vL n S g w) (k : ∀ j, j < w.heap.size → IsT w j → w'.heap[j]? = w.heap[j]?) : TU B t vA vL n S g w' := by
 rcases h with ⟨h, r⟩ | ⟨o, b, c, p, N, hN, h⟩
 · exact .inl ⟨⟨h.1, (k t (lt_of_blk h.2) (.inl ⟨_, _, _, h.2, by simp⟩)).trans h.2⟩, r⟩
 · refine .inr ⟨o, b, c, p, N, hN, ?_⟩
   refine ⟨h.hg.keep (k o h.hg.lo ?_) (k b h.hg.lb (.inr h.hg.tb)) (fun j hj => k j (h.hg.lp hj).2 ?_), (k t h.lt (.inl ⟨_, _, _, h.ht, by simp⟩)).trans h.ht, h.pm.keep (k c h.pm.lt (.inr h.pm.blk)), h.ok, h.gt, h.gc, h.ne⟩
   · obtain ⟨cs, fr, e⟩ := h.hg.to
     exact .inl ⟨_, _, _, e, by simp⟩
   · obtain ⟨cs, fr, e⟩ := h.hg.tp hj
     exact .inl ⟨_, _, _, e, by simp⟩
theorem not_ist_c {j : Nat} (h : IsT w j) : ¬ IsC w j := by
 rcases h with ⟨cs, ty, fr, h1, h2⟩ | ⟨es, cl, h1⟩
 · refine not_isc h1 ?_
   rcases h2 with rfl | rfl | rfl <;> decide
 · rintro ⟨cs, ty, h3, _⟩
   rw [h1] at h3; cases h3
theorem TU.kp (h : TU B t vA vL n S g w) (k : Kp w w') : TU B t vA vL n S g w' := h.keep fun j hj hi => k.2 j hj (not_ist_c hi)
def Ex (ty : TypeId) (w w' : World) : Prop := w.heap.size ≤ w'.heap.size ∧ ∀ j, j < w.heap.size → (∀ cs fr, w.heap[j]? ≠ some (.cells cs ty fr)) → w'.heap[j]? = w.heap[j]?
theorem TU.ex (h : TU B t vA vL n S g w) (k : Ex 171 w w') : TU B t vA vL n S g w' := h.keep fun j hj hi => k.2 j hj fun cs fr e => by
 rcases hi with ⟨cs', ty, fr', h1, h2⟩ | ⟨es, cl, h1⟩
 · rw [e] at h1; injection h1 with h1; injection h1 with _ h1 _; subst h1
   rcases h2 with h2 | h2 | h2 <;> exact absurd h2 (by decide)
 · rw [e] at h1; cases h1
theorem Ch.MS.ex {ty : TypeId} (h : MS W L w) (k : Ex ty w w') (hb : Below W.heap.size W w') (ht : ty ≠ 185 ∧ ty ≠ 237 ∧ ty ≠ 3 ∧ ty ≠ 221) : MS W L w' := by
 obtain ⟨h0, F, h1, h2, h3⟩ := h
 refine ⟨hb, F, fun i c s hi => ?_, h2, h3⟩
 have hc := h1 i c s hi
 exact hc.keep fun b hf => k.2 b (hc.lt hf) fun cs fr e => not_isc e ht (hc.tag hf)
theorem Ch.MS.oy (h : MS W L w) (k : OY w w') (hb : Below W.heap.size W w') : MS W L w' := by
 obtain ⟨h0, F, h1, h2, h3⟩ := h
 refine ⟨hb, F, fun i c s hi => ?_, h2, h3⟩
 have hc := h1 i c s hi
 refine hc.keep fun b hf => ?_
 obtain ⟨cs, ty, e1, e2⟩ := hc.tag hf
 rw [e1]
 refine k b cs ty _ e1 ?_ ?_ ?_ <;> (rcases e2 with rfl | rfl | rfl | rfl <;> decide)
theorem OY.row {B e s n c : Nat} {P : Option Addr} {xs : List Value} (h : OY w w') (r : w.ownsRow B e s (.slice P n c) n xs) (h1 : e ≠ 228) (h2 : e ≠ 203) (h3 : e ≠ 146) : w'.ownsRow B e s (.slice P n c) n xs :=
 row_keep r fun k hk => by
  obtain ⟨cs, fr, ht⟩ := row_tag r hk
  rw [ht]; exact h k cs e fr ht h1 h2 h3
theorem TU.setA (h : TU B t vA vL n S g w) (u : Value) : TU B t u vL n S g (w.setCell ⟨t, 0, none⟩ u) := by
 have key : ∀ k, k ≠ t → (w.setCell ⟨t, 0, none⟩ u).heap[k]? = w.heap[k]? := fun k hk => Below.heap_setCell _ _ _ _ (by exact hk)
 rcases h with ⟨h, r⟩ | ⟨o, b, c, p, N, hN, h⟩
 · exact .inl ⟨⟨h.1, heap_setCell_same w t 0 _ _ u h.2⟩, r⟩
 · obtain ⟨⟨a1, a2, a3⟩, a4, a5, a6⟩ := h.apart
   exact .inr ⟨o, b, c, p, N, hN, ⟨h.hg.keep (key o a1.symm) (key b a2.symm) (fun k hk => key k fun e => a3 (by rw [← e]; exact hk)), heap_setCell_same w t 0 _ _ u h.ht, h.pm.keep (key c a6.symm), h.ok, h.gt, h.gc, h.ne⟩⟩
end
structure On where
 kd : Int
 dt : Int
 ch : Option Nat
 gn : Int
abbrev cp (c : Option Nat) : Option Addr := c.map fun k => ⟨k, 0, none⟩
def oE (x : On) : List Value := [.int .i64 x.kd, .int .i64 x.dt, .pointer (cp x.ch), .int .i64 x.gn]
theorem oE_len (x : On) : (oE x).length = 4 := rfl
def oV (l : List On) : List Value := l.flatMap oE
theorem oV_len (l : List On) : (oV l).length = l.length * 4 := flat_len oE 4 oE_len l
theorem oV_at {l : List On} {i : Nat} {x : On} (h : l[i]? = some x) (j : Nat) (hj : j < 4) : (oV l)[i * 4 + j]? = (oE x)[j]? := flat_at oE 4 oE_len l i x h j hj
theorem oV_snoc (l : List On) (x : On) : oV l ++ oE x = oV (l ++ [x]) := by simp [oV]
theorem oE_one (x : On) : ∀ u ∈ oE x, u.oneCell' = true := by intro u hu; simp [oE] at hu; rcases hu with rfl | rfl | rfl | rfl <;> rfl
theorem oV_set {l : List On} {i : Nat} {x : On} (h : l[i]? = some x) (y : Int) : (oV l).set (i * 4 + 3) (.int .i64 y) = oV (l.set i { x with gn := y }) := by
 have hi := (List.getElem?_eq_some_iff.1 h).1
 apply List.ext_getElem?
 intro j
 by_cases hj : j < l.length * 4
 · have e1 : j / 4 < l.length := by omega
   have e2 : j = j / 4 * 4 + j % 4 := by omega
   have e3 : j % 4 < 4 := by omega
   generalize j / 4 = q at *
   generalize j % 4 = r at *
   subst e2
   have hq : l[q]? = some l[q] := List.getElem?_eq_getElem e1
   by_cases e : q = i
   · subst e
     rw [h] at hq
     injection hq with hq
     have hy : (l.set q { x with gn := y })[q]? = some { x with gn := y } := by simp [hi]
     rw [oV_at hy r e3]
     by_cases e4 : r = 3
     · subst e4
       rw [List.getElem?_set_self (by rw [oV_len]; omega)]
       rfl
     · rw [List.getElem?_set_ne (by omega), oV_at h r e3]
       have : r = 0 ∨ r = 1 ∨ r = 2 := by omega
       rcases this with rfl | rfl | rfl <;> rfl
   · have hy : (l.set i { x with gn := y })[q]? = some l[q] := by rw [List.getElem?_set_ne (fun e9 => e e9.symm)]; exact hq
     rw [oV_at hy r e3, List.getElem?_set_ne (by omega), oV_at hq r e3]
 · rw [List.getElem?_eq_none (by rw [List.length_set, oV_len]; omega), List.getElem?_eq_none (by rw [oV_len, List.length_set]; omega)]
structure SS (W : World) (t : Nat) (E : List On) (m n : Nat) (S : List It) (g : Int → Int) (L : List (Nat × CS)) (w : World) : Prop where
 ms : MS W L w
 tu : ∃ P c, TU W.heap.size t (.slice P E.length c) (.int .i64 m) n S g w ∧ w.ownsRow W.heap.size 171 4 (.slice P E.length c) E.length (oV E)
def SZ (W : World) (t : Nat) (E : List On) (m n : Nat) (S : List It) (g : Int → Int) (L : List (Nat × CS)) (v : Value) (w : World) (e : Ending) (w' : World) : Prop :=
 e = .returned v ∧ SS W t E m n S g L w' ∧ OZ w w'
section
variable {W w w' w'' : World} {t m n n' i j c : Nat} {E E' : List On} {S S' : List It} {g g' : Int → Int} {L L' : List (Nat × CS)} {v : Value} {e : Ending} {x : On} {s s' : CS}
theorem SS.bel (h : SS W t E m n S g L w) : Below W.heap.size W w := h.ms.bel
theorem SS.ok (h : SS W t E m n S g L w) : Ok n S := by obtain ⟨P, c, h1, h2⟩ := h.tu; exact h1.ok
theorem SS.wf (h : SS W t E m n S g L w) {x : It} (hx : x ∈ S) : Wf x.id := by obtain ⟨P, c, h1, h2⟩ := h.tu; exact h1.wf hx
theorem SS.later (h : SS W t E m n S g L w) (hb : Below w.heap.size w w') : SS W t E m n S g L w' := by
 obtain ⟨h0, P, c, h1, h2⟩ := h
 exact ⟨h0.later hb, P, c, h1.later hb, row_later h2 hb⟩
theorem SS.box (h : SS W t E m n S g L w) (u : Obj) : SS W t E m n S g L (w.alloc u) := h.later (below_al w u)
theorem SS.drewN (h : SS W t E m n S g L w) (q : Nat) : SS W t E m n S g L (w.drewN q) := h.later (below_drewN w q)
theorem SS.sz (h : SS W t E m n S g L w) (hr : e = .returned v ∧ Below w.heap.size w w') : SZ W t E m n S g L v w e w' := ⟨hr.1, h.later hr.2, OZ.of_below hr.2⟩
theorem SZ.but {u : Value} (h : SZ W t E m n S g L v w e w') : SZ W t E m n S g L u w (.returned u) w' := ⟨rfl, h.2⟩
theorem SZ.after (h : OZ w w') (k : SZ W t E m n S g L v w' e w'') : SZ W t E m n S g L v w e w'' := ⟨k.1, k.2.1, h.trans k.2.2⟩
theorem SZ.then (k : SZ W t E m n S g L v w e w') (hb : Below w'.heap.size w' w'') : SZ W t E m n S g L v w e w'' := ⟨k.1, k.2.1.later hb, k.2.2.trans (OZ.of_below hb)⟩
theorem SS.lt (h : SS W t E m n S g L w) : t < w.heap.size := by
 obtain ⟨h0, P, c, h1, h2⟩ := h
 obtain ⟨hB, u, v, hb⟩ := h1.blk
 exact lt_of_blk hb
theorem SS.cells (h : SS W t E m n S g L w) : ∃ P c, w.cell? ⟨t, 0, none⟩ = some (.slice P E.length c) ∧ w.cell? ⟨t, 3, none⟩ = some (.int .i64 m) ∧ w.frozen? ⟨t, 0, none⟩ = false ∧ w.frozen? ⟨t, 3, none⟩ = false ∧
  ∀ i x, E[i]? = some x → ∃ q, P = some ⟨q, 0, none⟩ ∧ q < w.heap.size ∧ (w.cell? ⟨q, i * 4, none⟩ = some (.int .i64 x.kd) ∧ w.cell? ⟨q, i * 4 + 1, none⟩ = some (.int .i64 x.dt) ∧ w.cell? ⟨q, i * 4 + 2, none⟩ = some (.pointer (cp x.ch)) ∧ w.cell? ⟨q, i * 4 + 3, none⟩ = some (.int .i64 x.gn)) ∧ (∀ k, w.frozen? ⟨q, k, none⟩ = false) ∧
   ∀ y, SS W t (E.set i { x with gn := y }) m n S g L (w.setCell ⟨q, i * 4 + 3, none⟩ (.int .i64 y)) ∧ OZ w (w.setCell ⟨q, i * 4 + 3, none⟩ (.int .i64 y)) := by
 obtain ⟨h0, P, c, h1, h2⟩ := h
 obtain ⟨hB, u, v, hb⟩ := h1.blk
 refine ⟨P, c, by rw [cell_of_row w t 0 _ _ _ hb]; rfl, by rw [cell_of_row w t 3 _ _ _ hb]; rfl, frozen_of_row w t 0 _ _ hb, frozen_of_row w t 3 _ _ hb, fun i x hx => ?_⟩
 have hi := (List.getElem?_eq_some_iff.1 hx).1
 obtain ⟨q, hP, hle⟩ := row_form h2 (by omega)
 subst hP
 have hc : ∀ j, j < 4 → w.cell? ⟨q, i * 4 + j, none⟩ = (oE x)[j]? := fun j hj => by
  rw [h2.cellAt (i * 4 + j) (by omega)]
  exact oV_at hx j hj
 refine ⟨q, rfl, (row_lt h2 rfl).2, ⟨hc 0 (by omega), hc 1 (by omega), hc 2 (by omega), hc 3 (by omega)⟩, fun k => h2.frozenAt k, fun y => ?_⟩
 obtain ⟨cs, fr, hq⟩ := row_tag h2 rfl
 have hqB := (row_lt h2 rfl).1
 have ex : Ex 171 w (w.setCell ⟨q, i * 4 + 3, none⟩ (.int .i64 y)) := ⟨by simp [World.setCell], fun j hj hn => Below.heap_setCell _ _ _ _ (show j ≠ q by rintro rfl; exact hn _ _ hq)⟩
 have r := (h2.stored (i * 4 + 3) (.int .i64 y)).1
 rw [oV_set hx] at r
 refine ⟨⟨h0.ex ex (h0.bel.setCell (show W.heap.size ≤ (⟨q, i * 4 + 3, none⟩ : Addr).block from hqB) _) (by decide), some ⟨q, 0, none⟩, c, ?_, ?_⟩, by simp [World.setCell], fun k cs' ty fr' e1 e2 => ?_⟩
 · rw [List.length_set]; exact h1.ex ex
 · rw [List.length_set]; exact r
 · rw [ex.2 k (lt_of_blk e1) fun cs9 fr9 e9 => ?_]
   · exact e1
   · rw [e1] at e9; injection e9 with e9; injection e9 with _ e9 _; exact e2.2.2.2 e9
theorem SS.added {wy w1 : World} {gB cap cc : Nat} {P : Option Addr} (h : SS W t E m n S g L w) (hc0 : w.cell? ⟨t, 0, none⟩ = some (.slice P E.length cc)) (hy : Below w.heap.size w wy)
  (ho : w1.ownsRow W.heap.size 171 4 (.slice (some ⟨gB, 0, none⟩) (E.length + 1) cap) (E.length + 1) (oV E ++ oE x)) (hg : wy.grownBy w1 (Value.slice P E.length cc).ownBlock) (hat : (Value.slice P E.length cc).ownBlock = some gB ∨ w.heap.size ≤ gB) :
  SS W t (E ++ [x]) m n S g L (w1.setCell ⟨t, 0, none⟩ (.slice (some ⟨gB, 0, none⟩) (E.length + 1) cap)) ∧ OZ w (w1.setCell ⟨t, 0, none⟩ (.slice (some ⟨gB, 0, none⟩) (E.length + 1) cap)) := by
 rw [own_blk] at hg hat
 obtain ⟨h0, P', c', h1, h2⟩ := h
 obtain ⟨hB, u, v, hb⟩ := h1.blk
 have e0 : w.cell? ⟨t, 0, none⟩ = some (.slice P' E.length c') := by rw [cell_of_row w t 0 _ _ _ hb]; rfl
 rw [hc0] at e0
 injection e0 with e0; injection e0 with e0 _ e1
 subst e0; subst e1
 have hs := hy.size
 have hsz : w.heap.size ≤ w1.heap.size := by have := hg.size; omega
 have ex : Ex 171 w w1 := ⟨hsz, fun j hj hn => (hg.block j (by omega) (fun e => by
  obtain ⟨cs, fr, hq⟩ := row_tag h2 e.symm
  exact hn _ _ hq)).trans (hy.block j hj)⟩
 have hW := h0.bel
 have hbel : Below W.heap.size W w1 :=
  ⟨(hg.os.trans hy.os).trans hW.os, (hg.tape.trans hy.tape).trans hW.tape, (hg.output.trans hy.output).trans hW.output, by have := hW.size; omega, fun k hk =>
   ((hg.block k (by have := hW.size; omega) (fun e => by have := (row_lt h2 e.symm).1; omega)).trans (hy.block k (by have := hW.size; omega))).trans (hW.block k hk)⟩
 have hb1 : w1.heap[t]? = some (.cells #[.slice P E.length cc, u, v, .int .i64 m] 146 (0, 0)) := (ex.2 t (lt_of_blk hb) fun cs fr e9 => by
  rw [hb] at e9; injection e9 with e9; injection e9 with _ e9 _; exact absurd e9 (by decide)).trans hb
 obtain ⟨cs, fr, hq⟩ := row_tag ho rfl
 have htg : t ≠ gB := by
  rintro rfl
  rw [hb1] at hq; injection hq with hq; injection hq with _ hq _; exact absurd hq (by decide)
 have key : ∀ k, k ≠ t → (w1.setCell ⟨t, 0, none⟩ (.slice (some ⟨gB, 0, none⟩) (E.length + 1) cap)).heap[k]? = w1.heap[k]? := fun k hk => Below.heap_setCell _ _ _ _ (by exact hk)
 have ex2 : Ex 146 w1 (w1.setCell ⟨t, 0, none⟩ (.slice (some ⟨gB, 0, none⟩) (E.length + 1) cap)) := ⟨by simp [World.setCell], fun j hj hn => key j (by rintro rfl; exact hn _ _ hb1)⟩
 have e5 : (E ++ [x]).length = E.length + 1 := by simp
 refine ⟨⟨((h0.ex ex hbel (by decide)).ex ex2 (hbel.setCell (show W.heap.size ≤ (⟨t, 0, none⟩ : Addr).block from hB) _) (by decide)), some ⟨gB, 0, none⟩, cap, ?_, ?_⟩, by rw [show (w1.setCell ⟨t, 0, none⟩ (.slice (some ⟨gB, 0, none⟩) (E.length + 1) cap)).heap.size = w1.heap.size from by simp [World.setCell]]; exact Nat.le_trans hy.size hg.size, fun k cs' ty fr' a1 a2 => ?_⟩
 · rw [e5]; exact (h1.ex ex).setA _
 · rw [e5, ← oV_snoc]
   refine row_keep ho fun k hk => ?_
   injection hk with hk; subst hk
   exact key _ htg.symm
 · have a3 := ex.2 k (lt_of_blk a1) fun cs9 fr9 e9 => by
    rw [a1] at e9; injection e9 with e9; injection e9 with _ e9 _; exact a2.2.2.2 e9
   rw [key k ?_, a3]
   · exact a1
   · rintro rfl
     rw [a1] at a3; rw [hb1] at a3; injection a3 with a3; injection a3 with _ a3 _; exact a2.2.2.1 a3.symm
theorem SS.new (hb : Below W.heap.size W w) : SS W w.heap.size [] 0 0 [] (fun _ => 0) [] (w.alloc (.cells #[.slice none 0 0, .pointer none, .map none, .int .i64 0] 146)) := by
 have h1 := heap_alloc_new w (.cells #[.slice none 0 0, .pointer none, .map none, .int .i64 0] 146)
 have hb1 := hb.trans ((below_al w (.cells #[.slice none 0 0, .pointer none, .map none, .int .i64 0] 146)).mono hb.size)
 refine ⟨⟨hb1, fun _ _ => False, fun i c s h => by simp at h, fun _ _ h => h.elim, fun _ _ _ h => h.elim⟩, none, 0, .inl ⟨⟨hb.size, h1⟩, rfl, rfl, rfl⟩, World.ownsRow_nil _ _ _ _⟩
theorem SS.tim (h : SS W t E m n S g L w) {f : Nat} {args : Array Value} (hc : ∀ vA, TU W.heap.size t vA (.int .i64 m) n S g w → Calls Tryz.prog f args w (XU W.heap.size t vA (.int .i64 m) n' S' g' v w)) : Calls Tryz.prog f args w (SZ W t E m n' S' g' L v w) := by
 obtain ⟨h0, P, c, h1, h2⟩ := h
 exact (hc _ h1).mono fun e w' r => ⟨r.1, ⟨h0.oy r.2.2.2 (h0.bel.trans r.2.2.1), P, c, r.2.1, r.2.2.2.row h2 (by decide) (by decide) (by decide)⟩, r.2.2.2.oz r.2.2.1.size⟩
end
end Go.Proofs.YtdpapnfjpefhkaaGreat
namespace Go.Proofs.YtdpapnfjpefhkaaGreat
open Go.RowKit Ch
set_option linter.unusedVariables false
set_option maxRecDepth 100000
abbrev pS (t : Nat) : Value := .pointer (some ⟨t, 0, none⟩)
abbrev oG (x : On) : Value := .agg #[.int .i64 x.kd, .int .i64 x.dt, .pointer (cp x.ch), .int .i64 x.gn]
def zO : On := ⟨0, 0, none, 0⟩
section
variable {W w w' w'' : World} {t m n n' i j c : Nat} {E E' : List On} {S S' : List It} {g g' : Int → Int} {L L' : List (Nat × CS)} {v : Value} {e : Ending} {x : On} {s s' : CS}
theorem new_set (w : World) : Calls Tryz.prog 18 #[] w fun e w' => e = .returned (pS w.heap.size) ∧ w' = w.alloc (.cells #[.slice none 0 0, .pointer none, .map none, .int .i64 0] 146) := by
 go_enter Tryz.func18, Tryz.ntmps18
 go_wp2
 go_ret
 exact ⟨rfl, rfl⟩
theorem ss_new (hb : Below W.heap.size W w) : Calls Tryz.prog 18 #[] w fun e w' => e = .returned (pS w.heap.size) ∧ SS W w.heap.size [] 0 0 [] (fun _ => 0) [] w' ∧ Below w.heap.size w w' := by
 refine (new_set w).mono ?_
 rintro e w' ⟨rfl, rfl⟩
 exact ⟨rfl, SS.new hb, below_al _ _⟩
theorem len_set (h : SS W t E m n S g L w) : Calls Tryz.prog 137 #[pS t] w fun e w' => e = .returned (.int .i64 (E.length : Int)) ∧ w = w' := by
 obtain ⟨P, c, c0, -, -⟩ := h.cells
 clear h
 go_enter Tryz.func137, Tryz.ntmps137
 go_wp2_with fail
 go_ret
 exact ⟨rfl, rfl⟩
def GtR (x : On) (w : World) (e : Ending) (w' : World) : Prop := e = .returned (.agg #[.int .i64 x.kd, .int .i64 x.dt, .pointer (cp x.ch), .int .i64 x.gn]) ∧ Below w.heap.size w w'
set_option maxHeartbeats 4000000 in
theorem get_yes (h : SS W t E m n S g L w) (hx : E[i]? = some x) : Calls Tryz.prog 127 #[pS t, .int .i64 (i : Int)] w (GtR x w) := by
 have hi := (List.getElem?_eq_some_iff.1 hx).1
 have b1 : ¬ (i : Int) < 0 := by omega
 have b2 : ¬ (E.length : Int) ≤ (i : Int) := by omega
 have ht := h.lt
 have HA := Lib.hid h
 obtain ⟨P, c, c0, -, -, -, hr⟩ := h.cells
 obtain ⟨q, rfl, hq, ⟨x0, x1, x2, x3⟩, -, -⟩ := hr i x hx
 clear hr h hx
 go_enter Tryz.func127, Tryz.ntmps127
 go_wp2_with fail
 refine (len_set (HA.out.box _)).mono ?_
 rintro e w' ⟨rfl, rfl⟩
 go_wp2_with fail
 refine bodyPost_ret (v := oG x) ?_ rfl ⟨rfl, ?_⟩
 · rw [results_cell_row rfl _ _ w.heap.size 171 #[.int .i64 x.kd, .int .i64 x.dt, .pointer (cp x.ch), .int .i64 x.gn] (0, 0) _ rfl (heap_alloc_new w _) Tryz.underlying171 rfl (by kernel_rfl)]
 · first | exact below_al _ _ | (repeat' (first | exact below_al _ _ | refine Below.alloc ?_ (by omega) _))
set_option maxHeartbeats 4000000 in
theorem get_no {k : Int} (h : SS W t E m n S g L w) (hk : k < 0 ∨ (E.length : Int) ≤ k) : Calls Tryz.prog 127 #[pS t, .int .i64 k] w (GtR zO w) := by
 have HA := Lib.hid h
 have ht := h.lt
 by_cases b1 : k < 0
 · clear hk h
   go_enter Tryz.func127, Tryz.ntmps127
   go_wp2_with fail
   refine bodyPost_ret (v := .agg #[.int .i64 0, .int .i64 0, .pointer none, .int .i64 0]) ?_ rfl ⟨rfl, ?_⟩
   · rw [results_cell_row rfl _ _ w.heap.size 171 #[.int .i64 0, .int .i64 0, .pointer none, .int .i64 0] (0, 0) _ rfl (heap_alloc_new w _) Tryz.underlying171 rfl (by kernel_rfl)]
   · first | exact below_al _ _ | (repeat' (first | exact below_al _ _ | refine Below.alloc ?_ (by omega) _))
 · have b2 : (E.length : Int) ≤ k := by omega
   clear hk h
   go_enter Tryz.func127, Tryz.ntmps127
   go_wp2_with fail
   refine (len_set (HA.out.box _)).mono ?_
   rintro e w' ⟨rfl, rfl⟩
   go_wp2_with fail
   refine bodyPost_ret (v := .agg #[.int .i64 0, .int .i64 0, .pointer none, .int .i64 0]) ?_ rfl ⟨rfl, ?_⟩
   · rw [results_cell_row rfl _ _ w.heap.size 171 #[.int .i64 0, .int .i64 0, .pointer none, .int .i64 0] (0, 0) _ rfl (heap_alloc_new w _) Tryz.underlying171 rfl (by kernel_rfl)]
   · first | exact below_al _ _ | (repeat' (first | exact below_al _ _ | refine Below.alloc ?_ (by omega) _))
def eA (E : List On) (k : Int) : On := if k < 0 then zO else (E[k.toNat]?).getD zO
theorem eA_at (hx : E[i]? = some x) : eA E i = x := by
 unfold eA
 rw [if_neg (by omega)]
 simp [hx]
theorem eA_no {k : Int} (hk : k < 0 ∨ (E.length : Int) ≤ k) : eA E k = zO := by
 unfold eA
 split
 · rfl
 · rw [List.getElem?_eq_none (by omega)]; rfl
theorem get_any (k : Int) (h : SS W t E m n S g L w) : Calls Tryz.prog 127 #[pS t, .int .i64 k] w (GtR (eA E k) w) := by
 by_cases hk : k < 0 ∨ (E.length : Int) ≤ k
 · rw [eA_no hk]; exact get_no h hk
 · have hi : k.toNat < E.length := by omega
   have hx : E[k.toNat]? = some E[k.toNat] := List.getElem?_eq_getElem hi
   have ek : k = (k.toNat : Int) := by omega
   rw [ek, eA_at hx]
   exact get_yes h hx
theorem fd0 (x : On) (w : World) : (Instr.field 171 (.agg #[.int .i64 x.kd, .int .i64 x.dt, .pointer (cp x.ch), .int .i64 x.gn]) 0).run Tryz.prog w = .ok (.int .i64 x.kd) w := by kernel_rfl
theorem kind_any (k : Int) (h : SS W t E m n S g L w) : Calls Tryz.prog 114 #[pS t, .int .i64 k] w (SZ W t E m n S g L (.int .i64 (eA E k).kd) w) := by
 have HA := Lib.hid h
 clear h
 go_enter Tryz.func114, Tryz.ntmps114
 go_wp2_with fail
 refine (get_any k HA.out).mono ?_
 rintro e w' ⟨rfl, hb⟩
 have HB := Lib.hid hb
 clear hb
 generalize eA E k = x at *
 have hfd := fd0 x
 go_wp2_with fail
 go_ret
 exact HA.out.sz ⟨rfl, HB.out⟩
theorem ss_tarm (k y z : Int) (h : SS W t E m n S g L w) (hk : Wf k) (hy : Fit y) (hz : Fit z) (hn : n ≤ 1000000) (hl : S.length < 1000) : Calls Tryz.prog 117 #[pT t, .int .i64 k, .int .i64 y, .int .i64 z] w (SZ W t E m (n + 1) (ins ⟨k, y, (n : Int) + 1⟩ (del k S)) (fput g k z) L (.int .i64 0) w) :=
 h.tim fun vA hu => tu_arm k y z hu hk hy hz hn hl
theorem ss_tstop (k : Int) (h : SS W t E m n S g L w) (hk : Wf k) (hl : S.length ≤ 1000) : Calls Tryz.prog 108 #[pT t, .int .i64 k] w (SZ W t E m n (del k S) (fput g k 0) L (.bool (decide (k ∈ ids S))) w) :=
 h.tim fun vA hu => tu_stop k hu hk hl
theorem ss_tnext (h : SS W t E m n S g L w) (hl : S.length ≤ 1000) : Calls Tryz.prog 54 #[pT t] w (SZ W t E m n S g L (.tuple #[.int .i64 (nxt S).1, .bool (nxt S).2]) w) :=
 h.tim fun vA hu => tu_next hu hl
def tk (now : Int) (n : Nat) (S : List It) (g : Int → Int) : Option It × Nat × List It × (Int → Int) := match S with
 | [] => (none, n, [], g)
 | x :: r => if now < x.w then (none, n, x :: r, g) else if Gon x.w (g x.id) now then (some x, n + 1, ins ⟨x.id, nx x.w (g x.id) now, (n : Int) + 1⟩ r, g) else (some x, n, r, fput g x.id 0)
def tkV (now : Int) : Option It → Value
 | none => .tuple #[vD 0 0 0, .bool false]
 | some x => .tuple #[vD x.id x.w now, .bool true]
theorem ss_ttake (now : Int) (h : SS W t E m n S g L w) (hn : n ≤ 1000000) (hl : S.length ≤ 1000) : Calls Tryz.prog 65 #[pT t, .int .i64 now] w (SZ W t E m (tk now n S g).2.1 (tk now n S g).2.2.1 (tk now n S g).2.2.2 L (tkV now (tk now n S g).1) w) := by
 cases S with
 | nil => exact h.tim fun vA hu => tu_take_no hu hl trivial
 | cons x r =>
  unfold tk
  by_cases h1 : now < x.w
  · simp only [if_pos h1]
    exact h.tim fun vA hu => tu_take_no hu hl h1
  · by_cases h2 : Gon x.w (g x.id) now
    · simp only [if_neg h1, if_pos h2]
      exact h.tim fun vA hu => tu_take_on hu hn hl (by omega) h2
    · simp only [if_neg h1, if_neg h2]
      exact h.tim fun vA hu => tu_take_end hu hl (by omega) h2
theorem next_set (h : SS W t E m n S g L w) (hl : S.length ≤ 1000) : Calls Tryz.prog 17 #[pS t] w (SZ W t E m n S g L (.tuple #[.int .i64 (nxt S).1, .bool (nxt S).2]) w) := by
 have HA := Lib.hid h
 clear h
 go_enter Tryz.func17, Tryz.ntmps17
 go_wp2_with fail
 refine (ss_tnext HA.out hl).mono ?_
 rintro e w' hz
 have HZ := Lib.hid hz
 obtain rfl := hz.1
 clear hz
 generalize (nxt S).1 = a at *
 generalize (nxt S).2 = b at *
 go_wp2_with fail
 go_ret2
 exact HZ.out
theorem drop_nil (w : World) : Calls Tryz.prog 128 #[.pointer none] w fun e w' => e = .returned (.bool false) ∧ w = w' := by
 go_enter Tryz.func128, Tryz.ntmps128
 go_wp2_with fail
 go_ret
 exact ⟨rfl, rfl⟩
theorem put_nil (x : Int) (w : World) : Calls Tryz.prog 66 #[.pointer none, .int .i64 x] w fun e w' => e = .returned (.tuple #[.slice none 0 0, .bool false]) ∧ w = w' := by
 go_enter Tryz.func66, Tryz.ntmps66
 go_wp2_with fail
 go_ret2
 exact ⟨rfl, rfl⟩
end
end Go.Proofs.YtdpapnfjpefhkaaGreat
namespace Go.Proofs.YtdpapnfjpefhkaaGreat
open Go.RowKit Ch
set_option linter.unusedVariables false
set_option maxRecDepth 100000
section
variable {W w w' w'' : World} {t m n n' i j c : Nat} {E E' : List On} {S S' : List It} {g g' : Int → Int} {L L' : List (Nat × CS)} {v : Value} {e : Ending} {x : On} {s s' : CS}
theorem wf_nat (h : i < 1000000) : Wf (i : Int) := wf_of (by omega) (by omega)
set_option maxHeartbeats 4000000 in
theorem stopS_no (h : SS W t E m n S g L w) (hx : E[i]? = some x) (hc : x.ch = none) (hE : E.length ≤ 100000) (hl : S.length ≤ 1000) :
  Calls Tryz.prog 115 #[pS t, .int .i64 (i : Int)] w (SZ W t E m n (del i S) (fput g i 0) L (.bool (decide ((i : Int) ∈ ids S))) w) := by
 have hlt := (List.getElem?_eq_some_iff.1 hx).1
 have b1 : (0 : Int) ≤ (i : Int) := by omega
 have b2 : (i : Int) < (E.length : Int) := by omega
 have hw := wf_nat (i := i) (by omega)
 have HA := Lib.hid h
 have HX := Lib.hid hx
 clear h hx hE hlt
 go_enter Tryz.func115, Tryz.ntmps115
 go_wp2_with fail
 refine (ss_tstop i HA.out hw hl).mono ?_
 rintro e w1 hz
 have HZ := Lib.hid hz
 obtain rfl := hz.1
 clear hz
 obtain ⟨P, cc, c0, -, -, -, hr⟩ := HZ.out.2.1.cells
 obtain ⟨q, rfl, hq, ⟨x0, x1, x2, x3⟩, -, -⟩ := hr i x HX.out
 rw [hc] at x2
 clear hr x0 x1 x3
 simp only [Option.map_none] at x2
 generalize hd : decide ((i : Int) ∈ ids S) = d at *
 clear hd
 go_wp2_with fail
 refine (drop_nil _).mono ?_
 rintro e w2 ⟨rfl, rfl⟩
 cases d
 · go_wp2_with fail
   go_ret
   exact HZ.out.but
 · go_wp2_with fail
   go_ret
   exact HZ.out.but
def up (x : On) : On := { x with gn := x.gn + 1 }
set_option maxHeartbeats 4000000 in
theorem arm_set (y z : Int) (h : SS W t E m n S g L w) (hx : E[i]? = some x) (hg0 : 0 ≤ x.gn) (hg1 : x.gn ≤ 1000000) (hy : Fit y) (hz : Fit z) (hE : E.length ≤ 100000) (hn : n ≤ 1000000) (hl : S.length < 1000) :
  Calls Tryz.prog 99 #[pS t, .int .i64 (i : Int), .int .i64 y, .int .i64 z] w (SZ W t (E.set i (up x)) m (n + 1) (ins ⟨i, y, (n : Int) + 1⟩ (del i S)) (fput g i z) L (.tuple #[]) w) := by
 have hlt := (List.getElem?_eq_some_iff.1 hx).1
 have b1 : (0 : Int) ≤ (i : Int) := by omega
 have b2 : (i : Int) < (E.length : Int) := by omega
 have b3 : IntKind.i64.wrap (x.gn + 1) = x.gn + 1 := by rw [IntKind.wrap_i64]; omega
 have hw := wf_nat (i := i) (by omega)
 have HA := Lib.hid h
 have HX := Lib.hid hx
 clear h hx hE hlt hg0 hg1
 go_enter Tryz.func99, Tryz.ntmps99
 go_wp2_with fail
 refine (ss_tarm i y z HA.out hw hy hz hn hl).mono ?_
 rintro e w1 hz
 have HZ := Lib.hid hz
 obtain rfl := hz.1
 clear hz
 obtain ⟨P, cc, c0, -, -, -, hr⟩ := HZ.out.2.1.cells
 obtain ⟨q, rfl, hq, ⟨x0, x1, x2, x3⟩, fq, st⟩ := hr i x HX.out
 have HS := Lib.hid (st (x.gn + 1))
 have f3 := fq (i * 4 + 3)
 clear hr x0 x1 x2 st fq
 go_wp2_with fail
 go_end0
 exact ⟨rfl, HS.out.1, HZ.out.2.2.trans HS.out.2⟩
theorem below_two {w wx : World} {o1 o2 : Obj} (hh : wx.heap = ((w.alloc o1).alloc o2).heap) (h1 : wx.os = w.os) (h2 : wx.tape = w.tape) (h3 : wx.output = w.output) : Below w.heap.size w wx :=
 ⟨h1, h2, h3, by rw [hh]; simp; omega, fun k hk => by rw [hh]; exact (Below.heap_alloc _ _ k (by simp; omega)).trans (Below.heap_alloc _ _ k hk)⟩
theorem news_two {w wx : World} {o1 : Obj} {cs : Array Value} {t : TypeId} (hh : wx.heap = ((w.alloc o1).alloc (.cells cs t)).heap) : wx.heap[w.heap.size + 1]? = some (.cells cs t (0, 0)) := by
 rw [hh]
 have := heap_alloc_new (w.alloc o1) (.cells cs t)
 rw [World.size_alloc] at this
 exact this
theorem SS.mid {wx w1 : World} {P : Option Addr} (h : SS W t E m n S g L w) (hc0 : w.cell? ⟨t, 0, none⟩ = some (.slice P E.length c)) (hx : Below w.heap.size w wx) (hg : wx.grownBy w1 (Value.slice P E.length c).ownBlock) : w1.cell? ⟨t, 0, none⟩ = some (.slice P E.length c) ∧ w1.frozen? ⟨t, 0, none⟩ = false := by
 obtain ⟨h0, P', c', h1, h2⟩ := h
 obtain ⟨hB, u, v, hb⟩ := h1.blk
 have e0 : w.cell? ⟨t, 0, none⟩ = some (.slice P' E.length c') := by rw [cell_of_row w t 0 _ _ _ hb]; rfl
 rw [hc0] at e0
 injection e0 with e0; injection e0 with e0 _ e1
 subst e0; subst e1
 rw [own_blk] at hg
 have hk := (hg.block t (by have := hx.size; have := lt_of_blk hb; omega) (fun e => by
  obtain ⟨cs, fr, hq⟩ := row_tag h2 e.symm
  rw [hb] at hq; injection hq with hq; injection hq with _ hq _; exact absurd hq (by decide))).trans (hx.block t (lt_of_blk hb))
 exact ⟨(cell_blk hk 0).trans hc0, (frozen_blk hk 0).trans (frozen_of_row w t 0 _ _ hb)⟩
theorem SS.own {P : Option Addr} (h : SS W t E m n S g L w) (hc0 : w.cell? ⟨t, 0, none⟩ = some (.slice P E.length c)) : w.ownsRow W.heap.size 171 4 (.slice P E.length c) E.length (oV E) := by
 obtain ⟨h0, P', c', h1, h2⟩ := h
 obtain ⟨hB, u, v, hb⟩ := h1.blk
 have e0 : w.cell? ⟨t, 0, none⟩ = some (.slice P' E.length c') := by rw [cell_of_row w t 0 _ _ _ hb]; rfl
 rw [hc0] at e0
 injection e0 with e0; injection e0 with e0 _ e1
 subst e0; subst e1
 exact h2
theorem infO : (Tryz.prog.info? 171).map (fun i => (i.zero, i.size, i.bytes)) = some (some (.agg #[.int .i64 0, .int .i64 0, .pointer none, .int .i64 0]), 4, 32) := by kernel_rfl
theorem up_snoc (E : List On) (x : On) : (E ++ [x]).set E.length (up x) = E ++ [up x] := by simp
set_option maxHeartbeats 8000000 in
theorem add_set (x : On) (y z : Int) (h : SS W t E m n S g L w) (hg0 : 0 ≤ x.gn) (hg1 : x.gn ≤ 1000000) (hy : Fit y) (hz : Fit z) (hE : E.length < 100000) (hn : n ≤ 1000000) (hl : S.length < 1000) :
  Calls Tryz.prog 76 #[pS t, .agg #[.int .i64 x.kd, .int .i64 x.dt, .pointer (cp x.ch), .int .i64 x.gn], .int .i64 y, .int .i64 z] w (SZ W t (E ++ [up x]) m (n + 1) (ins ⟨(E.length : Int), y, (n : Int) + 1⟩ (del (E.length : Int) S)) (fput g (E.length : Int) z) L (.int .i64 (E.length : Int)) w) := by
 obtain ⟨i0, hi, hz0, hz1, hz2⟩ := info_parts infO
 have hlt := h.lt
 have hla : t ≠ w.heap.size := by omega
 have hsz := h.bel.size
 have HA := Lib.hid h
 obtain ⟨P, c, c0, -, f0, -, -⟩ := h.cells
 have HC : Hid (w.cell? ⟨t, 0, none⟩ = some (.slice P E.length c)) := c0
 have HG := Lib.hid (And.intro hg0 hg1)
 have HF := Lib.hid (And.intro hy hz)
 have HN := Lib.hid (And.intro hE (And.intro hn hl))
 have b2 : (E.length : Int) ≤ 100000 := by omega
 have b3 : (0 : Int) ≤ (E.length : Int) := by omega
 clear h hg0 hg1 hy hz hn hl
 go_enter Tryz.func76, Tryz.ntmps76
 go_wp2_with fail
 go_region_law (go_loud (refine step_append_lies _ (by rfl) _ _ _ (by rfl) W.heap.size 171 i0 (.agg #[.int .i64 0, .int .i64 0, .pointer none, .int .i64 0]) 4 32 Tryz.underlying140 hi hz0 hz1 hz2 rfl (by omega) (.slice P E.length c) E.length (oV E) (by rfl) (row_later (HA.out.own HC.out) (below_two rfl rfl rfl rfl)) ⟨w.heap.size + 1, 0, none⟩ 1 1 (oE x) (by rfl) (by rfl) (World.news_of_block (cs := #[.int .i64 x.kd, .int .i64 x.dt, .pointer (cp x.ch), .int .i64 x.gn]) (t := 171) (fr := (0, 0)) (news_two (w := w) (by rfl))) (oE_one x) (by omega) (by unfold maxLen; omega) (by omega) (by simp; omega) (w.heap.size + 2) (by simp) ?_; intro q cap w1 hown hgrow hat hlt1; have HM := HA.out.mid HC.out (by exact below_two rfl rfl rfl rfl) hgrow; have HE := Lib.hid (HA.out.added (x := x) HC.out (by exact below_two rfl rfl rfl rfl) hown hgrow (hat.imp id (by omega))); have hc1 := HM.1; have hf1 := HM.2; clear HM hown hgrow hat hlt1 c0 f0))
 all_goals
  go_wp2_with fail
  refine (arm_set (i := E.length) y z HE.out.1 (by simp) HG.out.1 HG.out.2 HF.out.1 HF.out.2 (by simp; omega) HN.out.2.1 HN.out.2.2).mono ?_
  rintro e w2 hz
  rw [up_snoc] at hz
  have HZ := Lib.hid (SZ.after HE.out.2 hz)
  obtain rfl := hz.1
  clear hz HE
  go_wp2_with fail
  go_ret
  exact HZ.out.but
end
end Go.Proofs.YtdpapnfjpefhkaaGreat
namespace Go.Proofs.YtdpapnfjpefhkaaGreat
open Go.RowKit Ch
set_option linter.unusedVariables false
set_option maxRecDepth 100000
def hz (x : Int) : Int := max 0 (min x 4611686018427387904)
theorem hz_fit (x : Int) : Fit (hz x) := by unfold hz Fit; omega
theorem hold0_any (x : Int) (w : World) : Calls Tryz.prog 77 #[.int .i64 x] w fun e w' => e = .returned (.int .i64 (hz x)) ∧ w = w' := by
 go_enter Tryz.func77, Tryz.ntmps77
 go_wp2
 all_goals (go_ret; exact ⟨ret_int (by unfold hz; omega), rfl⟩)
def wn (now d : Int) : Int := ad now (hz d)
def per (kd d : Int) : Int := if kd = 2 then hz d else 0
def DueOk (kd now d : Int) : Prop := Fit now ∧ (kd = 2 → 1 ≤ d)
instance (kd now d : Int) : Decidable (DueOk kd now d) := inferInstanceAs (Decidable (_ ∧ _))
section
variable {W w w' w'' : World} {t m n n' i j c : Nat} {E E' : List On} {S S' : List It} {g g' : Int → Int} {L L' : List (Nat × CS)} {v : Value} {e : Ending} {x : On} {s s' : CS}
theorem SS.cellO (h : SS W t E m n S g L w) {b : Nat} {cs : Array Value} {ty : TypeId} {fr : Nat × Nat} (hb : w.heap[b]? = some (.cells cs ty fr)) (ho : OthZ ty) (hc : ty ≠ 185 ∧ ty ≠ 237 ∧ ty ≠ 3 ∧ ty ≠ 221) (hW : W.heap.size ≤ b) (k : Nat) (u : Value) : SS W t E m n S g L (w.setCell ⟨b, k, none⟩ u) := by
 obtain ⟨h0, P, c, h1, h2⟩ := h
 have key : ∀ q, q ≠ b → (w.setCell ⟨b, k, none⟩ u).heap[q]? = w.heap[q]? := fun q hq => Below.heap_setCell _ _ _ _ (by exact hq)
 have ex : Ex ty w (w.setCell ⟨b, k, none⟩ u) := ⟨by simp [World.setCell], fun q hq hn => key q (by rintro rfl; exact hn _ _ hb)⟩
 refine ⟨h0.ex ex (h0.bel.setCell (show W.heap.size ≤ (⟨b, k, none⟩ : Addr).block from hW) _) hc, P, c, h1.keep fun q hq hi => ?_, row_keep h2 fun q hq => key q ?_⟩
 · refine key q ?_
   rintro rfl
   rcases hi with ⟨cs', ty', fr', e1, e2⟩ | ⟨es, cl, e1⟩
   · rw [hb] at e1; injection e1 with e1; injection e1 with _ e1 _; subst e1
     rcases e2 with e2 | e2 | e2
     · exact ho.1 e2
     · exact ho.2.1 e2
     · exact ho.2.2.1 e2
   · rw [hb] at e1; cases e1
 · rintro rfl
   obtain ⟨cs', fr', e1⟩ := row_tag h2 hq
   rw [hb] at e1; injection e1 with e1; injection e1 with _ e1 _; exact ho.2.2.2 e1
theorem OZ.cell {w0 : World} (h : OZ w0 w) {b : Nat} (hb : w0.heap.size ≤ b) (k : Nat) (u : Value) : OZ w0 (w.setCell ⟨b, k, none⟩ u) := ⟨by rw [show (w.setCell ⟨b, k, none⟩ u).heap.size = w.heap.size from by simp [World.setCell]]; exact h.1, fun q cs ty fr e1 e2 =>
 (Below.heap_setCell _ _ _ _ (show q ≠ b by have := lt_of_blk e1; omega)).trans (h.2 q cs ty fr e1 e2)⟩
def cN : CS := ⟨1, false, 1, [], [], []⟩
def MkF (W : World) (t : Nat) (E : List On) (m m' n : Nat) (S : List It) (g : Int → Int) (L : List (Nat × CS)) (kd wh p : Int) (w : World) (e : Ending) (w' : World) : Prop :=
 SZ W t (E ++ [⟨kd, p, none, 1⟩]) m' (n + 1) (ins ⟨(E.length : Int), wh, (n : Int) + 1⟩ (del (E.length : Int) S)) (fput g (E.length : Int) 0) L (.tuple #[.int .i64 (E.length : Int), .int .i64 0]) w e w'
theorem lapse_ok {wh p : Int} (h : SS W t E m n S g L w) (hp : 0 ≤ p) (hE : E.length < 100000) (hn : n ≤ 1000000) (hl : S.length < 1000) :
  Calls Tryz.prog 49 #[pS t, .int .i64 wh, .int .i64 p] w (MkF W t E m m n S g L 4 (hz wh) p w) := by
 have b0 : ¬ p < 0 := by omega
 have HF := Lib.hid (hz_fit wh)
 have hz0 := Lib.hid (show Fit 0 by decide)
 have HA := Lib.hid h
 have HN := Lib.hid (And.intro hE (And.intro hn hl))
 have F := hold0_any wh w
 clear h hE hn hl
 unfold MkF
 generalize hz wh = y at *
 go_enter Tryz.func49, Tryz.ntmps49
 go_wp2_with (go_at_call 77; (with_reducible refine F.mono ?_); rintro e w' ⟨rfl, rfl⟩)
 refine (add_set ⟨4, p, none, 0⟩ y 0 HA.out (by show (0 : Int) ≤ 0; decide) (by show (0 : Int) ≤ 1000000; decide) HF.out hz0.out HN.out.1 HN.out.2.1 HN.out.2.2).mono ?_
 rintro e w5 hz
 have HZ := Lib.hid hz
 obtain rfl := hz.1
 clear hz
 go_wp2_with fail
 go_ret2
 exact HZ.out.but
end
end Go.Proofs.YtdpapnfjpefhkaaGreat
namespace Go.Proofs.YtdpapnfjpefhkaaGreat
open Go.RowKit Ch
set_option linter.unusedVariables false
set_option maxRecDepth 100000
section
variable {W w w' w'' : World} {t m n n' i j c : Nat} {E E' : List On} {S S' : List It} {g g' : Int → Int} {L L' : List (Nat × CS)} {v : Value} {e : Ending} {x : On} {s s' : CS}
structure Drp (L : List (Nat × CS)) (x : On) (L' : List (Nat × CS)) (b : Bool) : Prop where
 h : x.ch = none ∧ L' = L ∧ b = false
theorem Drp.none (hc : x.ch = none) : Drp L x L false := ⟨⟨hc, rfl, rfl⟩⟩
theorem stopS (h : SS W t E m n S g L w) (hx : E[i]? = some x) {b : Bool} (hd : Drp L x L' b) (hE : E.length ≤ 100000) (hl : S.length ≤ 1000) :
  Calls Tryz.prog 115 #[pS t, .int .i64 (i : Int)] w (SZ W t E m n (del i S) (fput g i 0) L' (.bool (decide ((i : Int) ∈ ids S) || b)) w) := by
 obtain ⟨hc, rfl, rfl⟩ := hd.h
 rw [Bool.or_false]
 exact stopS_no h hx hc hE hl
theorem stop_set (h : SS W t E m n S g L w) (hx : E[i]? = some x) {b : Bool} (hd : Drp L x L' b) (hk : x.kd ≠ 0) (hE : E.length ≤ 100000) (hl : S.length ≤ 1000) :
  Calls Tryz.prog 97 #[pS t, .int .i64 (i : Int)] w (SZ W t E m n (del i S) (fput g i 0) L' (.tuple #[.bool (decide ((i : Int) ∈ ids S) || b), .int .i64 0]) w) := by
 have HA := Lib.hid h
 have hk2 : (x.kd == 0) = false := by simpa using hk
 have HX := Lib.hid hx
 clear h hk hx
 go_enter Tryz.func97, Tryz.ntmps97
 go_wp2_with fail
 refine (kind_any _ HA.out).mono ?_
 rintro e w1 hz
 rw [eA_at HX.out] at hz
 have HZ := Lib.hid hz
 obtain rfl := hz.1
 clear hz
 go_wp2_with fail
 refine (stopS HZ.out.2.1 HX.out hd hE hl).mono ?_
 rintro e w2 hz
 have HY := Lib.hid (SZ.after HZ.out.2.2 hz)
 obtain rfl := hz.1
 clear hz HZ hd
 generalize (decide ((i : Int) ∈ ids S) || b) = d at *
 go_wp2_with fail
 go_ret2
 exact HY.out.but
theorem stop_none {k : Int} (h : SS W t E m n S g L w) (hk : k < 0 ∨ (E.length : Int) ≤ k) : Calls Tryz.prog 97 #[pS t, .int .i64 k] w (SZ W t E m n S g L (.tuple #[.bool false, .int .i64 4]) w) := by
 have HA := Lib.hid h
 clear h
 go_enter Tryz.func97, Tryz.ntmps97
 go_wp2_with fail
 refine (kind_any _ HA.out).mono ?_
 rintro e w1 hz
 rw [eA_no hk] at hz
 have HZ := Lib.hid hz
 obtain rfl := hz.1
 clear hz
 simp only [zO]
 go_wp2_with fail
 go_ret2
 exact HZ.out.but
end
end Go.Proofs.YtdpapnfjpefhkaaGreat
namespace Go.Proofs.YtdpapnfjpefhkaaGreat
open Go.RowKit Ch
set_option linter.unusedVariables false
set_option maxRecDepth 100000
section
variable {W w w' w'' : World} {t m n n' i j c : Nat} {E E' : List On} {S S' : List It} {g g' : Int → Int} {L L' : List (Nat × CS)} {v : Value} {e : Ending} {x : On} {s s' : CS} {ws : List Wk} {kept : Bool} {now : Int}
structure Pt (L : List (Nat × CS)) (x : On) (now : Int) (L' : List (Nat × CS)) (ws : List Wk) (kept : Bool) : Prop where
 h : x.ch = none ∧ L' = L ∧ ws = [] ∧ kept = false
theorem Pt.none (hc : x.ch = none) : Pt L x now L [] false := ⟨⟨hc, rfl, rfl, rfl⟩⟩
theorem put_at (h : SS W t E m n S g L w) (hp : Pt L x now L' ws kept) : Calls Tryz.prog 66 #[.pointer (cp x.ch), .int .i64 now] w fun e w' =>
  ∃ A k, e = .returned (.tuple #[.slice A ws.length k, .bool kept]) ∧ RdK w' A ws.length ws ∧ SS W t E m n S g L' w' ∧ Kp w w' ∧ OZ w w' := by
 obtain ⟨hc, rfl, rfl, rfl⟩ := hp.h
 rw [hc]
 refine (put_nil now w).mono ?_
 rintro e w' ⟨rfl, rfl⟩
 exact ⟨none, 0, rfl, RdK.nil _ _, h, Kp.refl _, OZ.refl _⟩
abbrev vF (id kd wh at_ dt : Int) (A : Option Addr) (n k : Nat) (b : Bool) : Value := .agg #[.int .i64 id, .int .i64 kd, .int .i64 wh, .int .i64 at_, .int .i64 dt, .slice A n k, .bool b]
abbrev fZ : Obj := .cells #[.int .i64 0, .int .i64 0, .int .i64 0, .int .i64 0, .int .i64 0, .slice none 0 0, .bool false] 88
theorem fz_cells {b : Nat} {u0 u1 u2 u3 u4 u5 u6 : Value} (h : w.heap[b]? = some (.cells #[u0, u1, u2, u3, u4, u5, u6] 88 (0, 0))) :
  (w.cell? ⟨b, 0, none⟩ = some u0 ∧ w.cell? ⟨b, 1, none⟩ = some u1 ∧ w.cell? ⟨b, 2, none⟩ = some u2 ∧ w.cell? ⟨b, 3, none⟩ = some u3 ∧ w.cell? ⟨b, 4, none⟩ = some u4 ∧ w.cell? ⟨b, 5, none⟩ = some u5 ∧ w.cell? ⟨b, 6, none⟩ = some u6) ∧ ∀ k, w.frozen? ⟨b, k, none⟩ = false := by
 refine ⟨⟨?_, ?_, ?_, ?_, ?_, ?_, ?_⟩, fun k => frozen_of_row w b k _ _ h⟩
 · rw [cell_of_row w b 0 _ _ _ h]; rfl
 · rw [cell_of_row w b 1 _ _ _ h]; rfl
 · rw [cell_of_row w b 2 _ _ _ h]; rfl
 · rw [cell_of_row w b 3 _ _ _ h]; rfl
 · rw [cell_of_row w b 4 _ _ _ h]; rfl
 · rw [cell_of_row w b 5 _ _ _ h]; rfl
 · rw [cell_of_row w b 6 _ _ _ h]; rfl
def w7 (w : World) (b : Nat) (u0 u1 u2 u3 u4 u5 u6 : Value) : World := ((((((w.setCell ⟨b, 0, none⟩ u0).setCell ⟨b, 1, none⟩ u1).setCell ⟨b, 2, none⟩ u2).setCell ⟨b, 3, none⟩ u3).setCell ⟨b, 4, none⟩ u4).setCell ⟨b, 5, none⟩ u5).setCell ⟨b, 6, none⟩ u6
theorem w7_other {w0 : World} {b : Nat} {u0 u1 u2 u3 u4 u5 u6 y0 y1 y2 y3 y4 y5 y6 : Value} (h : SS W t E m n S g L w) (hb : w.heap[b]? = some (.cells #[y0, y1, y2, y3, y4, y5, y6] 88 (0, 0))) (hW : W.heap.size ≤ b) (hz : OZ w0 w) (h0 : w0.heap.size ≤ b) :
  SS W t E m n S g L (w7 w b u0 u1 u2 u3 u4 u5 u6) ∧ OZ w0 (w7 w b u0 u1 u2 u3 u4 u5 u6) ∧ ∀ k, k ≠ b → (w7 w b u0 u1 u2 u3 u4 u5 u6).heap[k]? = w.heap[k]? := by
 have e1 := heap_setCell_same w b 0 _ _ u0 hb
 have e2 := heap_setCell_same _ b 1 _ _ u1 e1
 have e3 := heap_setCell_same _ b 2 _ _ u2 e2
 have e4 := heap_setCell_same _ b 3 _ _ u3 e3
 have e5 := heap_setCell_same _ b 4 _ _ u4 e4
 have e6 := heap_setCell_same _ b 5 _ _ u5 e5
 have o : OthZ 88 := by decide
 refine ⟨((((((h.cellO hb o (by decide) hW 0 u0).cellO e1 o (by decide) hW 1 u1).cellO e2 o (by decide) hW 2 u2).cellO e3 o (by decide) hW 3 u3).cellO e4 o (by decide) hW 4 u4).cellO e5 o (by decide) hW 5 u5).cellO e6 o (by decide) hW 6 u6, ((((((hz.cell h0 0 u0).cell h0 1 u1).cell h0 2 u2).cell h0 3 u3).cell h0 4 u4).cell h0 5 u5).cell h0 6 u6, fun k hk => ?_⟩
 unfold w7
 repeat (refine (Below.heap_setCell _ _ _ _ (by exact hk)).trans ?_)
 rfl
set_option maxHeartbeats 8000000 in
theorem fire_no (h : SS W t E m n S g L w) (hT : tk now n S g = (none, n, S, g)) (hn : n ≤ 1000000) (hl : S.length ≤ 1000) :
  Calls Tryz.prog 30 #[pS t, .int .i64 now] w (SZ W t E m n S g L (.tuple #[vF 0 0 0 0 0 none 0 0 false, .bool false]) w) := by
 have hsz := h.bel.size
 have HA := Lib.hid (h.box fZ)
 have FB := Lib.hid (heap_alloc_new w fZ)
 clear h
 go_enter Tryz.func30, Tryz.ntmps30
 go_wp2_with fail
 refine (ss_ttake now HA.out hn hl).mono ?_
 rintro e w1 hz
 rw [hT] at hz
 have HZ := Lib.hid hz
 obtain rfl := hz.1
 clear hz HA
 have FB1 := Lib.hid (HZ.out.2.2.2 _ _ _ _ FB.out (by decide))
 have H2 := Lib.hid (HZ.out.2.1.box (.cells #[.int .i64 0, .int .i64 0, .int .i64 0] 167))
 have FB2 := Lib.hid (((below_al w1 (.cells #[.int .i64 0, .int .i64 0, .int .i64 0] 167)).block _ (lt_of_blk FB1.out)).trans FB1.out)
 have HO : Hid (OZ w (w1.alloc (.cells #[.int .i64 0, .int .i64 0, .int .i64 0] 167))) := ((OZ.of_below (below_al w fZ)).trans HZ.out.2.2).trans (OZ.of_below (below_al _ _))
 clear HZ FB FB1
 simp only [tkV]
 go_upto_region 4 with (fail)
 generalize w1.alloc (.cells #[.int .i64 0, .int .i64 0, .int .i64 0] 167) = w2 at *
 obtain ⟨⟨q0, q1, q2, q3, q4, q5, q6⟩, qf⟩ := fz_cells FB2.out
 have f0 := qf 0
 have f1 := qf 1
 have f2 := qf 2
 have f3 := qf 3
 have f4 := qf 4
 have f5 := qf 5
 have f6 := qf 6
 clear qf
 have HX := Lib.hid (w7_other (u0 := .int .i64 0) (u1 := .int .i64 0) (u2 := .int .i64 0) (u3 := .int .i64 0) (u4 := .int .i64 0) (u5 := .slice none 0 0) (u6 := .bool false) H2.out FB2.out hsz HO.out (Nat.le_refl _))
 unfold w7 at HX
 go_wp2_with fail
 refine bodyPost_ret (v := .tuple #[vF 0 0 0 0 0 none 0 0 false, .bool false]) ?_ rfl ⟨rfl, HX.out.1, HX.out.2.1⟩
 rw [results_cell_tmp rfl]
 go_simp
set_option maxHeartbeats 8000000 in
theorem fire_some {yw ys : Int} (h : SS W t E m n S g L w) (hT : tk now n S g = (some ⟨(i : Int), yw, ys⟩, n', S', g')) (hx : E[i]? = some x) (hp : Pt L x now L' ws kept) (hE : E.length ≤ 100000) (hn : n ≤ 1000000) (hl : S.length ≤ 1000) :
  Calls Tryz.prog 30 #[pS t, .int .i64 now] w fun e w' => ∃ A k, e = .returned (.tuple #[vF i x.kd yw now x.dt A ws.length k kept, .bool true]) ∧ RdK w' A ws.length ws ∧ SS W t E m n' S' g' L' w' ∧ OZ w w' := by
 have hlt := (List.getElem?_eq_some_iff.1 hx).1
 have b1 : (0 : Int) ≤ (i : Int) := by omega
 have b2 : (i : Int) < (E.length : Int) := by omega
 have hsz := h.bel.size
 have HX := Lib.hid hx
 have HP := Lib.hid hp
 have HA := Lib.hid (h.box fZ)
 have FB := Lib.hid (heap_alloc_new w fZ)
 clear h hx hp hlt hE
 go_enter Tryz.func30, Tryz.ntmps30
 go_wp2_with fail
 refine (ss_ttake now HA.out hn hl).mono ?_
 rintro e w1 hz
 rw [hT] at hz
 have HZ := Lib.hid hz
 obtain rfl := hz.1
 clear hz HA hT
 have FB1 := Lib.hid (HZ.out.2.2.2 _ _ _ _ FB.out (by decide))
 have H2 := Lib.hid (HZ.out.2.1.box (.cells #[.int .i64 i, .int .i64 yw, .int .i64 now] 167))
 have FB2 := Lib.hid (((below_al w1 (.cells #[.int .i64 i, .int .i64 yw, .int .i64 now] 167)).block _ (lt_of_blk FB1.out)).trans FB1.out)
 have HO : Hid (OZ w (w1.alloc (.cells #[.int .i64 i, .int .i64 yw, .int .i64 now] 167))) := ((OZ.of_below (below_al w fZ)).trans HZ.out.2.2).trans (OZ.of_below (below_al _ _))
 have D2 := Lib.hid (Dbk.new w1 i yw now)
 have hne : w.heap.size < w1.heap.size := lt_of_blk FB1.out
 clear HZ FB FB1
 simp only [tkV]
 go_upto_region 6 with (fail)
 have hs2 : w1.heap.size < (w1.alloc (.cells #[.int .i64 i, .int .i64 yw, .int .i64 now] 167)).heap.size := by rw [World.size_alloc]; omega
 generalize w1.alloc (.cells #[.int .i64 i, .int .i64 yw, .int .i64 now] 167) = w2 at *
 generalize w1.heap.size = s2 at *
 obtain ⟨d0, d1, d2, -⟩ := D2.out.cells
 obtain ⟨P, cc, c0, -, -, -, hr⟩ := H2.out.cells
 obtain ⟨q, rfl, hq, ⟨x0, x1, x2, x3⟩, -, -⟩ := hr i x HX.out
 have ht2 := H2.out.lt
 clear hr
 go_region
 go_upto_region 7 with (fail)
 have hb3 : Below w2.heap.size w2 (w2.alloc (.cells #[.int .i64 x.kd, .int .i64 x.dt, .pointer (cp x.ch), .int .i64 x.gn] 171)).drew := (below_al w2 _).drew
 have XB : Hid ((w2.alloc (.cells #[.int .i64 x.kd, .int .i64 x.dt, .pointer (cp x.ch), .int .i64 x.gn] 171)).drew.heap[w2.heap.size]? = some (.cells #[.int .i64 x.kd, .int .i64 x.dt, .pointer (cp x.ch), .int .i64 x.gn] 171 (0, 0))) := heap_alloc_new w2 _
 have hs3 : s2 < w2.heap.size := hs2
 clear c0 hq x0 x1 x2 x3 d0 d1 d2 ht2 hs2
 have H3 := Lib.hid (H2.out.later hb3)
 have FB3 := Lib.hid ((hb3.block _ (lt_of_blk FB2.out)).trans FB2.out)
 have D3 := Lib.hid (D2.out.later hb3)
 have HO3 : Hid (OZ w _) := HO.out.trans (OZ.of_below hb3)
 clear H2 FB2 D2 HO hb3
 generalize (w2.alloc (.cells #[.int .i64 x.kd, .int .i64 x.dt, .pointer (cp x.ch), .int .i64 x.gn] 171)).drew = w3 at *
 generalize w2.heap.size = s3 at *
 have z2 : w3.cell? ⟨s3, 2, none⟩ = some (.pointer (cp x.ch)) := by rw [cell_of_row w3 s3 2 _ _ _ XB.out]; rfl
 go_wp2_with fail
 refine (put_at H3.out HP.out).mono ?_
 rintro e w4 ⟨A, k, rfl, hr, hs, hk, ho⟩
 have HS := Lib.hid hs
 have HR := Lib.hid hr
 have HO4 : Hid (OZ w w4) := HO3.out.trans ho
 have FB4 := Lib.hid (hk.at FB3.out (by decide))
 have D4 : Hid (Dbk w4 s2 i yw now) := hk.at D3.out (by decide)
 have XB4 := Lib.hid (hk.at XB.out (by decide))
 clear hs hr hk ho z2 H3 FB3 D3 HO3 XB HP HX
 obtain ⟨⟨q0, q1, q2, q3, q4, q5, q6⟩, qf⟩ := fz_cells FB4.out
 have f0 := qf 0
 have f1 := qf 1
 have f2 := qf 2
 have f3 := qf 3
 have f4 := qf 4
 have f5 := qf 5
 have f6 := qf 6
 clear qf
 obtain ⟨d0, d1, d2, -⟩ := D4.out.cells
 have z0 : w4.cell? ⟨s3, 0, none⟩ = some (.int .i64 x.kd) := by rw [cell_of_row w4 s3 0 _ _ _ XB4.out]; rfl
 have z1 : w4.cell? ⟨s3, 1, none⟩ = some (.int .i64 x.dt) := by rw [cell_of_row w4 s3 1 _ _ _ XB4.out]; rfl
 have HX := Lib.hid (w7_other (u0 := .int .i64 i) (u1 := .int .i64 x.kd) (u2 := .int .i64 yw) (u3 := .int .i64 now) (u4 := .int .i64 x.dt) (u5 := .slice A ws.length k) (u6 := .bool kept) HS.out FB4.out hsz HO4.out (Nat.le_refl _))
 have HR2 := Lib.hid (HR.out.keep (w' := w7 w4 w.heap.size (.int .i64 i) (.int .i64 x.kd) (.int .i64 yw) (.int .i64 now) (.int .i64 x.dt) (.slice A ws.length k) (.bool kept)) fun b cs e => HX.out.2.2 b (by
  rintro rfl
  have e2 := FB4.out
  rw [e] at e2; injection e2 with e2; injection e2 with _ e2 _; exact absurd e2 (by decide)))
 unfold w7 at HX HR2
 clear HR HS
 go_wp2_with fail
 refine bodyPost_ret (v := .tuple #[vF i x.kd yw now x.dt A ws.length k kept, .bool true]) ?_ rfl ⟨A, k, rfl, HR2.out, HX.out.1, HX.out.2.1⟩
 rw [results_cell_tmp rfl]
 go_simp
end
end Go.Proofs.YtdpapnfjpefhkaaGreat
