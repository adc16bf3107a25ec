/- A set of timers in memory; what carries it. No condition. -/
import Derived.Test.YtmadcnpkaijllaaZer
import Derived.Test.YtmadcnpkaijllaaCMul
namespace Go.Proofs.Ytmadcnpkaijllaa
open Go.RowKit Ch
set_option linter.unusedVariables false
set_option maxRecDepth 100000

/-- Another block, by its tag. -/
def OthZ (ty : TypeId) : Prop := ty ≠ 120 ∧ ty ≠ 106 ∧ ty ≠ 73 ∧ ty ≠ 80 ∧ ty ≠ 89 ∧ ty ≠ 111 ∧ ty ≠ 3 ∧ ty ≠ 115
instance (ty : TypeId) : Decidable (OthZ ty) := inferInstanceAs (Decidable (_ ∧ _))
/-- No other block has turned. -/
def OZ (w w' : World) : Prop := ∀ (k : Nat) (cs : Array Value) (ty : TypeId) (fr : Nat × Nat), w.heap[k]? = some (.cells cs ty fr) → OthZ ty → w'.heap[k]? = some (.cells cs ty fr)
theorem OZ.refl (w : World) : OZ w w := fun _ _ _ _ h _ => h
theorem OZ.trans {u v w : World} (h : OZ u v) (k : OZ v w) : OZ u w := fun i cs ty fr h1 h2 => k i cs ty fr (h i cs ty fr h1 h2) h2
theorem OZ.of_below {w w' : World} (h : Below w.heap.size w w') : OZ w w' := fun k cs ty fr h1 _ => (h.block k (lt_of_blk h1)).trans h1
theorem OY.oz {w w' : World} (h : OY w w') : OZ w w' := fun k cs ty fr h1 h2 => h k cs ty fr h1 h2.1 h2.2.1 h2.2.2.1
theorem Ch.Kp.oz {w w' : World} (h : Kp w w') : OZ w w' := fun k cs ty fr h1 h2 => h.at h1 ⟨h2.2.2.2.2.1, h2.2.2.2.2.2.1, h2.2.2.2.2.2.2.1, h2.2.2.2.2.2.2.2⟩
/-- The timers' own blocks, by what they are. -/
def IsT (w : World) (j : Nat) : Prop := (∃ cs ty fr, w.heap[j]? = some (.cells cs ty fr) ∧ (ty = 120 ∨ ty = 106 ∨ ty = 73)) ∨ ∃ es cl, w.heap[j]? = some (.map es cl)
section
variable {W w w' : World} {B t n : Nat} {vA vL : Value} {S : List It} {g : Int → Int} {L : List (Nat × CS)}
theorem TU.keep (h : TU B t vA vL n S g w) (k : ∀ j, j < w.heap.size → IsT w j → w'.heap[j]? = w.heap[j]?) : TU B t vA vL n S g w' := by
  rcases h with ⟨h, r⟩ | ⟨o, b, c, p, N, hN, h⟩
  · exact .inl ⟨⟨h.1, (k t (lt_of_blk h.2) (.inl ⟨_, _, _, h.2, by simp⟩)).trans h.2⟩, r⟩
  · refine .inr ⟨o, b, c, p, N, hN, ?_⟩
    refine ⟨h.hg.keep (k o h.hg.lo ?_) (k b h.hg.lb (.inr h.hg.tb)) (fun j hj => k j (h.hg.lp hj).2 ?_), (k t h.lt (.inl ⟨_, _, _, h.ht, by simp⟩)).trans h.ht, h.pm.keep (k c h.pm.lt (.inr h.pm.blk)), h.ok, h.gt, h.gc, h.ne⟩
    · obtain ⟨cs, fr, e⟩ := h.hg.to
      exact .inl ⟨_, _, _, e, by simp⟩
    · obtain ⟨cs, fr, e⟩ := h.hg.tp hj
      exact .inl ⟨_, _, _, e, by simp⟩
theorem not_ist_c {j : Nat} (h : IsT w j) : ¬ IsC w j := by
  rcases h with ⟨cs, ty, fr, h1, h2⟩ | ⟨es, cl, h1⟩
  · refine not_isc h1 ?_
    rcases h2 with rfl | rfl | rfl <;> decide
  · rintro ⟨cs, ty, h3, _⟩
    rw [h1] at h3; cases h3
theorem TU.kp (h : TU B t vA vL n S g w) (k : Kp w w') : TU B t vA vL n S g w' := h.keep fun j hj hi => k.2 j hj (not_ist_c hi)
/-- Nothing but rows of one tag has turned. -/
def Ex (ty : TypeId) (w w' : World) : Prop := w.heap.size ≤ w'.heap.size ∧ ∀ j, j < w.heap.size → (∀ cs fr, w.heap[j]? ≠ some (.cells cs ty fr)) → w'.heap[j]? = w.heap[j]?
theorem TU.ex (h : TU B t vA vL n S g w) (k : Ex 80 w w') : TU B t vA vL n S g w' := h.keep fun j hj hi => k.2 j hj fun cs fr e => by
  rcases hi with ⟨cs', ty, fr', h1, h2⟩ | ⟨es, cl, h1⟩
  · rw [e] at h1; injection h1 with h1; injection h1 with _ h1 _; subst h1
    rcases h2 with h2 | h2 | h2 <;> exact absurd h2 (by decide)
  · rw [e] at h1; cases h1
theorem Ch.MS.ex {ty : TypeId} (h : MS W L w) (k : Ex ty w w') (hb : Below W.heap.size W w') (ht : ty ≠ 89 ∧ ty ≠ 111 ∧ ty ≠ 3 ∧ ty ≠ 115) : MS W L w' := by
  obtain ⟨h0, F, h1, h2, h3⟩ := h
  refine ⟨hb, F, fun i c s hi => ?_, h2, h3⟩
  have hc := h1 i c s hi
  exact hc.keep fun b hf => k.2 b (hc.lt hf) fun cs fr e => not_isc e ht (hc.tag hf)
theorem Ch.MS.oy (h : MS W L w) (k : OY w w') (hb : Below W.heap.size W w') : MS W L w' := by
  obtain ⟨h0, F, h1, h2, h3⟩ := h
  refine ⟨hb, F, fun i c s hi => ?_, h2, h3⟩
  have hc := h1 i c s hi
  refine hc.keep fun b hf => ?_
  obtain ⟨cs, ty, e1, e2⟩ := hc.tag hf
  rw [e1]
  refine k b cs ty _ e1 ?_ ?_ ?_ <;> (rcases e2 with rfl | rfl | rfl | rfl <;> decide)
theorem OY.row {B e s n c : Nat} {P : Option Addr} {xs : List Value} (h : OY w w') (r : w.ownsRow B e s (.slice P n c) n xs) (h1 : e ≠ 120) (h2 : e ≠ 106) (h3 : e ≠ 73) : w'.ownsRow B e s (.slice P n c) n xs :=
  row_keep r fun k hk => by
    obtain ⟨cs, fr, ht⟩ := row_tag r hk
    rw [ht]; exact h k cs e fr ht h1 h2 h3
theorem Ch.Kp.rowz {B e s n c : Nat} {P : Option Addr} {xs : List Value} (h : Kp w w') (r : w.ownsRow B e s (.slice P n c) n xs) (he : e ≠ 89 ∧ e ≠ 111 ∧ e ≠ 3 ∧ e ≠ 115) : w'.ownsRow B e s (.slice P n c) n xs :=
  row_keep r fun k hk => by
    obtain ⟨cs, fr, ht⟩ := row_tag r hk
    rw [ht]; exact h.at ht he
/-- The slice of all, and how many are limited, are others. -/
theorem TU.setA (h : TU B t vA vL n S g w) (u : Value) : TU B t u vL n S g (w.setCell ⟨t, 0, none⟩ u) := by
  have key : ∀ k, k ≠ t → (w.setCell ⟨t, 0, none⟩ u).heap[k]? = w.heap[k]? := fun k hk => Below.heap_setCell _ _ _ _ (by exact hk)
  rcases h with ⟨h, r⟩ | ⟨o, b, c, p, N, hN, h⟩
  · exact .inl ⟨⟨h.1, heap_setCell_same w t 0 _ _ u h.2⟩, r⟩
  · obtain ⟨⟨a1, a2, a3⟩, a4, a5, a6⟩ := h.apart
    exact .inr ⟨o, b, c, p, N, hN, ⟨h.hg.keep (key o a1.symm) (key b a2.symm) (fun k hk => key k fun e => a3 (by rw [← e]; exact hk)), heap_setCell_same w t 0 _ _ u h.ht, h.pm.keep (key c a6.symm), h.ok, h.gt, h.gc, h.ne⟩⟩
theorem TU.setL (h : TU B t vA vL n S g w) (u : Value) : TU B t vA u n S g (w.setCell ⟨t, 3, none⟩ u) := by
  have key : ∀ k, k ≠ t → (w.setCell ⟨t, 3, none⟩ u).heap[k]? = w.heap[k]? := fun k hk => Below.heap_setCell _ _ _ _ (by exact hk)
  rcases h with ⟨h, r⟩ | ⟨o, b, c, p, N, hN, h⟩
  · exact .inl ⟨⟨h.1, heap_setCell_same w t 3 _ _ u h.2⟩, r⟩
  · obtain ⟨⟨a1, a2, a3⟩, a4, a5, a6⟩ := h.apart
    exact .inr ⟨o, b, c, p, N, hN, ⟨h.hg.keep (key o a1.symm) (key b a2.symm) (fun k hk => key k fun e => a3 (by rw [← e]; exact hk)), heap_setCell_same w t 3 _ _ u h.ht, h.pm.keep (key c a6.symm), h.ok, h.gt, h.gc, h.ne⟩⟩
end

/-- One that was made: its kind, its data, its channel's block, how often it was armed. -/
structure On where
  kd : Int
  dt : Int
  ch : Option Nat
  gn : Int
abbrev cp (c : Option Nat) : Option Addr := c.map fun k => ⟨k, 0, none⟩
def oE (x : On) : List Value := [.int .i64 x.kd, .int .i64 x.dt, .pointer (cp x.ch), .int .i64 x.gn]
theorem oE_len (x : On) : (oE x).length = 4 := rfl
def oV (l : List On) : List Value := l.flatMap oE
theorem oV_len (l : List On) : (oV l).length = l.length * 4 := flat_len oE 4 oE_len l
theorem oV_at {l : List On} {i : Nat} {x : On} (h : l[i]? = some x) (j : Nat) (hj : j < 4) : (oV l)[i * 4 + j]? = (oE x)[j]? := flat_at oE 4 oE_len l i x h j hj
theorem oV_snoc (l : List On) (x : On) : oV l ++ oE x = oV (l ++ [x]) := by simp [oV]
theorem oE_one (x : On) : ∀ u ∈ oE x, u.oneCell' = true := by intro u hu; simp [oE] at hu; rcases hu with rfl | rfl | rfl | rfl <;> rfl
theorem oV_set {l : List On} {i : Nat} {x : On} (h : l[i]? = some x) (y : Int) : (oV l).set (i * 4 + 3) (.int .i64 y) = oV (l.set i { x with gn := y }) := by
  have hi := (List.getElem?_eq_some_iff.1 h).1
  apply List.ext_getElem?
  intro j
  by_cases hj : j < l.length * 4
  · have e1 : j / 4 < l.length := by omega
    have e2 : j = j / 4 * 4 + j % 4 := by omega
    have e3 : j % 4 < 4 := by omega
    generalize j / 4 = q at *
    generalize j % 4 = r at *
    subst e2
    have hq : l[q]? = some l[q] := List.getElem?_eq_getElem e1
    by_cases e : q = i
    · subst e
      rw [h] at hq
      injection hq with hq
      have hy : (l.set q { x with gn := y })[q]? = some { x with gn := y } := by simp [hi]
      rw [oV_at hy r e3]
      by_cases e4 : r = 3
      · subst e4
        rw [List.getElem?_set_self (by rw [oV_len]; omega)]
        rfl
      · rw [List.getElem?_set_ne (by omega), oV_at h r e3]
        have : r = 0 ∨ r = 1 ∨ r = 2 := by omega
        rcases this with rfl | rfl | rfl <;> rfl
    · have hy : (l.set i { x with gn := y })[q]? = some l[q] := by rw [List.getElem?_set_ne (fun e9 => e e9.symm)]; exact hq
      rw [oV_at hy r e3, List.getElem?_set_ne (by omega), oV_at hq r e3]
  · rw [List.getElem?_eq_none (by rw [List.length_set, oV_len]; omega), List.getElem?_eq_none (by rw [oV_len, List.length_set]; omega)]

/-- Block t is a set: E were made, m of them limited; armed are S, by n armings so far, with periods g; the channels are L. -/
structure SS (W : World) (t : Nat) (E : List On) (m n : Nat) (S : List It) (g : Int → Int) (L : List (Nat × CS)) (w : World) : Prop where
  ms : MS W L w
  tu : ∃ P c, TU W.heap.size t (.slice P E.length c) (.int .i64 m) n S g w ∧ w.ownsRow W.heap.size 80 4 (.slice P E.length c) E.length (oV E)
def SZ (W : World) (t : Nat) (E : List On) (m n : Nat) (S : List It) (g : Int → Int) (L : List (Nat × CS)) (v : Value) (w : World) (e : Ending) (w' : World) : Prop :=
  e = .returned v ∧ SS W t E m n S g L w' ∧ OZ w w'
section
variable {W w w' w'' : World} {t m n n' i j c : Nat} {E E' : List On} {S S' : List It} {g g' : Int → Int} {L L' : List (Nat × CS)} {v : Value} {e : Ending} {x : On} {s s' : CS}
theorem SS.bel (h : SS W t E m n S g L w) : Below W.heap.size W w := h.ms.bel
theorem SS.ok (h : SS W t E m n S g L w) : Ok n S := by obtain ⟨P, c, h1, h2⟩ := h.tu; exact h1.ok
theorem SS.wf (h : SS W t E m n S g L w) {x : It} (hx : x ∈ S) : Wf x.id := by obtain ⟨P, c, h1, h2⟩ := h.tu; exact h1.wf hx
theorem SS.later (h : SS W t E m n S g L w) (hb : Below w.heap.size w w') : SS W t E m n S g L w' := by
  obtain ⟨h0, P, c, h1, h2⟩ := h
  exact ⟨h0.later hb, P, c, h1.later hb, row_later h2 hb⟩
theorem SS.box (h : SS W t E m n S g L w) (u : Obj) : SS W t E m n S g L (w.alloc u) := h.later (below_al w u)
theorem SS.drewN (h : SS W t E m n S g L w) (q : Nat) : SS W t E m n S g L (w.drewN q) := h.later (below_drewN w q)
theorem SS.sz (h : SS W t E m n S g L w) (hr : e = .returned v ∧ Below w.heap.size w w') : SZ W t E m n S g L v w e w' := ⟨hr.1, h.later hr.2, OZ.of_below hr.2⟩
theorem SS.same (h : SS W t E m n S g L w) (hr : e = .returned v ∧ w = w') : SZ W t E m n S g L v w e w' := by obtain ⟨rfl, rfl⟩ := hr; exact ⟨rfl, h, OZ.refl _⟩
theorem SZ.from (hb : Below w.heap.size w w') (h : SZ W t E m n S g L v w' e w'') : SZ W t E m n S g L v w e w'' := ⟨h.1, h.2.1, (OZ.of_below hb).trans h.2.2⟩
theorem SZ.but {u : Value} (h : SZ W t E m n S g L v w e w') : SZ W t E m n S g L u w (.returned u) w' := ⟨rfl, h.2⟩
theorem SZ.after (h : OZ w w') (k : SZ W t E m n S g L v w' e w'') : SZ W t E m n S g L v w e w'' := ⟨k.1, k.2.1, h.trans k.2.2⟩
theorem SZ.then (k : SZ W t E m n S g L v w e w') (hb : Below w'.heap.size w' w'') : SZ W t E m n S g L v w e w'' := ⟨k.1, k.2.1.later hb, k.2.2.trans (OZ.of_below hb)⟩
theorem SS.lt (h : SS W t E m n S g L w) : t < w.heap.size := by
  obtain ⟨h0, P, c, h1, h2⟩ := h
  obtain ⟨hB, u, v, hb⟩ := h1.blk
  exact lt_of_blk hb
/-- Its own cells. -/
theorem SS.cells (h : SS W t E m n S g L w) : ∃ P c, w.cell? ⟨t, 0, none⟩ = some (.slice P E.length c) ∧ w.cell? ⟨t, 3, none⟩ = some (.int .i64 m) ∧ w.frozen? ⟨t, 0, none⟩ = false ∧ w.frozen? ⟨t, 3, none⟩ = false ∧
    ∀ i x, E[i]? = some x → ∃ q, P = some ⟨q, 0, none⟩ ∧ q < w.heap.size ∧ (w.cell? ⟨q, i * 4, none⟩ = some (.int .i64 x.kd) ∧ w.cell? ⟨q, i * 4 + 1, none⟩ = some (.int .i64 x.dt) ∧ w.cell? ⟨q, i * 4 + 2, none⟩ = some (.pointer (cp x.ch)) ∧ w.cell? ⟨q, i * 4 + 3, none⟩ = some (.int .i64 x.gn)) ∧ (∀ k, w.frozen? ⟨q, k, none⟩ = false) ∧
      ∀ y, SS W t (E.set i { x with gn := y }) m n S g L (w.setCell ⟨q, i * 4 + 3, none⟩ (.int .i64 y)) ∧ OZ w (w.setCell ⟨q, i * 4 + 3, none⟩ (.int .i64 y)) := by
  obtain ⟨h0, P, c, h1, h2⟩ := h
  obtain ⟨hB, u, v, hb⟩ := h1.blk
  refine ⟨P, c, by rw [cell_of_row w t 0 _ _ _ hb]; rfl, by rw [cell_of_row w t 3 _ _ _ hb]; rfl, frozen_of_row w t 0 _ _ hb, frozen_of_row w t 3 _ _ hb, fun i x hx => ?_⟩
  have hi := (List.getElem?_eq_some_iff.1 hx).1
  obtain ⟨q, hP, hle⟩ := row_form h2 (by omega)
  subst hP
  have hc : ∀ j, j < 4 → w.cell? ⟨q, i * 4 + j, none⟩ = (oE x)[j]? := fun j hj => by
    rw [h2.cellAt (i * 4 + j) (by omega)]
    exact oV_at hx j hj
  refine ⟨q, rfl, (row_lt h2 rfl).2, ⟨hc 0 (by omega), hc 1 (by omega), hc 2 (by omega), hc 3 (by omega)⟩, fun k => h2.frozenAt k, fun y => ?_⟩
  obtain ⟨cs, fr, hq⟩ := row_tag h2 rfl
  have hqB := (row_lt h2 rfl).1
  have ex : Ex 80 w (w.setCell ⟨q, i * 4 + 3, none⟩ (.int .i64 y)) := ⟨by simp [World.setCell], fun j hj hn => Below.heap_setCell _ _ _ _ (show j ≠ q by rintro rfl; exact hn _ _ hq)⟩
  have r := (h2.stored (i * 4 + 3) (.int .i64 y)).1
  rw [oV_set hx] at r
  refine ⟨⟨h0.ex ex (h0.bel.setCell (show W.heap.size ≤ (⟨q, i * 4 + 3, none⟩ : Addr).block from hqB) _) (by decide), some ⟨q, 0, none⟩, c, ?_, ?_⟩, fun k cs' ty fr' e1 e2 => ?_⟩
  · rw [List.length_set]; exact h1.ex ex
  · rw [List.length_set]; exact r
  · rw [ex.2 k (lt_of_blk e1) fun cs9 fr9 e9 => ?_]
    · exact e1
    · rw [e1] at e9; injection e9 with e9; injection e9 with _ e9 _; exact e2.2.2.2.1 e9
/-- One more: what an append and the store behind it leave. -/
theorem SS.added {wy w1 : World} {gB cap cc : Nat} {P : Option Addr} (h : SS W t E m n S g L w) (hc0 : w.cell? ⟨t, 0, none⟩ = some (.slice P E.length cc)) (hy : Below w.heap.size w wy)
    (ho : w1.ownsRow W.heap.size 80 4 (.slice (some ⟨gB, 0, none⟩) (E.length + 1) cap) (E.length + 1) (oV E ++ oE x)) (hg : wy.grownBy w1 (Value.slice P E.length cc).ownBlock) (hat : (Value.slice P E.length cc).ownBlock = some gB ∨ w.heap.size ≤ gB) :
    SS W t (E ++ [x]) m n S g L (w1.setCell ⟨t, 0, none⟩ (.slice (some ⟨gB, 0, none⟩) (E.length + 1) cap)) ∧ OZ w (w1.setCell ⟨t, 0, none⟩ (.slice (some ⟨gB, 0, none⟩) (E.length + 1) cap)) := by
  rw [own_blk] at hg hat
  obtain ⟨h0, P', c', h1, h2⟩ := h
  obtain ⟨hB, u, v, hb⟩ := h1.blk
  have e0 : w.cell? ⟨t, 0, none⟩ = some (.slice P' E.length c') := by rw [cell_of_row w t 0 _ _ _ hb]; rfl
  rw [hc0] at e0
  injection e0 with e0; injection e0 with e0 _ e1
  subst e0; subst e1
  have hs := hy.size
  have hsz : w.heap.size ≤ w1.heap.size := by have := hg.size; omega
  have ex : Ex 80 w w1 := ⟨hsz, fun j hj hn => (hg.block j (by omega) (fun e => by
    obtain ⟨cs, fr, hq⟩ := row_tag h2 e.symm
    exact hn _ _ hq)).trans (hy.block j hj)⟩
  have hW := h0.bel
  have hbel : Below W.heap.size W w1 :=
    ⟨(hg.os.trans hy.os).trans hW.os, (hg.tape.trans hy.tape).trans hW.tape, (hg.output.trans hy.output).trans hW.output, by have := hW.size; omega, fun k hk =>
      ((hg.block k (by have := hW.size; omega) (fun e => by have := (row_lt h2 e.symm).1; omega)).trans (hy.block k (by have := hW.size; omega))).trans (hW.block k hk)⟩
  have hb1 : w1.heap[t]? = some (.cells #[.slice P E.length cc, u, v, .int .i64 m] 73 (0, 0)) := (ex.2 t (lt_of_blk hb) fun cs fr e9 => by
    rw [hb] at e9; injection e9 with e9; injection e9 with _ e9 _; exact absurd e9 (by decide)).trans hb
  obtain ⟨cs, fr, hq⟩ := row_tag ho rfl
  have htg : t ≠ gB := by
    rintro rfl
    rw [hb1] at hq; injection hq with hq; injection hq with _ hq _; exact absurd hq (by decide)
  have key : ∀ k, k ≠ t → (w1.setCell ⟨t, 0, none⟩ (.slice (some ⟨gB, 0, none⟩) (E.length + 1) cap)).heap[k]? = w1.heap[k]? := fun k hk => Below.heap_setCell _ _ _ _ (by exact hk)
  have ex2 : Ex 73 w1 (w1.setCell ⟨t, 0, none⟩ (.slice (some ⟨gB, 0, none⟩) (E.length + 1) cap)) := ⟨by simp [World.setCell], fun j hj hn => key j (by rintro rfl; exact hn _ _ hb1)⟩
  have e5 : (E ++ [x]).length = E.length + 1 := by simp
  refine ⟨⟨((h0.ex ex hbel (by decide)).ex ex2 (hbel.setCell (show W.heap.size ≤ (⟨t, 0, none⟩ : Addr).block from hB) _) (by decide)), some ⟨gB, 0, none⟩, cap, ?_, ?_⟩, fun k cs' ty fr' a1 a2 => ?_⟩
  · rw [e5]; exact (h1.ex ex).setA _
  · rw [e5, ← oV_snoc]
    refine row_keep ho fun k hk => ?_
    injection hk with hk; subst hk
    exact key _ htg.symm
  · have a3 := ex.2 k (lt_of_blk a1) fun cs9 fr9 e9 => by
      rw [a1] at e9; injection e9 with e9; injection e9 with _ e9 _; exact a2.2.2.2.1 e9
    rw [key k ?_, a3]
    · exact a1
    · rintro rfl
      rw [a1] at a3; rw [hb1] at a3; injection a3 with a3; injection a3 with _ a3 _; exact a2.2.2.1 a3.symm
/-- The limited ones are others. -/
theorem SS.lim (h : SS W t E m n S g L w) (m' : Nat) : SS W t E m' n S g L (w.setCell ⟨t, 3, none⟩ (.int .i64 m')) ∧ OZ w (w.setCell ⟨t, 3, none⟩ (.int .i64 m')) := by
  obtain ⟨h0, P, c, h1, h2⟩ := h
  obtain ⟨hB, u, v, hb⟩ := h1.blk
  have key : ∀ k, k ≠ t → (w.setCell ⟨t, 3, none⟩ (.int .i64 m')).heap[k]? = w.heap[k]? := fun k hk => Below.heap_setCell _ _ _ _ (by exact hk)
  have ex2 : Ex 73 w (w.setCell ⟨t, 3, none⟩ (.int .i64 m')) := ⟨by simp [World.setCell], fun j hj hn => key j (by rintro rfl; exact hn _ _ hb)⟩
  refine ⟨⟨h0.ex ex2 (h0.bel.setCell (show W.heap.size ≤ (⟨t, 3, none⟩ : Addr).block from hB) _) (by decide), P, c, h1.setL _, row_keep h2 fun k hk => key k ?_⟩, fun k cs' ty fr' a1 a2 => (key k ?_).trans a1⟩
  · rintro rfl
    obtain ⟨cs, fr, hq⟩ := row_tag h2 hk
    rw [hb] at hq; injection hq with hq; injection hq with _ hq _; exact absurd hq (by decide)
  · rintro rfl
    rw [hb] at a1; injection a1 with a1; injection a1 with _ a1 _; exact a2.2.2.1 a1.symm
/-- A new set. -/
theorem SS.new (hb : Below W.heap.size W w) : SS W w.heap.size [] 0 0 [] (fun _ => 0) [] (w.alloc (.cells #[.slice none 0 0, .pointer none, .map none, .int .i64 0] 73)) := by
  have h1 := heap_alloc_new w (.cells #[.slice none 0 0, .pointer none, .map none, .int .i64 0] 73)
  have hb1 := hb.trans ((below_al w (.cells #[.slice none 0 0, .pointer none, .map none, .int .i64 0] 73)).mono hb.size)
  refine ⟨⟨hb1, fun _ _ => False, fun i c s h => by simp at h, fun _ _ h => h.elim, fun _ _ _ h => h.elim⟩, none, 0, .inl ⟨⟨hb.size, h1⟩, rfl, rfl, rfl⟩, World.ownsRow_nil _ _ _ _⟩
/-- What the timers do. -/
theorem SS.tim (h : SS W t E m n S g L w) {f : Nat} {args : Array Value} (hc : ∀ vA, TU W.heap.size t vA (.int .i64 m) n S g w → Calls Try.prog f args w (XU W.heap.size t vA (.int .i64 m) n' S' g' v w)) : Calls Try.prog f args w (SZ W t E m n' S' g' L v w) := by
  obtain ⟨h0, P, c, h1, h2⟩ := h
  exact (hc _ h1).mono fun e w' r => ⟨r.1, ⟨h0.oy r.2.2.2 (h0.bel.trans r.2.2.1), P, c, r.2.1, r.2.2.2.row h2 (by decide) (by decide) (by decide)⟩, r.2.2.2.oz⟩
/-- What a channel does. -/
theorem SS.chan (h : SS W t E m n S g L w) (h1 : MS W L' w') (h2 : Kp w w') : SS W t E m n S g L' w' ∧ OZ w w' := by
  obtain ⟨h0, P, c, h3, h4⟩ := h
  exact ⟨⟨h1, P, c, h3.kp h2, h2.rowz h4 (by decide)⟩, h2.oz⟩
end
end Go.Proofs.Ytmadcnpkaijllaa
