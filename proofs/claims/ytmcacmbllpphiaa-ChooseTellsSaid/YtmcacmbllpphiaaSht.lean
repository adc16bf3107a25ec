/- shut closes and wakes all who wait, each task once: Close, End. Conditions: each theorem's own premises. -/
import Derived.Test.YtmcacmbllpphiaaWai
namespace Go.Proofs.Ytmcacmbllpphiaa
open Go.RowKit
set_option linter.unusedVariables false

/-! Who is woken. -/
def one (acc : List Wk) (x : Wt) (p : Bool) : List Wk := if x.t ∈ acc.map (·.t) then acc else acc ++ [⟨x.t, x.c, 0, false, p⟩]
def shp : List Wk → List Wt → Bool → List Wk
  | acc, [], _ => acc
  | acc, x :: r, p => shp (one acc x p) r p
def tot (s : CS) : List Wk := shp (shp [] s.rs false) s.ss true
def sS (s : CS) : Bool → List Wt → CS
  | false, l => { s with cl := true, rs := l }
  | true, l => { s with cl := true, ss := l, rs := [] }
def tE (s : CS) (acc : List Wk) : Bool → List Wt → List Wk
  | false, l => shp (shp acc l false) s.ss true
  | true, l => shp acc l true
def oB (s : CS) : Bool → Nat
  | false => s.ss.length
  | true => 0
theorem sS_q (s : CS) (sd : Bool) (l : List Wt) : (sS s sd l).q sd = l := by cases sd <;> rfl
theorem sS_sq (s : CS) (sd : Bool) (l l' : List Wt) : (sS s sd l).sq sd l' = sS s sd l' := by cases sd <;> rfl
theorem tE_cons (s : CS) (acc : List Wk) (sd : Bool) (x : Wt) (r : List Wt) : tE s acc sd (x :: r) = tE s (one acc x sd) sd r := by cases sd <;> rfl
/-- What is told so far, and what is left. -/
structure PF (s : CS) (sd : Bool) (acc : List Wk) (l : List Wt) : Prop where
  e : tE s acc sd l = tot s
  b : acc.length + l.length + oB s sd ≤ s.rs.length + s.ss.length
theorem PF.skip {s : CS} {sd : Bool} {acc : List Wk} {x : Wt} {r : List Wt} (h : PF s sd acc (x :: r)) (hx : x.t ∈ acc.map (·.t)) : PF s sd acc r :=
  ⟨by have := h.e; rw [tE_cons] at this; unfold one at this; rwa [if_pos hx] at this, by have := h.b; simp at this; omega⟩
theorem PF.add {s : CS} {sd : Bool} {acc : List Wk} {x : Wt} {r : List Wt} (h : PF s sd acc (x :: r)) (hx : x.t ∉ acc.map (·.t)) : PF s sd (acc ++ [⟨x.t, x.c, 0, false, sd⟩]) r :=
  ⟨by have := h.e; rw [tE_cons] at this; unfold one at this; rwa [if_neg hx] at this, by have := h.b; simp at this ⊢; omega⟩

/-! A set of tasks. -/
abbrev kL (x : Int) : Lit := .int .i64 x
theorem law : Maps.Keyed Try.prog 3 := Maps.int_keyed Try.underlying3
theorem keyI {x : Int} (h : Wf x) : keyOf Try.prog 3 (.int .i64 x) = some (kL x) := Maps.keyOf_int_mk Try.underlying3 h
theorem kL_ne {x y : Int} (h : x ≠ y) : kL x ≠ kL y := fun e => h (by injection e)
theorem kL_key (x : Int) : WideAt.IsKeyLit (kL x) := trivial
theorem zero108 (w : World) : (zeroValue 135).run Try.prog w = .ok (.agg #[]) w := by kernel_rfl
/-- Nothing but block b has turned. -/
def Trn (w w' : World) (b : Nat) : Prop := w'.os = w.os ∧ w'.tape = w.tape ∧ w'.output = w.output ∧ w'.heap.size = w.heap.size ∧ ∀ k, k ≠ b → w'.heap[k]? = w.heap[k]?
theorem turned_block {w w' : World} {b : Nat} (h : w.mapTurned w' b) : Trn w w' b := by
  obtain ⟨es, clock, es', clock', hb, rfl⟩ := h
  exact ⟨rfl, rfl, rfl, by simp [ChangeMaps.setBlock], fun k hk => ChangeMaps.heap_setBlock_other hb _ hk⟩
def Wm (w : World) (b : Nat) (l : List Int) : Prop :=
  ∃ D : DataW Unit, w.ownsMap Try.prog 3 unitElem b l.length D ∧ Maps.size D = l.length ∧ ∀ x, Maps.has D (kL x) = decide (x ∈ l)
section
variable {w w' : World} {b : Nat} {l : List Int}
theorem own_exact {n : Nat} {D : DataW Unit} (h : w.ownsMap Try.prog 3 unitElem b n D) : w.ownsMap Try.prog 3 unitElem b (Maps.size D) D := by
  obtain ⟨es, clock, hb, F, _, rfl⟩ := h
  refine ⟨es, clock, hb, F, ?_, rfl⟩
  simp [Maps.size, length_sorted]
theorem Wm.blk (h : Wm w b l) : ∃ es clock, w.heap[b]? = some (.map es clock) := by obtain ⟨D, ⟨es, clock, h, _⟩, _⟩ := h; exact ⟨es, clock, h⟩
theorem Wm.lt (h : Wm w b l) : b < w.heap.size := by obtain ⟨es, clock, h⟩ := h.blk; exact lt_of_blk h
theorem Wm.ne (h : Wm w b l) {k : Nat} {cs : Array Value} {t : TypeId} {fr : Nat × Nat} (hk : w.heap[k]? = some (.cells cs t fr)) : k ≠ b := by
  rintro rfl; obtain ⟨es, clock, h⟩ := h.blk; rw [hk] at h; cases h
theorem Wm.keep (h : Wm w b l) (e : w'.heap[b]? = w.heap[b]?) : Wm w' b l := by
  obtain ⟨D, ⟨es, clock, h1, h2⟩, h3⟩ := h
  exact ⟨D, ⟨es, clock, by rw [e]; exact h1, h2⟩, h3⟩
theorem Wm.new (w : World) : Wm (w.alloc (.map #[] 0)) w.heap.size [] := ⟨_, World.ownsMap_made w Try.prog 3 unitElem, rfl, fun x => rfl⟩
theorem Wm.look (h : Wm w b l) {x : Int} (hx : Wf x) : (Instr.lookup 133 (.map (some b)) (.int .i64 x) true).run Try.prog w = .ok (.tuple #[.agg #[], .bool (decide (x ∈ l))]) w := by
  obtain ⟨D, h1, h2, h3⟩ := h
  obtain ⟨v, ps, hrun, hv⟩ := h1.look_ok law Try.underlying133 (zero108 w) unitElem_mk (keyI hx)
  obtain ⟨rfl, _⟩ := unitElem_inv hv
  rw [h3] at hrun
  exact hrun
theorem Wm.store (h : Wm w b l) {x : Int} (hx : Wf x) (hn : l.length < maxLen) (hm : x ∉ l) :
    ∃ w', (Instr.mapUpdate 133 (.map (some b)) (.int .i64 x) (.agg #[])).run Try.prog w = .ok () w' ∧ Trn w w' b ∧ Wm w' b (l ++ [x]) := by
  obtain ⟨D, h1, h2, h3⟩ := h
  obtain ⟨w', hrun, ho, ht⟩ := h1.store law Try.underlying133 hn (keyI hx) (unitElem_mk (H := Unit))
  have h5 := own_exact ho
  have h6 : Maps.size (D.put (kL x) (.agg [])) = (l ++ [x]).length := by
    rw [Maps.size_put (h1.tidy law), h3, decide_eq_false hm, if_neg (by simp), h2]; simp
  rw [h6] at h5
  refine ⟨w', hrun, turned_block ht, D.put (kL x) (.agg []), h5, h6, ?_⟩
  intro y
  by_cases e : y = x
  · subst e
    rw [Maps.has_put_same h1.isMap (kL_key _)]; simp
  · rw [Maps.has_put_other (kL_ne e), h3]; simp [e]
variable {ops : Array Oper} {rest : List Oper} {op : Oper} {a : Act} {Q : Exit → Act → World → Prop}
theorem wp_store {x : Int} (hg : op.guard = none) (m y z : Operand) (hop : op.op = Op.mapUpdate 133 m y z)
    (h : Wm w b l) (hx : Wf x) (hn : l.length < maxLen) (hmem : x ∉ l) (hm : a.eval m = .map (some b)) (hy : a.eval y = .int .i64 x) (hz : a.eval z = .agg #[])
    (hK : ∀ w', Trn w w' b → Wm w' b (l ++ [x]) → wpList Try.prog ops Q rest (a.put op.dst undef) w') : wpList Try.prog ops Q (op :: rest) a w := by
  refine wpList_plain hg fun K' hK' => ?_
  obtain ⟨w', hrun, r1, r2⟩ := h.store hx hn hmem
  unfold Oper.wp
  simp [execOp, hop, hm, hy, hz, hrun, Result.andThen]
  exact hK' _ _ (hK w' r1 r2)
end

/-! The state while all are woken. -/
def kV (x : Wk) : List Value := [.int .i64 x.t, .int .i64 x.c, .int .i64 x.v, .bool x.ok, .bool x.pn]
theorem kV_len (x : Wk) : (kV x).length = 5 := rfl
def flK (l : List Wk) : List Value := l.flatMap kV
theorem flK_app (a b : List Wk) : flK (a ++ b) = flK a ++ flK b := by unfold flK; rw [List.flatMap_append]
theorem flK_one (l : List Wk) : ∀ u ∈ flK l, u.oneCell' = true := by
  intro u hu
  unfold flK at hu
  obtain ⟨x, _, hx⟩ := List.mem_flatMap.1 hu
  simp [kV] at hx
  rcases hx with rfl | rfl | rfl | rfl | rfl <;> rfl
theorem own_keep {w w' : World} {base n sz : Nat} {e : TypeId} {v : Value} {xs : List Value} (h : w.ownsRow base e sz v n xs) (k : ∀ (b : Nat) (cs : Array Value), w.heap[b]? = some (.cells cs e (0, 0)) → w'.heap[b]? = w.heap[b]?) : w'.ownsRow base e sz v n xs := by
  refine ⟨h.1, ?_⟩
  rcases h.2 with hn | ⟨g, cap, cur, q1, q2, q3, q4⟩
  · exact .inl hn
  · exact .inr ⟨g, cap, cur, q1, q2, by rw [k g _ q3]; exact q3, q4⟩
theorem RdK.of_own {w : World} {base n : Nat} {v : Value} {l : List Wk} (hn : l.length = n) (h : w.ownsRow base 75 5 v n (flK l)) : ∃ A cap, v = .slice A n cap ∧ RdK w A n l := by
  rcases h.2 with ⟨rfl, h0⟩ | ⟨g, cap, cur, rfl, q2, q3, q4⟩
  · refine ⟨none, 0, by rw [h0], hn, fun hp => absurd hp (by omega)⟩
  · refine ⟨_, cap, rfl, hn, fun hp => ⟨g, _, rfl, q3, fun i x hx => ?_⟩⟩
    have hi : i < l.length := (List.getElem?_eq_some_iff.1 hx).1
    have hc : ∀ j u, j < 5 → (kV x)[j]? = some u → w.cell? ⟨g, i * 5 + j, none⟩ = some u := fun j u hj hu => by
      rw [h.cellAt (i * 5 + j) (by omega)]
      exact (flat_at kV 5 kV_len l i x hx j hj).trans hu
    exact ⟨hc 0 _ (by omega) rfl, hc 1 _ (by omega) rfl, hc 2 _ (by omega) rfl, hc 3 _ (by omega) rfl, hc 4 _ (by omega) rfl⟩

structure SX (W : World) (F : Nat → Prop) (c b : Nat) (v : Value) (acc : List Wk) (ks : List Int) (st : CS) (w : World) : Prop where
  go : Go F c st W w
  hb : W.heap.size ≤ b
  m : Wm w b ks
  row : w.ownsRow W.heap.size 75 5 v acc.length (flK acc)
section
variable {W w w' : World} {F : Nat → Prop} {c b : Nat} {v v' : Value} {acc acc' : List Wk} {ks ks' : List Int} {st st' : CS}
theorem SX.at (h : SX W F c b v acc ks st w) : ∃ F', CH w F' c st ∧ ∀ st' w', Go F' c st' w w' → SX W F c b v acc ks st' w' := by
  obtain ⟨F', hc, hs, t⟩ := h.go
  refine ⟨F', hc, fun st' w' g => ⟨Go.comp t hs g, h.hb, h.m.keep ?_, own_keep h.row ?_⟩⟩
  · exact g.other hc h.m.lt fun ⟨cs, t, h1, _⟩ => h.m.ne h1 rfl
  · exact fun k cs hk => g.other hc (lt_of_blk hk) (not_isc hk (by decide))
theorem SX.later (h : SX W F c b v acc ks st w) (hb : Below w.heap.size w w') : SX W F c b v acc ks st w' :=
  ⟨h.go.later hb, h.hb, h.m.keep (hb.block _ h.m.lt), own_keep h.row fun k cs hk => hb.block _ (lt_of_blk hk)⟩
theorem SX.alloc (h : SX W F c b v acc ks st w) (o : Obj) : SX W F c b v acc ks st (w.alloc o) := h.later (below_al w o)
theorem SX.store (h : SX W F c b v acc ks st w) (t : Trn w w' b) (m : Wm w' b ks') : SX W F c b v acc ks' st w' := by
  obtain ⟨F', hc, hs, tn⟩ := h.go
  obtain ⟨t1, t2, t3, t4, t5⟩ := t
  have hn : ∀ k, IsC w k → k ≠ b := fun k ⟨cs, t, hk, _⟩ => h.m.ne hk
  refine ⟨⟨F', hc.keep fun k hk => t5 k (hn k (hc.tag hk)), hs, tn.comp (F := F) (G := fun k => k = b) ⟨t1, t2, t3, Nat.le_of_eq t4.symm, fun k _ hk => t5 k hk⟩ (fun k hk => .inr (by have := h.hb; omega))⟩, h.hb, m, own_keep h.row fun k cs hk => t5 k (h.m.ne hk)⟩
theorem SX.grow (h : SX W F c b v acc ks st w) (hg : w.grownBy w' v.ownBlock) (row : w'.ownsRow W.heap.size 75 5 v' acc'.length (flK acc')) : SX W F c b v' acc' ks st w' := by
  obtain ⟨F', hc, hs, tn⟩ := h.go
  have hlt : ∀ k, v.ownBlock = some k → W.heap.size ≤ k ∧ ∃ cs, w.heap[k]? = some (.cells cs 75 (0, 0)) := fun k hk => by
    rcases h.row.2 with ⟨rfl, _⟩ | ⟨g, cap, cur, rfl, q2, q3, q4⟩
    · cases hk
    · cases hk; exact ⟨(h.row.lt _ rfl).1, _, q3⟩
  have hne : ∀ k, IsC w k → v.ownBlock ≠ some k := fun k hi e => by
    obtain ⟨_, cs, h1⟩ := hlt k e
    exact not_isc h1 (by decide) hi
  refine ⟨⟨F', hc.keep fun k hk => hg.block k (hc.lt hk) (fun e => hne k (hc.tag hk) e.symm), hs, ?_⟩, h.hb, h.m.keep (hg.block b h.m.lt fun e => ?_), row⟩
  · have hb := (Below.refl w.heap.size w)
    refine tn.comp (F := F) (G := fun k => v.ownBlock = some k) ⟨hg.os, hg.tape, hg.output, hg.size, fun k hk hn => hg.block k hk fun e => hn e.symm⟩ (fun k hk => .inr (hlt k hk).1)
  · obtain ⟨_, cs, h1⟩ := hlt b e.symm
    exact h.m.ne h1 rfl
end
end Go.Proofs.Ytmcacmbllpphiaa
