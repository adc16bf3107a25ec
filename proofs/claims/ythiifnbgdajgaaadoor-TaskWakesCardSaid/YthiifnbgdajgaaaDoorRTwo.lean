/- A list and slices of the call's own beside it; slices that came in; append onto a row of the call's own. Conditions: each theorem's own premises. -/
import Derived.Test.YthiifnbgdajgaaaDoorRAwk
import Derived.Maps.AppendAt
import Derived.Deep.Slices
import Derived.ChangeSame
import Derived.ChangeSlices
import Derived.ProofKit
import Derived.OpenShut
namespace Go.Proofs.YthiifnbgdajgaaaDoor
open Go.RowKit Go.ChangeShapes Go.WideShapes Go.Deep
set_option linter.unusedVariables false
set_option maxRecDepth 100000

/-! append, of a slice that reads as a row of numbers. -/
section
variable {w : World} {base n m c : Nat} {v : Value} {xs l : List Int} {A : Option Addr}
theorem app_nil {ty : TypeId} (ho : w.ownsRow base 3 1 v n (iV xs)) : (Builtin.append_ #[22, 22] ty #[v, .slice none 0 c]).run Tryd.prog w = .ok v w := by
  obtain ⟨i0, hi, hz0, hz1, hz2⟩ := info_parts inf
  rcases ho.2 with ⟨rfl, rfl⟩ | ⟨g, cap, cur, rfl, _, _, hc, _⟩ <;> simp [Builtin.append_, run_underlying Tryd.underlying22, sizeOf, typeInfo, Builtin.lenOf, Builtin.firstCells, storeCells, *]
theorem app_run (ty : TypeId) (ho : w.ownsRow base 3 1 v n (iV xs)) (hr : Rn w A m l) (hn : n + m ≤ 1000) (hbase : base ≤ w.heap.size) :
    ∃ v' w', (Builtin.append_ #[22, 22] ty #[v, .slice A m c]).run Tryd.prog w = .ok v' w' ∧ w'.ownsRow base 3 1 v' (n + m) (iV (xs ++ l)) ∧ w.grownBy w' v.ownBlock := by
  obtain ⟨i0, hi, hz0, hz1, hz2⟩ := info_parts inf
  rw [← iV_app]
  rcases Nat.eq_zero_or_pos m with h0 | h0
  · subst h0
    have hl : l = [] := List.eq_nil_of_length_eq_zero hr.1
    subst hl
    cases A with
    | none => exact ⟨v, w, app_nil ho, by simpa [iV] using ho, World.grownBy.refl _ _⟩
    | some a =>
      obtain ⟨v', w', r1, r2, r3, _⟩ := run_append_own_at (P := Tryd.prog) w base 22 ty 3 i0 _ 1 8 Tryd.underlying22 hi hz0 hz1 hz2 rfl (by decide) v n (iV xs) ho a 0 c [] (by simp) (fun j u hu => by simp at hu) (by simp) (by unfold maxLen; omega) (by omega) hbase
      exact ⟨v', w', r1, r2, r3⟩
  · obtain ⟨b, off, rfl, _, hc⟩ := hr.2 h0
    have hc' : ∀ j u, (iV l)[j]? = some u → w.cell? ((⟨b, off, none⟩ : Addr).add j) = some u := fun j u hu => by
      have h9 : (⟨b, off, none⟩ : Addr).add j = ⟨b, off + j, none⟩ := by unfold Addr.add; split <;> simp_all
      simp only [iV, List.getElem?_map, Option.map_eq_some_iff] at hu
      obtain ⟨x, hx, rfl⟩ := hu
      rw [h9]; exact hc j x hx
    obtain ⟨v', w', r1, r2, r3, _⟩ := run_append_own_at (P := Tryd.prog) w base 22 ty 3 i0 _ 1 8 Tryd.underlying22 hi hz0 hz1 hz2 rfl (by decide) v n (iV xs) ho _ m c (iV l) (by rw [iV_len, hr.1, Nat.mul_one]) hc' (iV_one l) (by unfold maxLen; omega) (by omega) hbase
    exact ⟨v', w', r1, r2, r3⟩
section
variable {ops : Array Oper} {rest : List Oper} {o : Oper} {a : Act} {K : Act → World → Prop} {Q : Exit → Act → World → Prop} {E : Prop}
theorem wp_app (hgd : o.guard = none) (s x : Operand) (hop : o.op = .call { callee := .builtin .append, args := #[s, x], argTypes := #[22, 22] }) (base : Nat) (v : Value) (n : Nat) (xs : List Int) (hv : a.eval s = v) (ho : w.ownsRow base 3 1 v n (iV xs)) (A : Option Addr) (m c : Nat) (l : List Int) (hx : a.eval x = .slice A m c) (hr : Rn w A m l) (hn : n + m ≤ 1000) (hbase : base ≤ w.heap.size)
    (hK : ∀ v' w', w'.ownsRow base 3 1 v' (n + m) (iV (xs ++ l)) → w.grownBy w' v.ownBlock → wpList Tryd.prog ops Q rest (a.put o.dst v') w') : wpList Tryd.prog ops Q (o :: rest) a w := by
  refine wpList_plain hgd fun K hK' => ?_
  obtain ⟨v', w', r1, r2, r3⟩ := app_run (c := c) o.type ho hr hn hbase
  unfold Oper.wp execOp
  simp only [hop, resolve, invoke, builtin, Sem.run_bind, Sem.run_pure, Result.andThen_ok, List.map_toArray, List.map_cons, List.map_nil, hv, hx, r1]
  exact hK' _ _ (hK v' w' r2 r3)
theorem step_app (hgd : o.guard = none) (s x : Operand) (hop : o.op = .call { callee := .builtin .append, args := #[s, x], argTypes := #[22, 22] }) (base : Nat) (v : Value) (n : Nat) (xs : List Int) (hv : a.eval s = v) (ho : w.ownsRow base 3 1 v n (iV xs)) (A : Option Addr) (m c : Nat) (l : List Int) (hx : a.eval x = .slice A m c) (hr : Rn w A m l) (hn : n + m ≤ 1000) (hbase : base ≤ w.heap.size)
    (hK : ∀ v' w', w'.ownsRow base 3 1 v' (n + m) (iV (xs ++ l)) → w.grownBy w' v.ownBlock → K (a.put o.dst v') w') :
    if Region.wanted o (yielded ops a.tmps) = true then Oper.wp Tryd.prog o a w K Q else E := by
  have hw : Region.wanted o (yielded ops a.tmps) = true := by simp [Region.wanted, hgd]
  rw [if_pos hw]
  obtain ⟨v', w', r1, r2, r3⟩ := app_run (c := c) o.type ho hr hn hbase
  unfold Oper.wp execOp
  simp only [hop, resolve, invoke, builtin, Sem.run_bind, Sem.run_pure, Result.andThen_ok, List.map_toArray, List.map_cons, List.map_nil, hv, hx, r1]
  exact hK v' w' r2 r3
end
/-- An empty row that the call made. -/
theorem own_empty {w wx : World} (h : wx.heap[w.heap.size]? = some (.cells #[] 3 (0, 0))) : wx.ownsRow w.heap.size 3 1 (.slice (some ⟨w.heap.size, 0, none⟩) 0 0) 0 (iV []) :=
  ⟨rfl, .inr ⟨_, 0, #[], rfl, Nat.le_refl _, h, Nat.le_refl _, by unfold maxLen; omega, rfl, rfl⟩⟩
theorem below_own {w wx w' : World} (hb : Below w.heap.size w wx) (ho : wx.ownsRow w.heap.size 3 1 v n (iV xs)) (hg : wx.grownBy w' v.ownBlock) : Below w.heap.size w w' := hb.grown hg hb.size fun k hk => (ho.lt k hk).1
theorem slice_of (ho : w.ownsRow base 3 1 v n (iV xs)) : ∃ A c, v = .slice A n c := by
  rcases ho.2 with ⟨rfl, rfl⟩ | ⟨g, cap, cur, rfl, _⟩
  · exact ⟨none, 0, rfl⟩
  · exact ⟨_, cap, rfl⟩
end

/-! A list, and a slice of the call's own that holds l2; they share no block. -/
structure AS (W : World) (P : Option Addr) (c : Nat) (l : List Int) (P2 : Option Addr) (c2 : Nat) (l2 : List Int) (n2 : Nat) (w : World) : Prop where
  st : ST W P c l w
  row : w.ownsRow W.heap.size 3 1 (.slice P2 n2 c2) n2 (iV l2)
  ap : ∀ k, blk P2 = some k → blk P ≠ some k
section
variable {W w w' wx w1 : World} {c c' c2 c3 n2 n3 : Nat} {P P' P2 P3 : Option Addr} {l l' l2 l3 : List Int}
theorem AS.len2 (h : AS W P c l P2 c2 l2 n2 w) : l2.length = n2 := by have := h.row.1; simp [iV] at this; omega
theorem AS.start (h : ST W P c l w) : AS W P c l none 0 [] 0 w := ⟨h, World.ownsRow_nil _ _ _ _, fun k hk => by cases hk⟩
theorem AS.later (h : AS W P c l P2 c2 l2 n2 w) (hb : Below w.heap.size w w') : AS W P c l P2 c2 l2 n2 w' := ⟨h.st.later hb, row_later h.row hb, h.ap⟩
theorem AS.drewN (h : AS W P c l P2 c2 l2 n2 w) (q : Nat) : AS W P c l P2 c2 l2 n2 (w.drewN q) := h.later (below_drewN w q)
/-- A row of numbers is neither the list nor its map. -/
theorem ST.off (h : ST W P c l w) {k : Nat} {cs : Array Value} {fr : Nat × Nat} (ht : w.heap[k]? = some (.cells cs 3 fr)) : k ≠ W.heap.size + 1 ∧ k ≠ W.heap.size := by
  obtain ⟨f, h1, _⟩ := h.rg
  constructor
  · intro e
    rw [e, h1.ho] at ht; injection ht with ht; injection ht with _ ht; cases ht
  · intro e
    obtain ⟨es, cl, hb⟩ := h1.tm.blk
    rw [e, hb] at ht; cases ht
theorem ST.lt (h : ST W P c l w) {k : Nat} (hk : blk P = some k) : W.heap.size ≤ k ∧ k < w.heap.size := by
  obtain ⟨f, h1, _⟩ := h.rg
  exact row_lt h1.own hk
/-- What lies apart from the list stays as it is when the list turns. -/
theorem row_by {P2 : Option Addr} (h : ST W P c l w) (hr : w.ownsRow W.heap.size 3 1 (.slice P2 n2 c2) n2 (iV l2)) (ap : ∀ k, blk P2 = some k → blk P ≠ some k) {p' : Option Nat} (hc : Chg (W.heap.size + 1) W.heap.size (blk P) p' w w') :
    w'.ownsRow W.heap.size 3 1 (.slice P2 n2 c2) n2 (iV l2) ∧ ∀ k, blk P2 = some k → p' ≠ some k := by
  refine ⟨row_keep hr fun k hk => ?_, fun k hk e => ?_⟩
  · obtain ⟨cs, fr, ht⟩ := row_tag hr hk
    exact hc.block k (row_lt hr hk).2 (h.off ht).1 (h.off ht).2 (ap k hk)
  · rcases hc.new with h2 | h2
    · exact ap k hk (h2.symm.trans e)
    · have := h2 k e; have := (row_lt hr hk).2; omega
theorem AS.go (h : AS W P c l P2 c2 l2 n2 w) (h1 : RG W.heap.size w' (W.heap.size + 1) W.heap.size P' c' l' ∧ Chg (W.heap.size + 1) W.heap.size (blk P) (blk P') w w') : AS W P' c' l' P2 c2 l2 n2 w' := by
  obtain ⟨r1, r2⟩ := row_by h.st h.row h.ap h1.2
  exact ⟨h.st.go h1, r1, r2⟩
theorem AS.add (h : AS W P c l P2 c2 l2 n2 w) {e : Ending} (r : AddR W.heap.size (W.heap.size + 1) W.heap.size P l' w e w') : ∃ P' c', AS W P' c' l' P2 c2 l2 n2 w' := by
  obtain ⟨_, g, c', r1, r2⟩ := r
  exact ⟨_, _, h.go ⟨r1, r2⟩⟩
/-- The list stays as it is when a row apart from it grows. -/
theorem ST.grow (h : ST W P c l w) (hx : Below w.heap.size w wx) (hr : w.ownsRow W.heap.size 3 1 (.slice P2 n2 c2) n2 (iV l2)) (ap : ∀ k, blk P2 = some k → blk P ≠ some k) (hg : wx.grownBy w1 (Value.slice P2 n2 c2).ownBlock) :
    ST W P c l w1 := by
  rw [own_blk] at hg
  have hs := hx.size
  have key : ∀ k, k < w.heap.size → blk P2 ≠ some k → w1.heap[k]? = w.heap[k]? := fun k hk hne => (hg.block k (by omega) (fun e => hne e.symm)).trans (hx.block k hk)
  have hoff : ∀ k, blk P2 = some k → k ≠ W.heap.size + 1 ∧ k ≠ W.heap.size := fun k hk => by
    obtain ⟨cs, fr, ht⟩ := row_tag hr hk
    exact h.off ht
  obtain ⟨f, h1, h2⟩ := h.rg
  refine ⟨(h.bel.trans (hx.mono h.bel.size)).grown hg (by have := h.bel.size; omega) (fun k hk => (row_lt hr hk).1), f, h1.keep (key _ h1.lo fun e => (hoff _ e).1 rfl) (key _ h1.tm.lt fun e => (hoff _ e).2 rfl) (fun k hk => key k (row_lt h1.own hk).2 fun e => ap k e hk), h2⟩
theorem AS.app {g cap : Nat} {x : Int} (h : AS W P c l P2 c2 l2 n2 w) (hx : Below w.heap.size w wx) (hown : w1.ownsRow W.heap.size 3 1 (.slice (some ⟨g, 0, none⟩) (n2 + 1) cap) (n2 + 1) (iV l2 ++ [.int .i64 x])) (hg : wx.grownBy w1 (Value.slice P2 n2 c2).ownBlock) (hat : (Value.slice P2 n2 c2).ownBlock = some g ∨ w.heap.size ≤ g) :
    AS W P c l (some ⟨g, 0, none⟩) cap (l2 ++ [x]) (n2 + 1) w1 := by
  refine ⟨h.st.grow hx h.row h.ap hg, by rw [← iV_snoc]; exact hown, ?_⟩
  rw [own_blk] at hat
  intro k hk e
  injection hk with hk; subst hk
  rcases hat with h1 | h1
  · exact h.ap g h1 e
  · have h9 : g < w.heap.size := (h.st.lt e).2
    omega
/-- Another row in its place, all of it new. -/
theorem AS.fresh (h : AS W P c l P2 c2 l2 n2 w) (hb : Below w.heap.size w w') (ho : w'.ownsRow w.heap.size 3 1 (.slice P3 n3 c3) n3 (iV l3)) : AS W P c l P3 c3 l3 n3 w' := by
  refine ⟨h.st.later hb, ⟨ho.1, ?_⟩, fun k hk e => ?_⟩
  · rcases ho.2 with h1 | ⟨g, cap, cur, h1, h2, h3⟩
    · exact .inl h1
    · exact .inr ⟨g, cap, cur, h1, Nat.le_trans h.st.bel.size h2, h3⟩
  · have h9 := (row_lt ho hk).1
    have h8 := (h.st.lt e).2
    omega

/-! .. and one more such slice, apart from both. -/
structure BS (W : World) (P : Option Addr) (c : Nat) (l : List Int) (P2 : Option Addr) (c2 : Nat) (l2 : List Int) (n2 : Nat) (P3 : Option Addr) (c3 : Nat) (l3 : List Int) (n3 : Nat) (w : World) : Prop where
  a : AS W P c l P2 c2 l2 n2 w
  row3 : w.ownsRow W.heap.size 3 1 (.slice P3 n3 c3) n3 (iV l3)
  ap3 : ∀ k, blk P3 = some k → blk P ≠ some k ∧ blk P2 ≠ some k
theorem BS.len3 (h : BS W P c l P2 c2 l2 n2 P3 c3 l3 n3 w) : l3.length = n3 := by have := h.row3.1; simp [iV] at this; omega
theorem BS.start (h : AS W P c l P2 c2 l2 n2 w) : BS W P c l P2 c2 l2 n2 none 0 [] 0 w := ⟨h, World.ownsRow_nil _ _ _ _, fun k hk => by cases hk⟩
theorem BS.last (h : BS W P c l P2 c2 l2 n2 P3 c3 l3 n3 w) : AS W P c l P3 c3 l3 n3 w := ⟨h.a.st, h.row3, fun k hk => (h.ap3 k hk).1⟩
theorem BS.app {g cap : Nat} {x : Int} (h : BS W P c l P2 c2 l2 n2 P3 c3 l3 n3 w) (hx : Below w.heap.size w wx) (hown : w1.ownsRow W.heap.size 3 1 (.slice (some ⟨g, 0, none⟩) (n3 + 1) cap) (n3 + 1) (iV l3 ++ [.int .i64 x])) (hg : wx.grownBy w1 (Value.slice P3 n3 c3).ownBlock) (hat : (Value.slice P3 n3 c3).ownBlock = some g ∨ w.heap.size ≤ g) :
    BS W P c l P2 c2 l2 n2 (some ⟨g, 0, none⟩) cap (l3 ++ [x]) (n3 + 1) w1 := by
  have st1 := h.a.st.grow hx h.row3 (fun k hk => (h.ap3 k hk).1) hg
  rw [own_blk] at hat hg
  refine ⟨⟨st1, row_keep h.a.row fun k hk => ?_, h.a.ap⟩, by rw [← iV_snoc]; exact hown, ?_⟩
  · have h9 := (row_lt h.a.row hk).2
    have hs := hx.size
    exact (hg.block k (by omega) (fun e => (h.ap3 k e.symm).2 hk)).trans (hx.block k h9)
  · intro k hk
    injection hk with hk; subst hk
    rcases hat with h1 | h1
    · exact h.ap3 g h1
    · refine ⟨fun e => ?_, fun e => ?_⟩
      · have h9 : g < w.heap.size := (h.a.st.lt e).2
        omega
      · have h9 : g < w.heap.size := (row_lt h.a.row e).2
        omega
end

/-! Slices that came in. -/
theorem row_at {k : IntKind} {w : World} {x : Addr} {zs : List Int} (hcell : ∀ i, i < zs.length → w.cell? (x.add i) = some (.int k (zs.getD i 0))) (h0 : 0 < zs.length) :
    ∃ b off, x = ⟨b, off, none⟩ ∧ b < w.heap.size ∧ ∀ i, i < zs.length → w.cell? ⟨b, off + i, none⟩ = some (.int k (zs.getD i 0)) := by
  have hc := hcell 0 h0
  obtain ⟨b, off, spot⟩ := x
  have hspot : spot = none := by simpa [Addr.add] using World.cell?_spot hc
  subst hspot
  have e : ∀ i, (⟨b, off, none⟩ : Addr).add i = ⟨b, off + i, none⟩ := by
    intro i; unfold Addr.add
    by_cases h : i = 0
    · subst h; simp
    · simp [h]
  exact ⟨b, off, rfl, by simpa [e] using World.block_lt_of_cell? _ _ hc, fun i hi => by rw [← e]; exact hcell i hi⟩
theorem rn_of {w : World} {a : Option Addr} {len cap : Nat} {zs : List Int}
    (h : (a = none ∧ len = 0 ∧ cap = 0 ∧ zs = []) ∨ ∃ x, a = some x ∧ len ≤ cap ∧ cap ≤ maxLen ∧ zs.length = cap ∧ (∀ i, i < zs.length → w.cell? (x.add i) = some (.int .i64 (zs.getD i 0))) ∧ ∀ n ∈ zs, (Lit.int .i64 n).wf = true) : Rn w a len (zs.take len) := by
  rcases h with ⟨rfl, rfl, rfl, rfl⟩ | ⟨x, rfl, h1, h2, h3, h4, _⟩
  · exact Rn.nil _ _
  · refine ⟨by rw [List.length_take]; omega, fun h0 => ?_⟩
    obtain ⟨b, off, rfl, hb, hc⟩ := row_at h4 (by omega)
    refine ⟨b, off, rfl, hb, fun j y hy => ?_⟩
    have hj : j < (zs.take len).length := (List.getElem?_eq_some_iff.1 hy).1
    rw [List.length_take] at hj
    rw [hc j (by omega)]
    rw [List.getElem?_take, if_pos (by omega)] at hy
    simp [List.getD_eq_getElem?_getD, hy]
/-- Its element k, later on. -/
theorem Rn.cell {W w : World} {A : Option Addr} {n k : Nat} {l : List Int} (h : Rn W A n l) (hb : Below W.heap.size W w) (hk : k < n) : ∃ b off x, A = some ⟨b, off, none⟩ ∧ b < W.heap.size ∧ l[k]? = some x ∧ w.cell? ⟨b, off + k, none⟩ = some (.int .i64 x) := by
  obtain ⟨b, off, e, h1, h2⟩ := h.2 (by omega)
  have hx : l[k]? = some (l[k]'(by rw [h.1]; exact hk)) := List.getElem?_eq_getElem _
  exact ⟨b, off, _, e, h1, hx, (cell_blk (hb.block b h1) _).trans (h2 k _ hx)⟩

def RoundR (n : Nat) (w : World) (e : Ending) (w' : World) : Prop := ∃ r : Nat, r < n ∧ e = .returned (.int .i64 (r : Int)) ∧ w = w'
theorem round_any (k : Int) (n : Nat) (w : World) (h0 : 0 < n) (h1 : n ≤ 40) : Calls Tryd.prog 10 #[.int .i64 k, .int .i64 (n : Int)] w (RoundR n w) := by
  have b1 : (0 : Int) < (n : Int) := by omega
  have b2 : (n : Int) ≤ 40 := by omega
  have t1 : k.tmod n < n := Int.tmod_lt_of_pos _ (by omega)
  have t2 : -(n : Int) < k.tmod n := by
    have := Int.tmod_lt_of_pos (-k) (show (0 : Int) < n by omega)
    rw [Int.neg_tmod] at this; omega
  have HE : Hid (RoundR n w (.returned (.int .i64 ((k.tmod n + n) % n))) w) := by
    refine ⟨((k.tmod n + n) % n).toNat, ?_, ?_, rfl⟩
    · have := Int.emod_lt_of_pos (k.tmod n + n) (show (0 : Int) < n by omega); omega
    · rw [Int.toNat_of_nonneg (Int.emod_nonneg _ (by omega))]
  go_enter Tryd.func10, Tryd.ntmps10
  go_wp2
  go_ret
  exact HE.out
end Go.Proofs.YthiifnbgdajgaaaDoor
