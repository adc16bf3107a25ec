/- A slice of numbers that the call appends to, and from whose head it cuts: where it lies, and what an append does. No condition. -/
import Derived.Test.YtmjogkjdjhhilaaTwo
namespace Go.Proofs.Ytmjogkjdjhhilaa
open Go.RowKit
set_option linter.unusedVariables false

/-- A slice in blocks from base on, of room c, reads as l; its cells are there and not frozen. -/
def Wn (w : World) (base : Nat) (A : Option Addr) (n c : Nat) (l : List Int) : Prop :=
  l.length = n ∧ n ≤ c ∧ (0 < c → ∃ g off, A = some ⟨g, off, none⟩ ∧ base ≤ g ∧ g < w.heap.size ∧ (∀ j x, l[j]? = some x → w.cell? ⟨g, off + j, none⟩ = some (.int .i64 x)) ∧ ∀ j, j < c → (w.cell? ⟨g, off + j, none⟩).isSome = true ∧ w.frozen? ⟨g, off + j, none⟩ = false)
theorem Wn.nil (w : World) (base : Nat) (A : Option Addr) : Wn w base A 0 0 [] := ⟨rfl, Nat.le_refl _, fun h => absurd h (by omega)⟩
theorem Wn.keep {w w' : World} {base n c : Nat} {A : Option Addr} {l : List Int} (h : Wn w base A n c l) (hs : w.heap.size ≤ w'.heap.size) (hb : ∀ g, base ≤ g → g < w.heap.size → w'.heap[g]? = w.heap[g]?) : Wn w' base A n c l := by
  refine ⟨h.1, h.2.1, fun h0 => ?_⟩
  obtain ⟨g, off, e, h1, h2, h3, h4⟩ := h.2.2 h0
  have hg := hb g h1 h2
  refine ⟨g, off, e, h1, by omega, fun j x hx => (cell_blk hg _).trans (h3 j x hx), fun j hj => ⟨by rw [cell_blk hg]; exact (h4 j hj).1, ?_⟩⟩
  rw [World.frozen?_of_block (a := ⟨g, off + j, none⟩) hg]; exact (h4 j hj).2
theorem Wn.later {w w' : World} {base n c : Nat} {A : Option Addr} {l : List Int} (h : Wn w base A n c l) (hb : Below w.heap.size w w') : Wn w' base A n c l := h.keep hb.size fun g _ hg => hb.block g hg
theorem Wn.only {w w' : World} {a p base n c : Nat} {A : Option Addr} {l : List Int} (h : Wn w base A n c l) (o : Only a p w w') (ha : a < base) (hp : p < base) : Wn w' base A n c l :=
  h.keep (by rw [o.size]; exact Nat.le_refl _) fun g h1 _ => o.block g (by omega) (by omega)
theorem Wn.rn {w : World} {base n c : Nat} {A : Option Addr} {l : List Int} (h : Wn w base A n c l) : Rn w w.heap.size A n l :=
  ⟨h.1, fun h0 => by
    obtain ⟨g, off, e, h1, h2, h3, h4⟩ := h.2.2 (by have := h.2.1; omega)
    exact ⟨g, off, e, h2, h3⟩⟩
theorem Wn.of_own {w : World} {base n : Nat} {v : Value} {l : List Int} (h : w.ownsRow base 3 1 v n (iV l)) (h0 : 0 < n) : ∃ A c, v = .slice A n c ∧ Wn w base A n c l := by
  have hl : l.length = n := by have := h.1; simp [iV] at this; omega
  have hh := h
  rcases h.2 with ⟨_, h1⟩ | ⟨g, cap, cur, rfl, hg, hc, hle, _, hsz, ht⟩
  · omega
  · refine ⟨_, cap, rfl, hl, hle, fun _ => ⟨g, 0, rfl, hg, lt_of_blk hc, fun j x hx => ?_, fun j hj => ⟨?_, ?_⟩⟩⟩
    · have hj : j < l.length := (List.getElem?_eq_some_iff.1 hx).1
      rw [Nat.zero_add, hh.cellAt j (by rw [Nat.mul_one]; omega)]
      simp [iV, hx]
    · rw [Nat.zero_add, cell_of_row w g j _ _ _ hc]
      simp; omega
    · exact frozen_of_row w g _ _ _ hc

/-- New blocks, and it may be that one from base on has turned. -/
def Grw (base : Nat) (w w' : World) : Prop := ∃ r, w.grownBy w' r ∧ ∀ k, r = some k → base ≤ k
theorem app_wn {w : World} {base n c cc : Nat} {A : Option Addr} {l : List Int} {x : Int} {ad : Addr} {ty : TypeId} (h : Wn w base A n c l) (hnews : ∀ j u, [Value.int .i64 x][j]? = some u → w.cell? (ad.add j) = some u) (hn : n ≤ 1000) (hbase : base ≤ w.heap.size) :
    ∃ A' c' w', (Builtin.append_ #[22, 22] ty #[.slice A n c, .slice (some ad) 1 cc]).run Try.prog w = .ok (.slice A' (n + 1) c') w' ∧ Wn w' base A' (n + 1) c' (l ++ [x]) ∧ Grw base w w' := by
  obtain ⟨i0, hi, hz0, hz1, hz2⟩ := info_parts inf3
  by_cases hc : n + 1 ≤ c
  · obtain ⟨g, off, rfl, h1, h2, h3, h4⟩ := h.2.2 (by omega)
    have hr := run_append_room_cells (P := Try.prog) w 22 ty 3 i0 Try.underlying22 hi g off n c ad 1 cc [.int .i64 x] (by rw [hz1]; rfl) hnews one_int hc
      (fun j hj => by simp at hj; subst hj; rw [hz1, Nat.mul_one, Nat.add_zero]; exact (h4 n (by omega)).1) (fun j hj => by simp at hj; subst hj; rw [hz1, Nat.mul_one, Nat.add_zero]; exact (h4 n (by omega)).2)
    rw [hz1, Nat.mul_one] at hr
    refine ⟨_, c, _, hr, ⟨by rw [List.length_append, h.1]; rfl, hc, fun _ => ⟨g, off, rfl, h1, by show _ < (w.setCell _ _).heap.size; simp [World.setCell]; exact h2, fun j y hy => ?_, fun j hj => ?_⟩⟩, ?_⟩
    · show (w.setCell ⟨g, off + n, none⟩ (.int .i64 x)).cell? _ = _
      by_cases hj : j < n
      · rw [List.getElem?_append_left (by rw [h.1]; exact hj)] at hy
        rw [World.cell?_setCell_other _ _ _ _ (by intro e; injection e with e1 e2; omega)]
        exact h3 j y hy
      · have hj2 : j < (l ++ [x]).length := (List.getElem?_eq_some_iff.1 hy).1
        rw [List.length_append, h.1] at hj2
        simp at hj2
        obtain rfl : j = n := by omega
        rw [List.getElem?_append_right (by rw [h.1]; exact Nat.le_refl _), h.1, Nat.sub_self] at hy
        simp at hy; subst hy
        obtain ⟨v, hv⟩ := Option.isSome_iff_exists.1 (h4 j (by omega)).1
        exact World.cell?_setCell_same _ _ _ hv
    · constructor
      · show ((w.setCell ⟨g, off + n, none⟩ (.int .i64 x)).cell? _).isSome = true
        obtain ⟨v, hv⟩ := Option.isSome_iff_exists.1 (h4 j hj).1
        by_cases e : j = n
        · subst e; rw [World.cell?_setCell_same _ _ _ hv]; rfl
        · rw [World.cell?_setCell_other _ _ _ _ (by intro e1; injection e1 with e1 e2; omega), hv]; rfl
      · show (w.setCell ⟨g, off + n, none⟩ (.int .i64 x)).frozen? _ = false
        rw [World.frozen?_setCell]; exact (h4 j hj).2
    · exact ⟨some g, ⟨rfl, rfl, rfl, by show _ ≤ (w.setCell _ _).heap.size; simp [World.setCell], fun k _ hk => Below.heap_setCell _ _ _ _ (fun e => hk (by rw [e]))⟩, fun k hk => by cases hk; exact h1⟩
  · have hcn : c = n := by have := h.2.1; omega
    have own : ∀ v' w', w'.ownsRow base 3 1 v' (n + 1) (iV l ++ [.int .i64 x]) → ∃ A' c', v' = .slice A' (n + 1) c' ∧ Wn w' base A' (n + 1) c' (l ++ [x]) := by
      intro v' w' ho
      refine Wn.of_own ?_ (Nat.succ_pos _)
      have e : iV (l ++ [x]) = iV l ++ [.int .i64 x] := by unfold iV; rw [List.map_append]; rfl
      rw [e]; exact ho
    cases A with
    | none =>
      have h0 : c = 0 := by
        rcases Nat.eq_zero_or_pos c with h0 | h0
        · exact h0
        · obtain ⟨g, off, e, _⟩ := h.2.2 h0; cases e
      subst h0
      obtain rfl : n = 0 := hcn.symm
      obtain rfl : l = [] := List.eq_nil_of_length_eq_zero h.1
      obtain ⟨v', w', r1, r2, r3, _⟩ := run_append_own (P := Try.prog) w base 22 ty 3 i0 _ 1 8 Try.underlying22 hi hz0 hz1 hz2 rfl (by omega) (.slice none 0 0) 0 [] (World.ownsRow_nil _ _ _ _) ad 1 cc [.int .i64 x] rfl hnews one_int (by unfold maxLen; omega) (by omega) hbase
      obtain ⟨A', c', rfl, hw⟩ := own v' w' r2
      exact ⟨A', c', w', r1, hw, none, r3, fun k hk => by cases hk⟩
    | some a0 =>
      have hold : ∀ j u, (iV l)[j]? = some u → w.cell? (a0.add j) = some u := by
        intro j u hu
        have hj : j < l.length := by have := (List.getElem?_eq_some_iff.1 hu).1; simpa [iV] using this
        obtain ⟨g, off, e, h1, h2, h3, h4⟩ := h.2.2 (by have := h.1; omega)
        cases e
        rw [Addr.add_lit]
        have hx : l[j]? = some l[j] := List.getElem?_eq_getElem hj
        rw [h3 j _ hx]
        simp only [iV, List.getElem?_map, hx, Option.map_some] at hu
        exact hu
      obtain ⟨v', w', r1, r2, r3⟩ := run_append_arg_grows (P := Try.prog) w 22 ty 3 i0 _ 1 8 Try.underlying22 hi hz0 hz1 hz2 rfl (by omega) a0 n c (iV l) (by simp [iV, h.1]) hold ad 1 cc [.int .i64 x] rfl hnews (by omega) (by unfold maxLen; omega) (by omega)
      have r2' : w'.ownsRow base 3 1 v' (n + 1) (iV l ++ [.int .i64 x]) := ⟨r2.1, r2.2.imp id fun ⟨g, cap, cur, q1, q2, q3⟩ => ⟨g, cap, cur, q1, Nat.le_trans hbase q2, q3⟩⟩
      obtain ⟨A', c', rfl, hw⟩ := own v' w' r2'
      exact ⟨A', c', w', r1, hw, none, r3, fun k hk => by cases hk⟩

/-- For the walk. -/
theorem wp_app_wn {ops : Array Oper} {rest : List Oper} {o : Oper} {a : Act} {w : World} {Q : Exit → Act → World → Prop} (hgd : o.guard = none) (s x : Operand) (ho : o.op = .call { callee := .builtin .append, args := #[s, x], argTypes := #[22, 22] })
    (base n c cc : Nat) (A : Option Addr) (l : List Int) (y : Int) (ad : Addr) (hs : a.eval s = .slice A n c) (hx : a.eval x = .slice (some ad) 1 cc) (h : Wn w base A n c l) (hnews : ∀ j u, [Value.int .i64 y][j]? = some u → w.cell? (ad.add j) = some u) (hn : n ≤ 1000) (hbase : base ≤ w.heap.size)
    (hK : ∀ A' c' w', Wn w' base A' (n + 1) c' (l ++ [y]) → Grw base w w' → wpList Try.prog ops Q rest (a.put o.dst (.slice A' (n + 1) c')) w') : wpList Try.prog ops Q (o :: rest) a w := by
  refine wpList_plain hgd fun K hK' => ?_
  obtain ⟨A', c', w', r1, r2, r3⟩ := app_wn (ty := o.type) (cc := cc) h hnews hn hbase
  unfold Oper.wp execOp
  simp only [ho, resolve, invoke, builtin, Sem.run_bind, Sem.run_pure, Result.andThen_ok, List.map_toArray, List.map_cons, List.map_nil, hs, hx, r1]
  exact hK' _ _ (hK A' c' w' r2 r3)

/-- One less at the head. -/
theorem Wn.tail {w : World} {base n c g off : Nat} {x : Int} {l : List Int} (h : Wn w base (some ⟨g, off, none⟩) (n + 1) (c + 1) (x :: l)) : Wn w base (some ⟨g, off + 1, none⟩) n c l := by
  obtain ⟨h1, h2, h3⟩ := h
  refine ⟨by simpa using h1, by omega, fun h0 => ?_⟩
  obtain ⟨g', off', e, k1, k2, k3, k4⟩ := h3 (by omega)
  cases e
  exact ⟨g, off + 1, rfl, k1, k2, fun j y hy => by rw [Nat.add_assoc, Nat.add_comm 1]; exact k3 (j + 1) y (by simpa using hy), fun j hj => by rw [Nat.add_assoc, Nat.add_comm 1]; exact k4 (j + 1) (by omega)⟩

/-- A ring of the call's own, and a slice of the call's own, hold the same. -/
def AS (W : World) (sz : Nat) (l : List Int) (A : Option Addr) (c : Nat) (w : World) : Prop := ST W (W.heap.size + 1) W.heap.size sz l w ∧ Wn w (W.heap.size + 2) A l.length c l
theorem ST.grw {W w w' : World} {sz : Nat} {l : List Int} (h : ST W (W.heap.size + 1) W.heap.size sz l w) (g : Grw (W.heap.size + 2) w w') : ST W (W.heap.size + 1) W.heap.size sz l w' := by
  obtain ⟨r, hg, hr⟩ := g
  have key : ∀ k, k < W.heap.size + 2 → k < w.heap.size → w'.heap[k]? = w.heap[k]? := fun k h1 h2 => hg.block k h2 (fun e => by have := hr k e.symm; omega)
  have h1 := h.rg.la
  exact ⟨h.bel.grown hg h.bel.size (fun k hk => by have := hr k hk; omega), h.ga, h.gp, h.rg.keep (key _ (by omega) h1) (key _ (by omega) (by omega))⟩
theorem AS.goBoth {W w w' : World} {sz c : Nat} {l l' : List Int} {A : Option Addr} (h : AS W sz l A c w) (r : RG w' (W.heap.size + 1) W.heap.size sz l') (o : Only (W.heap.size + 1) W.heap.size w w') : ST W (W.heap.size + 1) W.heap.size sz l' w' ∧ Wn w' (W.heap.size + 2) A l.length c l :=
  ⟨h.1.go r o, h.2.only o (by omega) (by omega)⟩
theorem AS.later {W w w' : World} {sz c : Nat} {l : List Int} {A : Option Addr} (h : AS W sz l A c w) (hb : Below w.heap.size w w') : AS W sz l A c w' := ⟨h.1.later hb, h.2.later hb⟩
theorem AS.drewN {W w : World} {sz c : Nat} {l : List Int} {A : Option Addr} (h : AS W sz l A c w) (q : Nat) : AS W sz l A c (w.drewN q) := ⟨h.1.drewN q, h.2.keep (Nat.le_refl _) (fun _ _ _ => rfl)⟩
end Go.Proofs.Ytmjogkjdjhhilaa
