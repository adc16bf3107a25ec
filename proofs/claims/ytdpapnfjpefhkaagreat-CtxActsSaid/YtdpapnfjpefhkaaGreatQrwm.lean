/- Slices that read as a row of items; append onto a row of the call's own. No condition.
The document's own heap in memory: a block of two cells, one slice; Find. Conditions: each theorem's own premises. -/
import Derived.Test.YtdpapnfjpefhkaaGreatTkem
import Derived.Maps.AppendAt
import Derived.Deep.RegionHeld3
namespace Go.Proofs.YtdpapnfjpefhkaaGreat
open Go.RowKit
set_option linter.unusedVariables false
set_option maxRecDepth 100000
def Rd (w : World) (B : Nat) (A : Option Addr) (n s : Nat) (xs : List Value) : Prop :=
 xs.length = n * s ∧ (0 < n → ∃ b off, A = some ⟨b, off, none⟩ ∧ b < B ∧ ∀ j u, xs[j]? = some u → w.cell? ⟨b, off + j, none⟩ = some u)
theorem Rd.keep {w w' : World} {B B' : Nat} {A : Option Addr} {n s : Nat} {xs : List Value} (h : Rd w B A n s xs) (hB : B ≤ B') (hb : ∀ b, b < B → w'.heap[b]? = w.heap[b]?) : Rd w' B' A n s xs :=
 ⟨h.1, fun h0 => by
  obtain ⟨b, off, e, hl, hc⟩ := h.2 h0
  exact ⟨b, off, e, by omega, fun j u hu => (cell_blk (hb b hl) _).trans (hc j u hu)⟩⟩
theorem Rd.later {w w' : World} {A : Option Addr} {n s : Nat} {xs : List Value} (h : Rd w w.heap.size A n s xs) (hb : Below w.heap.size w w') : Rd w' w'.heap.size A n s xs :=
 h.keep hb.size fun b hl => hb.block b hl
theorem Rd.nil (w : World) (B s : Nat) (A : Option Addr) : Rd w B A 0 s [] := ⟨by simp, fun h => absurd h (by omega)⟩
theorem Rd.new (w : World) (cs : Array Value) (n s : Nat) (t : TypeId) (h : cs.size = n * s) : Rd (w.alloc (.cells cs t)) (w.alloc (.cells cs t)).heap.size (some ⟨w.heap.size, 0, none⟩) n s cs.toList := by
 refine ⟨by simpa using h, fun _ => ⟨w.heap.size, 0, rfl, by simp, fun j u hu => ?_⟩⟩
 rw [Nat.zero_add, World.cell?_alloc_at _ _ _ _ rfl]
 simpa using hu
theorem Rd.at {α : Type} {f : α → List Value} {w : World} {B n s : Nat} {A : Option Addr} {l : List α} (hs : ∀ x, (f x).length = s) (h : Rd w B A n s (l.flatMap f)) (h0 : 0 < n) :
  ∃ b off, A = some ⟨b, off, none⟩ ∧ b < B ∧ ∀ i x, l[i]? = some x → ∀ j, j < s → ∀ u, (f x)[j]? = some u → w.cell? ⟨b, off + i * s + j, none⟩ = some u := by
 obtain ⟨b, off, e, hl, hc⟩ := h.2 h0
 refine ⟨b, off, e, hl, fun i x hx j hj u hu => ?_⟩
 rw [Nat.add_assoc]
 exact hc _ _ ((flat_at f s hs l i x hx j hj).trans hu)
theorem own_cap {w : World} {base : Nat} {e : TypeId} {size n : Nat} {v : Value} {xs : List Value} (h : w.ownsRow base e size v n xs) : ∃ a c, v = .slice a n c ∧ n ≤ c ∧ c ≤ 9223372036854775807 := by
 rcases h.2 with ⟨rfl, rfl⟩ | ⟨g, cap, cur, rfl, _, _, h1, h2, _⟩
 · exact ⟨none, 0, rfl, by omega, by omega⟩
 · exact ⟨_, _, rfl, h1, h2⟩
section
variable {P : Program} {w : World}
theorem app_nil {base t ty e size n c : Nat} {i : TypeInfo} {v : Value} {xs : List Value} (ht : P.underlying t = some (.slice e)) (hi : P.info? e = some i) (ho : w.ownsRow base e size v n xs) : (Builtin.append_ #[t, t] ty #[v, .slice none 0 c]).run P w = .ok v w := by
 rcases ho.2 with ⟨rfl, rfl⟩ | ⟨g, cap, cur, rfl, _, _, hc, _⟩ <;> simp [Builtin.append_, run_underlying ht, sizeOf, typeInfo, Builtin.lenOf, Builtin.firstCells, storeCells, *]
theorem app_run {base t ty e size bytes n m c B : Nat} {i : TypeInfo} {z v : Value} {xs news : List Value} {A : Option Addr} (ht : P.underlying t = some (.slice e)) (hi : P.info? e = some i) (hz : i.zero = some z) (hs : i.size = size) (hby : i.bytes = bytes)
  (hzs : z.cells.size = size) (hp : 0 < size) (ho : w.ownsRow base e size v n xs) (hr : Rd w B A m size news) (h1 : ∀ u ∈ news, u.oneCell' = true) (h63 : n + m ≤ maxLen) (hb : (n + m) * bytes ≤ 140737488355328) (hbase : base ≤ w.heap.size) :
  ∃ v' w', (Builtin.append_ #[t, t] ty #[v, .slice A m c]).run P w = .ok v' w' ∧ w'.ownsRow base e size v' (n + m) (xs ++ news) ∧ w.grownBy w' v.ownBlock := by
 rcases Nat.eq_zero_or_pos m with h0 | h0
 · subst h0
   have hn : news = [] := List.eq_nil_of_length_eq_zero (by rw [hr.1, Nat.zero_mul])
   subst hn
   cases A with
   | none => exact ⟨v, w, app_nil ht hi ho, by rw [Nat.add_zero, List.append_nil]; exact ho, World.grownBy.refl _ _⟩
   | some a =>
    obtain ⟨v', w', r1, r2, r3, _⟩ := run_append_own_at (P := P) w base t ty e i z size bytes ht hi hz hs hby hzs hp v n xs ho a 0 c [] (by simp) (fun j u hu => by simp at hu) h1 h63 hb hbase
    exact ⟨v', w', r1, r2, r3⟩
 · obtain ⟨b, off, rfl, _, hc⟩ := hr.2 h0
   have hc' : ∀ j u, news[j]? = some u → w.cell? ((⟨b, off, none⟩ : Addr).add j) = some u := fun j u hu => by
    have h9 : (⟨b, off, none⟩ : Addr).add j = ⟨b, off + j, none⟩ := by unfold Addr.add; split <;> simp_all
    rw [h9]; exact hc j u hu
   obtain ⟨v', w', r1, r2, r3, _⟩ := run_append_own_at (P := P) w base t ty e i z size bytes ht hi hz hs hby hzs hp v n xs ho _ m c news hr.1 hc' h1 h63 hb hbase
   exact ⟨v', w', r1, r2, r3⟩
end
theorem below_app {B : Nat} {W w w' : World} {base e size n : Nat} {v : Value} {xs : List Value} (hb : Below B W w) (hB : B ≤ base) (hs : B ≤ w.heap.size) (ho : w.ownsRow base e size v n xs) (hg : w.grownBy w' v.ownBlock) : Below B W w' :=
 hb.grown hg hs (fun k hk => Nat.le_trans hB (ho.lt k hk).1)
theorem step_app {P : Program} {w : World} {ops : Array Oper} {o : Oper} {a : Act} {K : Act → World → Prop} {Q : Exit → Act → World → Prop} {E : Prop} (hgd : o.guard = none) (s x : Operand) (t : TypeId) (hop : o.op = .call { callee := .builtin .append, args := #[s, x], argTypes := #[t, t] })
  (base e size bytes : Nat) (i : TypeInfo) (z : Value) (ht : P.underlying t = some (.slice e)) (hi : P.info? e = some i) (hz : i.zero = some z) (hs : i.size = size) (hby : i.bytes = bytes) (hzs : z.cells.size = size) (hp : 0 < size)
  (v : Value) (n : Nat) (xs : List Value) (hv : a.eval s = v) (ho : w.ownsRow base e size v n xs) (B : Nat) (A : Option Addr) (m c : Nat) (news : List Value) (hx : a.eval x = .slice A m c) (hr : Rd w B A m size news)
  (h1 : ∀ u ∈ news, u.oneCell' = true) (h63 : n + m ≤ maxLen) (hb : (n + m) * bytes ≤ 140737488355328) (hbase : base ≤ w.heap.size)
  (hK : ∀ v' w', w'.ownsRow base e size v' (n + m) (xs ++ news) → w.grownBy w' v.ownBlock → K (a.put o.dst v') w') :
  if Region.wanted o (yielded ops a.tmps) = true then Oper.wp P o a w K Q else E := by
 have hw : Region.wanted o (yielded ops a.tmps) = true := by simp [Region.wanted, hgd]
 rw [if_pos hw]
 obtain ⟨v', w', r1, r2, r3⟩ := app_run (P := P) (w := w) (ty := o.type) (c := c) ht hi hz hs hby hzs hp ho hr h1 h63 hb hbase
 unfold Oper.wp execOp
 simp only [hop, resolve, invoke, builtin, Sem.run_bind, Sem.run_pure, Result.andThen_ok, List.map_toArray, List.map_cons, List.map_nil, hv, hx, r1]
 exact hK v' w' r2 r3
theorem inf39 : (Tryz.prog.info? 215).map (fun i => (i.zero, i.size, i.bytes)) = some (some (.agg #[.int .i64 0, .int .i64 0, .int .i64 0]), 3, 24) := by kernel_rfl
def RdI (w : World) (A : Option Addr) (n : Nat) (l : List It) : Prop := l.length = n ∧ Rd w w.heap.size A n 3 (iV l)
theorem RdI.later {w w' : World} {A : Option Addr} {n : Nat} {l : List It} (h : RdI w A n l) (hb : Below w.heap.size w w') : RdI w' A n l := ⟨h.1, h.2.later hb⟩
theorem RdI.nil (w : World) (A : Option Addr) : RdI w A 0 [] := ⟨rfl, Rd.nil _ _ _ _⟩
theorem RdI.cells {w : World} {A : Option Addr} {n : Nat} {l : List It} (h : RdI w A n l) (h0 : 0 < n) : ∃ b off, A = some ⟨b, off, none⟩ ∧ b < w.heap.size ∧
  ∀ i x, l[i]? = some x → w.cell? ⟨b, off + i * 3, none⟩ = some (.int .i64 x.id) ∧ w.cell? ⟨b, off + i * 3 + 1, none⟩ = some (.int .i64 x.w) ∧ w.cell? ⟨b, off + i * 3 + 2, none⟩ = some (.int .i64 x.s) := by
 obtain ⟨b, off, e, hl, hc⟩ := Rd.at eI_len h.2 h0
 exact ⟨b, off, e, hl, fun i x hx => ⟨hc i x hx 0 (by omega) _ rfl, hc i x hx 1 (by omega) _ rfl, hc i x hx 2 (by omega) _ rfl⟩⟩
theorem Rd.one (w : World) (x : It) (N : Nat) (h : N = w.heap.size) : Rd (w.alloc (.cells #[.int .i64 x.id, .int .i64 x.w, .int .i64 x.s] 215)) (w.alloc (.cells #[.int .i64 x.id, .int .i64 x.w, .int .i64 x.s] 215)).heap.size (some ⟨N, 0, none⟩) 1 3 (iV [x]) := by
 subst h
 exact Rd.new w #[.int .i64 x.id, .int .i64 x.w, .int .i64 x.s] 1 3 215 rfl
theorem heap_e1 (w : World) : (w.alloc (.cells #[] 215)).heap[w.heap.size]? = some (.cells #[] 215 (0, 0)) := heap_alloc_new _ _
theorem heap_e2 (w : World) (o : Obj) : ((w.alloc (.cells #[] 215)).alloc o).heap[w.heap.size]? = some (.cells #[] 215 (0, 0)) := (Below.heap_alloc _ _ _ (by simp)).trans (heap_alloc_new _ _)
theorem heap_e3 (w : World) (o : Obj) : ((w.alloc o).alloc (.cells #[] 215)).heap[w.heap.size + 1]? = some (.cells #[] 215 (0, 0)) := by
 have := heap_alloc_new (w.alloc o) (.cells #[] 215)
 rw [World.size_alloc] at this
 exact this
theorem own_e {wx : World} {base N : Nat} (hN : wx.heap[N]? = some (.cells #[] 215 (0, 0))) (h : base ≤ N) : wx.ownsRow base 215 3 (.slice (some ⟨N, 0, none⟩) 0 0) 0 [] :=
 ⟨rfl, .inr ⟨N, 0, #[], rfl, h, hN, Nat.le_refl _, by unfold maxLen; omega, rfl, rfl⟩⟩
section
variable {w2 wx : World} {ops : Array Oper} {o : Oper} {a : Act} {K : Act → World → Prop} {Q : Exit → Act → World → Prop} {E : Prop}
theorem step_copy (hgd : o.guard = none) (s x : Operand) (hop : o.op = .call { callee := .builtin .append, args := #[s, x], argTypes := #[61, 61] })
  (N : Nat) (A : Option Addr) (m c : Nat) (l : List It) (hv : a.eval s = .slice (some ⟨N, 0, none⟩) 0 0) (hx : a.eval x = .slice A m c)
  (hN : wx.heap[N]? = some (.cells #[] 215 (0, 0))) (hle : w2.heap.size ≤ N) (hb : Below w2.heap.size w2 wx) (hr : RdI w2 A m l) (hm : m ≤ 1000)
  (hK : ∀ v' w', w'.ownsRow w2.heap.size 215 3 v' m (iV l) → Below w2.heap.size w2 w' → wx.grownBy w' (some N) → K (a.put o.dst v') w') :
  if Region.wanted o (yielded ops a.tmps) = true then Oper.wp Tryz.prog o a wx K Q else E := by
 obtain ⟨i0, hi, hz0, hz1, hz2⟩ := info_parts inf39
 have hE := own_e hN hle
 refine step_app hgd s x 61 hop w2.heap.size 215 3 24 i0 _ Tryz.underlying61 hi hz0 hz1 hz2 rfl (by decide) _ 0 [] hv hE _ A m c (iV l) hx (hr.later hb).2 (iV_one _) (by unfold maxLen; omega) (by omega) hb.size fun v' w' ho hg => ?_
 rw [Nat.zero_add, List.nil_append] at ho
 exact hK v' w' ho (below_app hb (Nat.le_refl _) hb.size hE hg) hg
theorem step_more (hgd : o.guard = none) (s x : Operand) (hop : o.op = .call { callee := .builtin .append, args := #[s, x], argTypes := #[61, 61] })
  (v : Value) (A : Option Addr) (n m c : Nat) (l l' : List It) (hv : a.eval s = v) (hx : a.eval x = .slice A m c)
  (ho : wx.ownsRow w2.heap.size 215 3 v n (iV l)) (hb : Below w2.heap.size w2 wx) (hr : RdI wx A m l') (hn : n ≤ 1000) (hm : m ≤ 1000)
  (hK : ∀ v' w', w'.ownsRow w2.heap.size 215 3 v' (n + m) (iV (l ++ l')) → Below w2.heap.size w2 w' → K (a.put o.dst v') w') :
  if Region.wanted o (yielded ops a.tmps) = true then Oper.wp Tryz.prog o a wx K Q else E := by
 obtain ⟨i0, hi, hz0, hz1, hz2⟩ := info_parts inf39
 refine step_app hgd s x 61 hop w2.heap.size 215 3 24 i0 _ Tryz.underlying61 hi hz0 hz1 hz2 rfl (by decide) _ n (iV l) hv ho _ A m c (iV l') hx hr.2 (iV_one _) (by unfold maxLen; omega) (by omega) hb.size fun v' w' ho' hg => ?_
 rw [iV_app] at ho'
 exact hK v' w' ho' (below_app hb (Nat.le_refl _) hb.size ho hg)
end
theorem rd_one (w : World) (x : It) : RdI (w.alloc (.cells #[.int .i64 x.id, .int .i64 x.w, .int .i64 x.s] 215)) (some ⟨w.heap.size, 0, none⟩) 1 [x] := ⟨rfl, Rd.one w x _ rfl⟩
theorem rd_blk {w : World} {N : Nat} {x : It} (h : w.heap[N]? = some (.cells #[.int .i64 x.id, .int .i64 x.w, .int .i64 x.s] 215 (0, 0))) : RdI w (some ⟨N, 0, none⟩) 1 [x] := by
 refine ⟨rfl, rfl, fun _ => ⟨N, 0, rfl, lt_of_blk h, fun j u hu => ?_⟩⟩
 rw [Nat.zero_add, cell_of_row w N j _ _ _ h]
 simpa [iV, eI] using hu
theorem heap_w2 (w : World) (o o2 : Obj) : ((w.alloc o).alloc o2).heap[w.heap.size]? = some o := (Below.heap_alloc _ _ _ (by simp)).trans (heap_alloc_new _ _)
theorem heap_w3 (w : World) (o o2 : Obj) : ((w.alloc o).alloc o2).heap[w.heap.size + 1]? = some o2 := by
 have := heap_alloc_new (w.alloc o) o2
 rw [World.size_alloc] at this
 exact this
theorem kept {w w' : World} {N k : Nat} {o : Obj} (hg : w.grownBy w' (some N)) (hk : w.heap[k]? = some o) (hne : k ≠ N) : w'.heap[k]? = some o := (hg.block k (lt_of_blk hk) (fun e => hne (by cases e; rfl))).trans hk
end Go.Proofs.YtdpapnfjpefhkaaGreat
namespace Go.Proofs.YtdpapnfjpefhkaaGreat
open Go.RowKit
set_option linter.unusedVariables false
set_option maxRecDepth 100000
def Wn (w : World) (base : Nat) (A : Option Addr) (n c : Nat) (l : List It) : Prop :=
 l.length = n ∧ n ≤ c ∧ c ≤ 9223372036854775807 ∧ (0 < n → ∃ g off cur, A = some ⟨g, off, none⟩ ∧ base ≤ g ∧ w.heap[g]? = some (.cells cur 215 (0, 0)) ∧ ∀ j u, (iV l)[j]? = some u → w.cell? ⟨g, off + j, none⟩ = some u)
def Fmm (A : Option Addr) (c : Nat) : Prop := (A = none ∧ c = 0) ∨ ∃ g off, A = some ⟨g, off, none⟩
section
variable {w w' : World} {base n c k g off : Nat} {A : Option Addr} {l : List It}
theorem Wn.nil (w : World) (base : Nat) (A : Option Addr) (c : Nat) (hc : c ≤ 9223372036854775807) : Wn w base A 0 c [] := ⟨rfl, Nat.zero_le _, hc, fun h => absurd h (by omega)⟩
theorem Wn.keep (h : Wn w base A n c l) (hb : ∀ g cur, base ≤ g → w.heap[g]? = some (.cells cur 215 (0, 0)) → w'.heap[g]? = some (.cells cur 215 (0, 0))) : Wn w' base A n c l :=
 ⟨h.1, h.2.1, h.2.2.1, fun h0 => by
  obtain ⟨g, off, cur, e, hg, hc, hr⟩ := h.2.2.2 h0
  have h1 := hb g _ hg hc
  exact ⟨g, off, cur, e, hg, h1, fun j u hu => (cell_blk (h1.trans hc.symm) _).trans (hr j u hu)⟩⟩
theorem Wn.later (h : Wn w base A n c l) (hb : Below w.heap.size w w') : Wn w' base A n c l := h.keep fun g cur _ hg => (hb.block g (lt_of_blk hg)).trans hg
theorem Wn.rd (h : Wn w base A n c l) : RdI w A n l :=
 ⟨h.1, by rw [iV_len, h.1], fun h0 => by
  obtain ⟨g, off, cur, e, hg, hc, hr⟩ := h.2.2.2 h0
  exact ⟨g, off, e, lt_of_blk hc, hr⟩⟩
theorem Wn.of_own {v : Value} (hn : l.length = n) (h : w.ownsRow base 215 3 v n (iV l)) : ∃ A c, v = .slice A n c ∧ Wn w base A n c l ∧ Fmm A c := by
 have hh := h
 rcases h.2 with ⟨rfl, rfl⟩ | ⟨g, cap, cur, rfl, hg, hc, hle, hc2, _⟩
 · exact ⟨none, 0, rfl, ⟨hn, Nat.le_refl _, by omega, fun h => absurd h (by omega)⟩, .inl ⟨rfl, rfl⟩⟩
 · refine ⟨_, cap, rfl, ⟨hn, hle, hc2, fun _ => ⟨g, 0, cur, rfl, hg, hc, fun j u hu => by
   have hj : j < (iV l).length := (List.getElem?_eq_some_iff.1 hu).1
   rw [iV_len, hn] at hj
   rw [Nat.zero_add, hh.cellAt j hj]; exact hu⟩⟩, .inr ⟨g, 0, rfl⟩⟩
theorem iV_pre (l : List It) (k : Nat) : ∀ (j : Nat) (u : Value), (iV (l.take k))[j]? = some u → (iV l)[j]? = some u := by
 intro j u hu
 have e : iV l = iV (l.take k) ++ iV (l.drop k) := by rw [iV_app, List.take_append_drop]
 rw [e, List.getElem?_append_left (List.getElem?_eq_some_iff.1 hu).1]; exact hu
theorem iV_suf (l : List It) (k : Nat) (hk : k ≤ l.length) : ∀ (j : Nat) (u : Value), (iV (l.drop k))[j]? = some u → (iV l)[k * 3 + j]? = some u := by
 intro j u hu
 have e : iV l = iV (l.take k) ++ iV (l.drop k) := by rw [iV_app, List.take_append_drop]
 have h2 : (iV (l.take k)).length = k * 3 := by rw [iV_len, List.length_take]; congr 1; omega
 rw [e, List.getElem?_append_right (by omega), h2, Nat.add_sub_cancel_left]; exact hu
theorem Wn.take (h : Wn w base A n c l) (hk : k ≤ n) : Wn w base A k c (l.take k) :=
 ⟨by rw [List.length_take, h.1]; omega, by have := h.2.1; omega, h.2.2.1, fun h0 => by
  obtain ⟨g, off, cur, e, hg, hc, hr⟩ := h.2.2.2 (by omega)
  exact ⟨g, off, cur, e, hg, hc, fun j u hu => hr j u (iV_pre _ _ _ _ hu)⟩⟩
theorem Wn.drop (h : Wn w base (some ⟨g, off, none⟩) n c l) (hk : k ≤ n) : Wn w base (some ⟨g, off + k * 3, none⟩) (n - k) (c - k) (l.drop k) :=
 ⟨by rw [List.length_drop, h.1], by have := h.2.1; omega, by have := h.2.2.1; omega, fun h0 => by
  obtain ⟨g', off', cur, e, hg, hc, hr⟩ := h.2.2.2 (by omega)
  cases e
  exact ⟨g, _, cur, rfl, hg, hc, fun j u hu => by rw [Nat.add_assoc]; exact hr _ u (iV_suf l k (by rw [h.1]; exact hk) j u hu)⟩⟩
theorem Wn.cells (h : Wn w base A n c l) (h0 : 0 < n) : ∃ g off, A = some ⟨g, off, none⟩ ∧ base ≤ g ∧ g < w.heap.size ∧
  ∀ i x, l[i]? = some x → w.cell? ⟨g, off + i * 3, none⟩ = some (.int .i64 x.id) ∧ w.cell? ⟨g, off + i * 3 + 1, none⟩ = some (.int .i64 x.w) ∧ w.cell? ⟨g, off + i * 3 + 2, none⟩ = some (.int .i64 x.s) := by
 obtain ⟨g, off, e, h1, h2⟩ := h.rd.cells h0
 obtain ⟨g', off', cur, e', hg, _⟩ := h.2.2.2 h0
 rw [e] at e'; cases e'
 exact ⟨g, off, e, hg, h1, h2⟩
end
structure MX (Rx : List Value) (Ty : TypeId) (B : Nat) (w : World) (m n : Nat) (A : Option Addr) (c : Nat) (S : List It) : Prop where
 hb : w.heap[m]? = some (.cells (Value.slice A S.length c :: .int .i64 n :: Rx).toArray Ty (0, 0))
 wn : Wn w B A S.length c S
 lo : B ≤ m
 nn : Fmm A c
 ty : Ty ≠ 215 ∧ Ty ≠ 228 ∧ Ty ≠ 203
def MH (Rx : List Value) (Ty : TypeId) (B : Nat) (w : World) (m n : Nat) (S : List It) : Prop := ∃ A c, MX Rx Ty B w m n A c S
theorem set_zero (a : Value) (l : List Value) (v : Value) : (a :: l).toArray.setIfInBounds 0 v = (v :: l).toArray := by simp
theorem set_one (a b : Value) (l : List Value) (v : Value) : (a :: b :: l).toArray.setIfInBounds 1 v = (a :: v :: l).toArray := by simp
structure Km (m : Nat) (w w' : World) : Prop where
 os : w'.os = w.os
 tape : w'.tape = w.tape
 output : w'.output = w.output
 size : w.heap.size ≤ w'.heap.size
 block : ∀ k, k < w.heap.size → k ≠ m → w'.heap[k]? = w.heap[k]?
section
variable {Rx : List Value} {Ty : TypeId} {B m n c : Nat} {w w' w'' : World} {A : Option Addr} {S : List It}
theorem Km.of_below (h : Below w.heap.size w w') : Km m w w' := ⟨h.os, h.tape, h.output, h.size, fun k hk _ => h.block k hk⟩
theorem Km.refl (m : Nat) (w : World) : Km m w w := Km.of_below (Below.refl _ _)
theorem Km.trans (h : Km m w w') (k : Km m w' w'') : Km m w w'' := by
 have h0 := h.size
 exact ⟨k.os.trans h.os, k.tape.trans h.tape, k.output.trans h.output, Nat.le_trans h.size k.size, fun i h1 h2 => (k.block i (by omega) h2).trans (h.block i h1 h2)⟩
theorem Km.set (h : Km m w w') (j : Nat) (v : Value) : Km m w (w'.setCell ⟨m, j, none⟩ v) :=
 ⟨h.os, h.tape, h.output, by rw [show (w'.setCell ⟨m, j, none⟩ v).heap.size = w'.heap.size by simp [World.setCell]]; exact h.size, fun k h1 h2 => (Below.heap_setCell _ _ _ _ (by exact h2)).trans (h.block k h1 h2)⟩
theorem Km.below (h : Km m w w') (hB : B ≤ m) (hs : B ≤ w.heap.size) : Below B w w' := ⟨h.os, h.tape, h.output, h.size, fun k hk => h.block k (by omega) (by omega)⟩
theorem MX.c0 (h : MX Rx Ty B w m n A c S) : w.cell? ⟨m, 0, none⟩ = some (.slice A S.length c) := by rw [cell_of_row w m 0 _ _ _ h.hb]; rfl
theorem MX.c1 (h : MX Rx Ty B w m n A c S) : w.cell? ⟨m, 1, none⟩ = some (.int .i64 n) := by rw [cell_of_row w m 1 _ _ _ h.hb]; rfl
theorem MX.fz (h : MX Rx Ty B w m n A c S) (i : Nat) : w.frozen? ⟨m, i, none⟩ = false := frozen_of_row w m i _ _ h.hb
theorem MX.lt (h : MX Rx Ty B w m n A c S) : m < w.heap.size := lt_of_blk h.hb
theorem MX.later (h : MX Rx Ty B w m n A c S) (hb : Below w.heap.size w w') : MX Rx Ty B w' m n A c S := ⟨(hb.block m h.lt).trans h.hb, h.wn.later hb, h.lo, h.nn, h.ty⟩
theorem MH.later (h : MH Rx Ty B w m n S) (hb : Below w.heap.size w w') : MH Rx Ty B w' m n S := by obtain ⟨A, c, h⟩ := h; exact ⟨A, c, h.later hb⟩
theorem MH.lt (h : MH Rx Ty B w m n S) : m < w.heap.size := by obtain ⟨A, c, h⟩ := h; exact h.lt
theorem MH.hb (h : MH Rx Ty B w m n S) : ∃ cs, w.heap[m]? = some (.cells cs Ty (0, 0)) := by obtain ⟨A, c, h⟩ := h; exact ⟨_, h.hb⟩
theorem MX.turn (h : MX Rx Ty B w m n A c S) (n' : Nat) : MX Rx Ty B (w.setCell ⟨m, 1, none⟩ (.int .i64 n')) m n' A c S :=
 ⟨by rw [heap_setCell_same _ m 1 _ _ _ h.hb, set_one], h.wn.keep fun g cur _ hg => (Below.heap_setCell _ _ _ _ (by rintro rfl; rw [h.hb] at hg; injection hg with hg; injection hg with _ hg _; exact h.ty.1 hg)).trans hg, h.lo, h.nn, h.ty⟩
theorem MX.other {S' : List It} {A' : Option Addr} {c' : Nat} (h : MX Rx Ty B w m n A c S) (r : Wn w B A' S'.length c' S') (hn : Fmm A' c') : MX Rx Ty B (w.setCell ⟨m, 0, none⟩ (.slice A' S'.length c')) m n A' c' S' :=
 ⟨by rw [heap_setCell_same _ m 0 _ _ _ h.hb, set_zero], r.keep fun g cur _ hg => (Below.heap_setCell _ _ _ _ (by rintro rfl; rw [h.hb] at hg; injection hg with hg; injection hg with _ hg _; exact h.ty.1 hg)).trans hg, h.lo, hn, h.ty⟩
def Frs (m : Nat) (w w' : World) : Prop := (∀ A n c, w'.cell? ⟨m, 0, none⟩ = some (.slice A n c) → 0 < n → ∀ k, blk A = some k → w.heap.size ≤ k) ∨ w'.cell? ⟨m, 0, none⟩ = w.cell? ⟨m, 0, none⟩
def MR (Rx : List Value) (Ty : TypeId) (B m n : Nat) (S : List It) (v : Value) (w : World) (e : Ending) (w' : World) : Prop := e = .returned v ∧ MH Rx Ty B w' m n S ∧ Km m w w' ∧ Frs m w w'
set_option maxHeartbeats 4000000 in
theorem rfind_no {k : Int} (h : MH Rx Ty B w m n S) (hk : k ∉ ids S) (hl : S.length ≤ 1000) : Calls Tryz.prog 126 #[.pointer (some ⟨m, 0, none⟩), .int .i64 k] w fun e w' => e = .returned (.int .i64 (-1)) ∧ w = w' := by
 obtain ⟨A, c, hx⟩ := h
 have HX := Lib.hid hx
 have HN := Lib.hid hk
 have c0 := hx.c0
 clear hx hk
 go_enter Tryz.func126, Tryz.ntmps126
 go_wp2_with fail
 go_loopw [5] (fun i wr => ∃ j : Nat, j ≤ S.length ∧ i = .int .i64 j ∧ wr = w) (fun i _ => S.length - (intOf i).toNat)
 case atStart => exact ⟨0, by omega, rfl, rfl⟩
 case round =>
  obtain ⟨j, hj, rfl, rfl⟩ := hrel
  by_cases hlt : j < S.length
  · obtain ⟨x, hxj⟩ := ex_at hlt
    obtain ⟨g, off, rfl, hg, hgs, hc⟩ := HX.out.wn.cells (by omega)
    obtain ⟨x0, -, -⟩ := hc j x hxj
    have k1 : (j : Int) < (S.length : Int) := by omega
    have k2 : ¬ x.id = k := fun e => HN.out (by rw [← e]; exact mem_ids (at_mem hxj))
    have b1 : IntKind.i64.wrap ((j : Int) + 1) = (j : Int) + 1 := by rw [IntKind.wrap_i64]; omega
    clear hc hxj
    go_wp2_with fail
    go_roundw
    case rel => exact ⟨j + 1, by omega, by go_num, by first | rfl | trivial⟩
    case measure => simp [intOf]; omega
  · obtain rfl : j = S.length := by omega
    have k1 : ¬ (S.length : Int) < (S.length : Int) := by omega
    go_wp2_with fail
    go_ret
    exact ⟨rfl, rfl⟩
set_option maxHeartbeats 4000000 in
theorem rfind_yes {p : Nat} {x : It} (h : MH Rx Ty B w m n S) (hn : (ids S).Nodup) (hp : S[p]? = some x) (hl : S.length ≤ 1000) : Calls Tryz.prog 126 #[.pointer (some ⟨m, 0, none⟩), .int .i64 x.id] w fun e w' => e = .returned (.int .i64 (p : Int)) ∧ w = w' := by
 obtain ⟨A, c, hx⟩ := h
 have HX := Lib.hid hx
 have HN := Lib.hid (And.intro hn hp)
 have c0 := hx.c0
 have hpl := at_lt hp
 generalize hk : x.id = k at *
 have HK := Lib.hid hk
 clear hx hn hp hk
 go_enter Tryz.func126, Tryz.ntmps126
 go_wp2_with fail
 go_loopw [5] (fun i wr => ∃ j : Nat, j ≤ p ∧ i = .int .i64 j ∧ wr = w) (fun i _ => S.length - (intOf i).toNat)
 case atStart => exact ⟨0, by omega, rfl, rfl⟩
 case round =>
  obtain ⟨j, hj, rfl, rfl⟩ := hrel
  have hlt : j < S.length := by omega
  obtain ⟨y, hyj⟩ := ex_at hlt
  obtain ⟨g, off, rfl, hg, hgs, hc⟩ := HX.out.wn.cells (by omega)
  obtain ⟨x0, -, -⟩ := hc j y hyj
  have k1 : (j : Int) < (S.length : Int) := by omega
  have b1 : IntKind.i64.wrap ((j : Int) + 1) = (j : Int) + 1 := by rw [IntKind.wrap_i64]; omega
  by_cases hjp : j = p
  · subst hjp
    have e : y = x := by have h1 := HN.out.2; rw [hyj] at h1; injection h1
    have k2 : y.id = k := by rw [e]; exact HK.out
    clear hc hyj e
    go_wp2_with fail
    go_ret
    exact ⟨rfl, rfl⟩
  · have k2 : ¬ y.id = k := fun e => hjp (ids_inj HN.out.1 hyj HN.out.2 (e.trans HK.out.symm))
    clear hc hyj
    go_wp2_with fail
    go_roundw
    case rel => exact ⟨j + 1, by omega, by go_num, by first | rfl | trivial⟩
    case measure => simp [intOf]; omega
end
end Go.Proofs.YtdpapnfjpefhkaaGreat
