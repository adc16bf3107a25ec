/- Slices that read as a row of waits; append onto a row of the call's own. No condition. -/
import Derived.Test.YtdpapnfjpefhkaaGreatCChnm
import Derived.Maps.AppendAt
namespace Go.Proofs.YtdpapnfjpefhkaaGreat.Ch
open Go.RowKit
set_option linter.unusedVariables false
set_option maxRecDepth 100000
def Rd (w : World) (B : Nat) (A : Option Addr) (n s : Nat) (xs : List Value) : Prop :=
 xs.length = n * s ∧ (0 < n → ∃ b off, A = some ⟨b, off, none⟩ ∧ b < B ∧ ∀ j u, xs[j]? = some u → w.cell? ⟨b, off + j, none⟩ = some u)
theorem Rd.keep {w w' : World} {B B' : Nat} {A : Option Addr} {n s : Nat} {xs : List Value} (h : Rd w B A n s xs) (hB : B ≤ B') (hb : ∀ b, b < B → w'.heap[b]? = w.heap[b]?) : Rd w' B' A n s xs :=
 ⟨h.1, fun h0 => by
  obtain ⟨b, off, e, hl, hc⟩ := h.2 h0
  exact ⟨b, off, e, by omega, fun j u hu => (cell_blk (hb b hl) _).trans (hc j u hu)⟩⟩
theorem Rd.later {w w' : World} {A : Option Addr} {n s : Nat} {xs : List Value} (h : Rd w w.heap.size A n s xs) (hb : Below w.heap.size w w') : Rd w' w'.heap.size A n s xs :=
 h.keep hb.size fun b hl => hb.block b hl
theorem Rd.nil (w : World) (B s : Nat) (A : Option Addr) : Rd w B A 0 s [] := ⟨by simp, fun h => absurd h (by omega)⟩
theorem Rd.of_own {w : World} {base e s n c : Nat} {A : Option Addr} {xs : List Value} (h : w.ownsRow base e s (.slice A n c) n xs) : Rd w w.heap.size A n s xs := by
 refine ⟨h.1, fun hn => ?_⟩
 obtain ⟨g, cap, hv, _, hlt⟩ := h.form hn
 have hA : A = some ⟨g, 0, none⟩ := by injection hv
 subst hA
 exact ⟨g, 0, rfl, hlt, fun j u hu => by rw [Nat.zero_add, h.cellAt j (by rw [← h.1]; exact (List.getElem?_eq_some_iff.1 hu).1)]; exact hu⟩
theorem Rd.new (w : World) (cs : Array Value) (n s : Nat) (t : TypeId) (h : cs.size = n * s) : Rd (w.alloc (.cells cs t)) (w.alloc (.cells cs t)).heap.size (some ⟨w.heap.size, 0, none⟩) n s cs.toList := by
 refine ⟨by simpa using h, fun _ => ⟨w.heap.size, 0, rfl, by simp, fun j u hu => ?_⟩⟩
 rw [Nat.zero_add, World.cell?_alloc_at _ _ _ _ rfl]
 simpa using hu
theorem flat_len {α : Type} (f : α → List Value) (s : Nat) (hs : ∀ x, (f x).length = s) : ∀ l : List α, (l.flatMap f).length = l.length * s
 | [] => by simp
 | a :: l => by rw [List.flatMap_cons, List.length_append, hs, flat_len f s hs l, List.length_cons]; rw [Nat.add_mul]; omega
theorem flat_at {α : Type} (f : α → List Value) (s : Nat) (hs : ∀ x, (f x).length = s) : ∀ (l : List α) (i : Nat) (x : α), l[i]? = some x → ∀ j, j < s → (l.flatMap f)[i * s + j]? = (f x)[j]?
 | [], i, x, h, _, _ => by simp at h
 | a :: l, 0, x, h, j, hj => by
  simp at h; subst h
  rw [List.flatMap_cons, Nat.zero_mul, Nat.zero_add, List.getElem?_append_left (by rw [hs]; exact hj)]
 | a :: l, i + 1, x, h, j, hj => by
  rw [List.flatMap_cons, List.getElem?_append_right (by rw [hs, Nat.add_mul]; omega), hs, ← flat_at f s hs l i x (by simpa using h) j hj]
  congr 1
  rw [Nat.add_mul]; omega
theorem flat_mem {α : Type} (f : α → List Value) (s : Nat) (hs : ∀ x, (f x).length = s) (h0 : 0 < s) (l : List α) (j : Nat) (u : Value) (hu : (l.flatMap f)[j]? = some u) : ∃ i k x, j = i * s + k ∧ k < s ∧ l[i]? = some x ∧ (f x)[k]? = some u := by
 have hj : j < l.length * s := by rw [← flat_len f s hs]; exact (List.getElem?_eq_some_iff.1 hu).1
 have hi : j / s < l.length := Nat.div_lt_of_lt_mul (by rw [Nat.mul_comm]; exact hj)
 have hk : j % s < s := Nat.mod_lt _ h0
 have ej : j = j / s * s + j % s := by rw [Nat.mul_comm]; exact (Nat.div_add_mod j s).symm
 refine ⟨j / s, j % s, l[j / s]'hi, ej, hk, List.getElem?_eq_getElem hi, ?_⟩
 rw [← flat_at f s hs l _ _ (List.getElem?_eq_getElem hi) _ hk, ← ej]; exact hu
theorem Rd.mk {α : Type} {f : α → List Value} {w : World} {b off n s : Nat} {l : List α} (hs : ∀ x, (f x).length = s) (h0 : 0 < s) (hn : l.length = n) (hb : b < w.heap.size)
  (h : ∀ i x, l[i]? = some x → ∀ k u, (f x)[k]? = some u → w.cell? ⟨b, off + i * s + k, none⟩ = some u) : Rd w w.heap.size (some ⟨b, off, none⟩) n s (l.flatMap f) := by
 refine ⟨by rw [flat_len f s hs, hn], fun _ => ⟨b, off, rfl, hb, fun j u hu => ?_⟩⟩
 obtain ⟨i, k, x, rfl, _, hx, hk⟩ := flat_mem f s hs h0 l j u hu
 rw [← Nat.add_assoc]
 exact h i x hx k u hk
theorem Rd.at {α : Type} {f : α → List Value} {w : World} {B n s : Nat} {A : Option Addr} {l : List α} (hs : ∀ x, (f x).length = s) (h : Rd w B A n s (l.flatMap f)) (h0 : 0 < n) :
  ∃ b off, A = some ⟨b, off, none⟩ ∧ b < B ∧ ∀ i x, l[i]? = some x → ∀ j, j < s → ∀ u, (f x)[j]? = some u → w.cell? ⟨b, off + i * s + j, none⟩ = some u := by
 obtain ⟨b, off, e, hl, hc⟩ := h.2 h0
 refine ⟨b, off, e, hl, fun i x hx j hj u hu => ?_⟩
 rw [Nat.add_assoc]
 exact hc _ _ ((flat_at f s hs l i x hx j hj).trans hu)
theorem own_cap {w : World} {base : Nat} {e : TypeId} {size n : Nat} {v : Value} {xs : List Value} (h : w.ownsRow base e size v n xs) : ∃ a c, v = .slice a n c ∧ n ≤ c ∧ c ≤ 9223372036854775807 := by
 rcases h.2 with ⟨rfl, rfl⟩ | ⟨g, cap, cur, rfl, _, _, h1, h2, _⟩
 · exact ⟨none, 0, rfl, by omega, by omega⟩
 · exact ⟨_, _, rfl, h1, h2⟩
section
variable {P : Program} {w : World}
theorem app_nil {base t ty e size n c : Nat} {i : TypeInfo} {v : Value} {xs : List Value} (ht : P.underlying t = some (.slice e)) (hi : P.info? e = some i) (ho : w.ownsRow base e size v n xs) : (Builtin.append_ #[t, t] ty #[v, .slice none 0 c]).run P w = .ok v w := by
 rcases ho.2 with ⟨rfl, rfl⟩ | ⟨g, cap, cur, rfl, _, _, hc, _⟩ <;> simp [Builtin.append_, run_underlying ht, sizeOf, typeInfo, Builtin.lenOf, Builtin.firstCells, storeCells, *]
theorem app_run {base t ty e size bytes n m c B : Nat} {i : TypeInfo} {z v : Value} {xs news : List Value} {A : Option Addr} (ht : P.underlying t = some (.slice e)) (hi : P.info? e = some i) (hz : i.zero = some z) (hs : i.size = size) (hby : i.bytes = bytes)
  (hzs : z.cells.size = size) (hp : 0 < size) (ho : w.ownsRow base e size v n xs) (hr : Rd w B A m size news) (h1 : ∀ u ∈ news, u.oneCell' = true) (h63 : n + m ≤ maxLen) (hb : (n + m) * bytes ≤ 140737488355328) (hbase : base ≤ w.heap.size) :
  ∃ v' w', (Builtin.append_ #[t, t] ty #[v, .slice A m c]).run P w = .ok v' w' ∧ w'.ownsRow base e size v' (n + m) (xs ++ news) ∧ w.grownBy w' v.ownBlock := by
 rcases Nat.eq_zero_or_pos m with h0 | h0
 · subst h0
   have hn : news = [] := List.eq_nil_of_length_eq_zero (by rw [hr.1, Nat.zero_mul])
   subst hn
   cases A with
   | none => exact ⟨v, w, app_nil ht hi ho, by rw [Nat.add_zero, List.append_nil]; exact ho, World.grownBy.refl _ _⟩
   | some a =>
    obtain ⟨v', w', r1, r2, r3, _⟩ := run_append_own_at (P := P) w base t ty e i z size bytes ht hi hz hs hby hzs hp v n xs ho a 0 c [] (by simp) (fun j u hu => by simp at hu) h1 h63 hb hbase
    exact ⟨v', w', r1, r2, r3⟩
 · obtain ⟨b, off, rfl, _, hc⟩ := hr.2 h0
   have hc' : ∀ j u, news[j]? = some u → w.cell? ((⟨b, off, none⟩ : Addr).add j) = some u := fun j u hu => by
    have h9 : (⟨b, off, none⟩ : Addr).add j = ⟨b, off + j, none⟩ := by unfold Addr.add; split <;> simp_all
    rw [h9]; exact hc j u hu
   obtain ⟨v', w', r1, r2, r3, _⟩ := run_append_own_at (P := P) w base t ty e i z size bytes ht hi hz hs hby hzs hp v n xs ho _ m c news hr.1 hc' h1 h63 hb hbase
   exact ⟨v', w', r1, r2, r3⟩
theorem app_wp {ops : Array Oper} {rest : List Oper} {o : Oper} {a : Act} {Q : Exit → Act → World → Prop} (hgd : o.guard = none) (s x : Operand) (t : TypeId) (hop : o.op = .call { callee := .builtin .append, args := #[s, x], argTypes := #[t, t] })
  (base e size bytes : Nat) (i : TypeInfo) (z : Value) (ht : P.underlying t = some (.slice e)) (hi : P.info? e = some i) (hz : i.zero = some z) (hs : i.size = size) (hby : i.bytes = bytes) (hzs : z.cells.size = size) (hp : 0 < size)
  (v : Value) (n : Nat) (xs : List Value) (hv : a.eval s = v) (ho : w.ownsRow base e size v n xs) (B : Nat) (A : Option Addr) (m c : Nat) (news : List Value) (hx : a.eval x = .slice A m c) (hr : Rd w B A m size news)
  (h1 : ∀ u ∈ news, u.oneCell' = true) (h63 : n + m ≤ maxLen) (hb : (n + m) * bytes ≤ 140737488355328) (hbase : base ≤ w.heap.size)
  (hK : ∀ v' w', w'.ownsRow base e size v' (n + m) (xs ++ news) → w.grownBy w' v.ownBlock → wpList P ops Q rest (a.put o.dst v') w') : wpList P ops Q (o :: rest) a w := by
 refine wpList_plain hgd fun K hK' => ?_
 obtain ⟨v', w', r1, r2, r3⟩ := app_run (P := P) (w := w) (ty := o.type) (c := c) ht hi hz hs hby hzs hp ho hr h1 h63 hb hbase
 unfold Oper.wp execOp
 simp only [hop, resolve, invoke, builtin, Sem.run_bind, Sem.run_pure, Result.andThen_ok, List.map_toArray, List.map_cons, List.map_nil, hv, hx, r1]
 exact hK' _ _ (hK v' w' r2 r3)
end
theorem below_app {B : Nat} {W w w' : World} {base e size n : Nat} {v : Value} {xs : List Value} (hb : Below B W w) (hB : B ≤ base) (hs : B ≤ w.heap.size) (ho : w.ownsRow base e size v n xs) (hg : w.grownBy w' v.ownBlock) : Below B W w' :=
 hb.grown hg hs (fun k hk => Nat.le_trans hB (ho.lt k hk).1)
theorem step_app {P : Program} {w : World} {ops : Array Oper} {o : Oper} {a : Act} {K : Act → World → Prop} {Q : Exit → Act → World → Prop} {E : Prop} (hgd : o.guard = none) (s x : Operand) (t : TypeId) (hop : o.op = .call { callee := .builtin .append, args := #[s, x], argTypes := #[t, t] })
  (base e size bytes : Nat) (i : TypeInfo) (z : Value) (ht : P.underlying t = some (.slice e)) (hi : P.info? e = some i) (hz : i.zero = some z) (hs : i.size = size) (hby : i.bytes = bytes) (hzs : z.cells.size = size) (hp : 0 < size)
  (v : Value) (n : Nat) (xs : List Value) (hv : a.eval s = v) (ho : w.ownsRow base e size v n xs) (B : Nat) (A : Option Addr) (m c : Nat) (news : List Value) (hx : a.eval x = .slice A m c) (hr : Rd w B A m size news)
  (h1 : ∀ u ∈ news, u.oneCell' = true) (h63 : n + m ≤ maxLen) (hb : (n + m) * bytes ≤ 140737488355328) (hbase : base ≤ w.heap.size)
  (hK : ∀ v' w', w'.ownsRow base e size v' (n + m) (xs ++ news) → w.grownBy w' v.ownBlock → K (a.put o.dst v') w') :
  if Region.wanted o (yielded ops a.tmps) = true then Oper.wp P o a w K Q else E := by
 have hw : Region.wanted o (yielded ops a.tmps) = true := by simp [Region.wanted, hgd]
 rw [if_pos hw]
 obtain ⟨v', w', r1, r2, r3⟩ := app_run (P := P) (w := w) (ty := o.type) (c := c) ht hi hz hs hby hzs hp ho hr h1 h63 hb hbase
 unfold Oper.wp execOp
 simp only [hop, resolve, invoke, builtin, Sem.run_bind, Sem.run_pure, Result.andThen_ok, List.map_toArray, List.map_cons, List.map_nil, hv, hx, r1]
 exact hK v' w' r2 r3
def flW (l : List Wt) : List Value := l.flatMap wV
theorem flW_app (a b : List Wt) : flW (a ++ b) = flW a ++ flW b := by unfold flW; rw [List.flatMap_append]
theorem flW_one (l : List Wt) : ∀ u ∈ flW l, u.oneCell' = true := by
 intro u hu
 unfold flW at hu
 obtain ⟨x, _, hx⟩ := List.mem_flatMap.1 hu
 simp [wV] at hx
 rcases hx with rfl | rfl | rfl <;> rfl
def RdW (w : World) (A : Option Addr) (n : Nat) (l : List Wt) : Prop := l.length = n ∧ Rd w w.heap.size A n 3 (flW l)
theorem RdW.later {w w' : World} {A : Option Addr} {n : Nat} {l : List Wt} (h : RdW w A n l) (hb : Below w.heap.size w w') : RdW w' A n l := ⟨h.1, h.2.later hb⟩
theorem RdW.nil (w : World) (A : Option Addr) : RdW w A 0 [] := ⟨rfl, Rd.nil _ _ _ _⟩
theorem RdW.cells {w : World} {A : Option Addr} {n : Nat} {l : List Wt} (h : RdW w A n l) (h0 : 0 < n) : ∃ b off, A = some ⟨b, off, none⟩ ∧ b < w.heap.size ∧
  ∀ i x, l[i]? = some x → w.cell? ⟨b, off + i * 3, none⟩ = some (.int .i64 x.t) ∧ w.cell? ⟨b, off + i * 3 + 1, none⟩ = some (.int .i64 x.c) ∧ w.cell? ⟨b, off + i * 3 + 2, none⟩ = some (.int .i64 x.v) := by
 obtain ⟨b, off, e, hl, hc⟩ := Rd.at wV_len h.2 h0
 exact ⟨b, off, e, hl, fun i x hx => ⟨hc i x hx 0 (by omega) _ rfl, hc i x hx 1 (by omega) _ rfl, hc i x hx 2 (by omega) _ rfl⟩⟩
theorem RdW.of_row {w : World} {base : Nat} {A : Option Addr} {n c : Nat} {l : List Wt} (hn : l.length = n) (h : w.ownsRow base 103 3 (.slice A n c) n (flW l)) : RdW w A n l := ⟨hn, Rd.of_own h⟩
theorem Rd.one (w : World) (x : Wt) (N : Nat) (h : N = w.heap.size) : Rd (w.alloc (.cells #[.int .i64 x.t, .int .i64 x.c, .int .i64 x.v] 103)) (w.alloc (.cells #[.int .i64 x.t, .int .i64 x.c, .int .i64 x.v] 103)).heap.size (some ⟨N, 0, none⟩) 1 3 (flW [x]) := by
 subst h
 exact Rd.new w #[.int .i64 x.t, .int .i64 x.c, .int .i64 x.v] 1 3 103 rfl
end Go.Proofs.YtdpapnfjpefhkaaGreat.Ch
