/- What the smaller calls of package chanq do: give, Send, Put, Drop, New, Timed, Signal, Len, Cap, Closed, Can. Conditions: each theorem's own premises.
Slices that read as a row of waits; append onto a row of the call's own. No condition.
Send, Put, Drop, New, Timed, Signal, Len, Cap, Closed, Can, Remove. Conditions: each theorem's own premises. -/
import Derived.Test.YtdpapnfjpefhkaaCPshm
import Derived.Maps.AppendAt
import Derived.Deep.RegionHeld3
import Derived.OwnWalk
namespace Go.Proofs.Ytdpapnfjpefhkaa.Ch
open Go.RowKit
set_option linter.unusedVariables false
set_option maxRecDepth 100000

/-- One who is woken. -/
structure Wk where
  t : Int
  c : Int
  v : Int
  ok : Bool
  pn : Bool
def kA (x : Wk) : Array Value := #[.int .i64 x.t, .int .i64 x.c, .int .i64 x.v, .bool x.ok, .bool x.pn]
def RdK (w : World) (A : Option Addr) (n : Nat) (l : List Wk) : Prop := l.length = n ∧ (0 < n → ∃ b cs, A = some ⟨b, 0, none⟩ ∧ w.heap[b]? = some (.cells cs 67 (0, 0)) ∧
  ∀ i x, l[i]? = some x → w.cell? ⟨b, i * 5, none⟩ = some (.int .i64 x.t) ∧ w.cell? ⟨b, i * 5 + 1, none⟩ = some (.int .i64 x.c) ∧ w.cell? ⟨b, i * 5 + 2, none⟩ = some (.int .i64 x.v) ∧ w.cell? ⟨b, i * 5 + 3, none⟩ = some (.bool x.ok) ∧ w.cell? ⟨b, i * 5 + 4, none⟩ = some (.bool x.pn))
theorem RdK.keep {w w' : World} {A : Option Addr} {n : Nat} {l : List Wk} (h : RdK w A n l) (k : ∀ (b : Nat) (cs : Array Value), w.heap[b]? = some (.cells cs 67 (0, 0)) → w'.heap[b]? = w.heap[b]?) : RdK w' A n l :=
  ⟨h.1, fun h0 => by
    obtain ⟨b, cs, e, hb, hc⟩ := h.2 h0
    refine ⟨b, cs, e, (k b cs hb).trans hb, fun i x hx => ?_⟩
    obtain ⟨c0, c1, c2, c3, c4⟩ := hc i x hx
    have hk := k b cs hb
    exact ⟨(cell_blk hk _).trans c0, (cell_blk hk _).trans c1, (cell_blk hk _).trans c2, (cell_blk hk _).trans c3, (cell_blk hk _).trans c4⟩⟩
theorem RdK.later {w w' : World} {A : Option Addr} {n : Nat} {l : List Wk} (h : RdK w A n l) (hb : Below w.heap.size w w') : RdK w' A n l := h.keep fun b cs e => hb.block b (lt_of_blk e)
theorem RdK.go {w w' : World} {A : Option Addr} {n c : Nat} {l : List Wk} {F : Nat → Prop} {s s' : CS} (h : RdK w A n l) (hc : CH w F c s) (g : Go F c s' w w') : RdK w' A n l := h.keep fun b cs e => g.other hc (lt_of_blk e) (not_isc e (by decide))
theorem RdK.nil (w : World) (A : Option Addr) : RdK w A 0 [] := ⟨rfl, fun h => absurd h (by omega)⟩
theorem RdK.one (w : World) (x : Wk) (N : Nat) (hN : N = w.heap.size) : RdK (w.alloc (.cells (kA x) 67)) (some ⟨N, 0, none⟩) 1 [x] := by
  subst hN
  have hb := heap_alloc_new w (.cells (kA x) 67)
  refine ⟨rfl, fun _ => ⟨w.heap.size, _, rfl, hb, fun i y hy => ?_⟩⟩
  have hi : i < [x].length := (List.getElem?_eq_some_iff.1 hy).1
  simp at hi; subst hi
  simp at hy; subst hy
  refine ⟨?_, ?_, ?_, ?_, ?_⟩ <;> (rw [cell_of_row _ _ _ _ _ _ hb]; rfl)

/-- A value is given. -/
def gv (s : CS) (v : Int) : CS × List Wk × Bool := match s.rs with
  | x :: r => ({ s with rs := r }, [⟨x.t, x.c, v, true, false⟩], true)
  | [] => if s.l.length < s.sz then ({ s with l := s.l ++ [v] }, [], true) else (s, [], false)
def GvR (F : Nat → Prop) (c : Nat) (g : CS × List Wk × Bool) (w : World) (e : Ending) (w' : World) : Prop :=
  ∃ A cap, e = .returned (.tuple #[.slice A g.2.1.length cap, .bool g.2.2]) ∧ RdK w' A g.2.1.length g.2.1 ∧ Go F c g.1 w w'
section
variable {w : World} {c : Nat} {F : Nat → Prop} {s : CS}
theorem give_any (v : Int) (h : CH w F c s) (hn : s.rs.length ≤ 1000000) : Calls Try.prog 58 #[.pointer (some ⟨c, 0, none⟩), .int .i64 v] w (GvR F c (gv s v) w) := by
  have HC := Lib.hid h
  cases hr : s.rs with
  | cons x r =>
    have e : gv s v = ({ s with rs := r }, [⟨x.t, x.c, v, true, false⟩], true) := by unfold gv; rw [hr]
    rw [e]
    have hp := ch_pop_some h false hr (by rw [hr] at hn; simp at hn; omega)
    simp only [off] at hp
    replace hp := Lib.hid hp
    have c0 := h.c0
    clear h hr hn e
    go_enter Try.func58, Try.ntmps58
    go_wp2_with fail
    refine hp.out.mono ?_
    rintro e w' ⟨rfl, g⟩
    have G := Lib.hid g
    clear g hp HC
    unfold wG
    go_wp2_with fail
    go_ret2
    refine ⟨some ⟨_, 0, none⟩, 1, rfl, RdK.one _ ⟨x.t, x.c, v, true, false⟩ _ (by simp), (G.out.later (below_al _ _)).later (below_al _ _)⟩
  | nil =>
    have hp := ch_pop_none h false hr
    simp only [off] at hp
    replace hp := Lib.hid hp
    by_cases hl : s.l.length < s.sz
    · have e : gv s v = ({ s with l := s.l ++ [v] }, [], true) := by unfold gv; rw [hr]; simp only; rw [if_pos hl]
      rw [e]
      have HL := Lib.hid hl
      clear h hr hn e hl
      go_enter Try.func58, Try.ntmps58
      go_wp2_with fail
      refine hp.out.mono ?_
      rintro e w1 ⟨rfl, F1, hc1, hs1, t1⟩
      have HC1 := Lib.hid (hc1.later (below_al w1 (.cells #[.int .i64 0, .int .i64 0, .int .i64 0] 65)))
      have HT : Hid (Tn F w (w1.alloc (.cells #[.int .i64 0, .int .i64 0, .int .i64 0] 65))) := t1.later (below_al _ _)
      have HS := Lib.hid hs1
      obtain ⟨V, c2, _, _, _, _, _, hpush, _⟩ := HC1.out.ring
      have HP := Lib.hid (hpush v HL.out)
      clear hpush hc1 hs1 t1 hp HC
      unfold wG
      go_wp2_with fail
      refine HP.out.mono ?_
      rintro e w' ⟨rfl, g⟩
      have G := Lib.hid (Go.comp HT.out HS.out g)
      clear g HP HC1 HT HS c2
      go_wp2_with fail
      go_ret2
      exact ⟨none, 0, rfl, RdK.nil _ _, G.out⟩
    · have e : gv s v = (s, [], false) := by unfold gv; rw [hr]; simp only; rw [if_neg hl]
      rw [e]
      have HL : Hid (s.l.length = s.sz) := by have := h.le; show _ = _; omega
      clear h hr hn e hl
      go_enter Try.func58, Try.ntmps58
      go_wp2_with fail
      refine hp.out.mono ?_
      rintro e w1 ⟨rfl, F1, hc1, hs1, t1⟩
      have HC1 := Lib.hid (hc1.later (below_al w1 (.cells #[.int .i64 0, .int .i64 0, .int .i64 0] 65)))
      have HT : Hid (Tn F w (w1.alloc (.cells #[.int .i64 0, .int .i64 0, .int .i64 0] 65))) := t1.later (below_al _ _)
      have HS := Lib.hid hs1
      obtain ⟨V, c2, _, _, _, _, _, _, hpush⟩ := HC1.out.ring
      have HP := Lib.hid (hpush v HL.out)
      clear hpush hc1 hs1 t1 hp HC
      unfold wG
      go_wp2_with fail
      refine HP.out.mono ?_
      rintro e w' ⟨rfl, g⟩
      have G := Lib.hid (Go.comp HT.out HS.out g)
      clear g HP HC1 HT HS c2
      go_wp2_with fail
      go_ret2
      exact ⟨none, 0, rfl, RdK.nil _ _, G.out⟩
end
end Go.Proofs.Ytdpapnfjpefhkaa.Ch
namespace Go.Proofs.Ytdpapnfjpefhkaa.Ch
open Go.RowKit
set_option linter.unusedVariables false
set_option maxRecDepth 100000

/-- A slice of n elements, s cells each, reads as the row xs, below block B. -/
def Rd (w : World) (B : Nat) (A : Option Addr) (n s : Nat) (xs : List Value) : Prop :=
  xs.length = n * s ∧ (0 < n → ∃ b off, A = some ⟨b, off, none⟩ ∧ b < B ∧ ∀ j u, xs[j]? = some u → w.cell? ⟨b, off + j, none⟩ = some u)

theorem Rd.keep {w w' : World} {B B' : Nat} {A : Option Addr} {n s : Nat} {xs : List Value} (h : Rd w B A n s xs) (hB : B ≤ B') (hb : ∀ b, b < B → w'.heap[b]? = w.heap[b]?) : Rd w' B' A n s xs :=
  ⟨h.1, fun h0 => by
    obtain ⟨b, off, e, hl, hc⟩ := h.2 h0
    exact ⟨b, off, e, by omega, fun j u hu => (cell_blk (hb b hl) _).trans (hc j u hu)⟩⟩
theorem Rd.later {w w' : World} {A : Option Addr} {n s : Nat} {xs : List Value} (h : Rd w w.heap.size A n s xs) (hb : Below w.heap.size w w') : Rd w' w'.heap.size A n s xs :=
  h.keep hb.size fun b hl => hb.block b hl
theorem Rd.nil (w : World) (B s : Nat) (A : Option Addr) : Rd w B A 0 s [] := ⟨by simp, fun h => absurd h (by omega)⟩
theorem Rd.of_own {w : World} {base e s n c : Nat} {A : Option Addr} {xs : List Value} (h : w.ownsRow base e s (.slice A n c) n xs) : Rd w w.heap.size A n s xs := by
  refine ⟨h.1, fun hn => ?_⟩
  obtain ⟨g, cap, hv, _, hlt⟩ := h.form hn
  have hA : A = some ⟨g, 0, none⟩ := by injection hv
  subst hA
  exact ⟨g, 0, rfl, hlt, fun j u hu => by rw [Nat.zero_add, h.cellAt j (by rw [← h.1]; exact (List.getElem?_eq_some_iff.1 hu).1)]; exact hu⟩
/-- A row in a new block. -/
theorem Rd.new (w : World) (cs : Array Value) (n s : Nat) (t : TypeId) (h : cs.size = n * s) : Rd (w.alloc (.cells cs t)) (w.alloc (.cells cs t)).heap.size (some ⟨w.heap.size, 0, none⟩) n s cs.toList := by
  refine ⟨by simpa using h, fun _ => ⟨w.heap.size, 0, rfl, by simp, fun j u hu => ?_⟩⟩
  rw [Nat.zero_add, World.cell?_alloc_at _ _ _ _ rfl]
  simpa using hu

theorem flat_len {α : Type} (f : α → List Value) (s : Nat) (hs : ∀ x, (f x).length = s) : ∀ l : List α, (l.flatMap f).length = l.length * s
  | [] => by simp
  | a :: l => by rw [List.flatMap_cons, List.length_append, hs, flat_len f s hs l, List.length_cons]; rw [Nat.add_mul]; omega
theorem flat_at {α : Type} (f : α → List Value) (s : Nat) (hs : ∀ x, (f x).length = s) : ∀ (l : List α) (i : Nat) (x : α), l[i]? = some x → ∀ j, j < s → (l.flatMap f)[i * s + j]? = (f x)[j]?
  | [], i, x, h, _, _ => by simp at h
  | a :: l, 0, x, h, j, hj => by
    simp at h; subst h
    rw [List.flatMap_cons, Nat.zero_mul, Nat.zero_add, List.getElem?_append_left (by rw [hs]; exact hj)]
  | a :: l, i + 1, x, h, j, hj => by
    rw [List.flatMap_cons, List.getElem?_append_right (by rw [hs, Nat.add_mul]; omega), hs, ← flat_at f s hs l i x (by simpa using h) j hj]
    congr 1
    rw [Nat.add_mul]; omega
theorem flat_mem {α : Type} (f : α → List Value) (s : Nat) (hs : ∀ x, (f x).length = s) (h0 : 0 < s) (l : List α) (j : Nat) (u : Value) (hu : (l.flatMap f)[j]? = some u) : ∃ i k x, j = i * s + k ∧ k < s ∧ l[i]? = some x ∧ (f x)[k]? = some u := by
  have hj : j < l.length * s := by rw [← flat_len f s hs]; exact (List.getElem?_eq_some_iff.1 hu).1
  have hi : j / s < l.length := Nat.div_lt_of_lt_mul (by rw [Nat.mul_comm]; exact hj)
  have hk : j % s < s := Nat.mod_lt _ h0
  have ej : j = j / s * s + j % s := by rw [Nat.mul_comm]; exact (Nat.div_add_mod j s).symm
  refine ⟨j / s, j % s, l[j / s]'hi, ej, hk, List.getElem?_eq_getElem hi, ?_⟩
  rw [← flat_at f s hs l _ _ (List.getElem?_eq_getElem hi) _ hk, ← ej]; exact hu
/-- A slice whose elements lie where they say. -/
theorem Rd.mk {α : Type} {f : α → List Value} {w : World} {b off n s : Nat} {l : List α} (hs : ∀ x, (f x).length = s) (h0 : 0 < s) (hn : l.length = n) (hb : b < w.heap.size)
    (h : ∀ i x, l[i]? = some x → ∀ k u, (f x)[k]? = some u → w.cell? ⟨b, off + i * s + k, none⟩ = some u) : Rd w w.heap.size (some ⟨b, off, none⟩) n s (l.flatMap f) := by
  refine ⟨by rw [flat_len f s hs, hn], fun _ => ⟨b, off, rfl, hb, fun j u hu => ?_⟩⟩
  obtain ⟨i, k, x, rfl, _, hx, hk⟩ := flat_mem f s hs h0 l j u hu
  rw [← Nat.add_assoc]
  exact h i x hx k u hk
theorem Rd.at {α : Type} {f : α → List Value} {w : World} {B n s : Nat} {A : Option Addr} {l : List α} (hs : ∀ x, (f x).length = s) (h : Rd w B A n s (l.flatMap f)) (h0 : 0 < n) :
    ∃ b off, A = some ⟨b, off, none⟩ ∧ b < B ∧ ∀ i x, l[i]? = some x → ∀ j, j < s → ∀ u, (f x)[j]? = some u → w.cell? ⟨b, off + i * s + j, none⟩ = some u := by
  obtain ⟨b, off, e, hl, hc⟩ := h.2 h0
  refine ⟨b, off, e, hl, fun i x hx j hj u hu => ?_⟩
  rw [Nat.add_assoc]
  exact hc _ _ ((flat_at f s hs l i x hx j hj).trans hu)


theorem own_cap {w : World} {base : Nat} {e : TypeId} {size n : Nat} {v : Value} {xs : List Value} (h : w.ownsRow base e size v n xs) : ∃ a c, v = .slice a n c ∧ n ≤ c ∧ c ≤ 9223372036854775807 := by
  rcases h.2 with ⟨rfl, rfl⟩ | ⟨g, cap, cur, rfl, _, _, h1, h2, _⟩
  · exact ⟨none, 0, rfl, by omega, by omega⟩
  · exact ⟨_, _, rfl, h1, h2⟩
section
variable {P : Program} {w : World}
theorem app_nil {base t ty e size n c : Nat} {i : TypeInfo} {v : Value} {xs : List Value} (ht : P.underlying t = some (.slice e)) (hi : P.info? e = some i) (ho : w.ownsRow base e size v n xs) : (Builtin.append_ #[t, t] ty #[v, .slice none 0 c]).run P w = .ok v w := by
  rcases ho.2 with ⟨rfl, rfl⟩ | ⟨g, cap, cur, rfl, _, _, hc, _⟩ <;> simp [Builtin.append_, run_underlying ht, sizeOf, typeInfo, Builtin.lenOf, Builtin.firstCells, storeCells, *]
theorem app_run {base t ty e size bytes n m c B : Nat} {i : TypeInfo} {z v : Value} {xs news : List Value} {A : Option Addr} (ht : P.underlying t = some (.slice e)) (hi : P.info? e = some i) (hz : i.zero = some z) (hs : i.size = size) (hby : i.bytes = bytes)
    (hzs : z.cells.size = size) (hp : 0 < size) (ho : w.ownsRow base e size v n xs) (hr : Rd w B A m size news) (h1 : ∀ u ∈ news, u.oneCell' = true) (h63 : n + m ≤ maxLen) (hb : (n + m) * bytes ≤ 140737488355328) (hbase : base ≤ w.heap.size) :
    ∃ v' w', (Builtin.append_ #[t, t] ty #[v, .slice A m c]).run P w = .ok v' w' ∧ w'.ownsRow base e size v' (n + m) (xs ++ news) ∧ w.grownBy w' v.ownBlock := by
  rcases Nat.eq_zero_or_pos m with h0 | h0
  · subst h0
    have hn : news = [] := List.eq_nil_of_length_eq_zero (by rw [hr.1, Nat.zero_mul])
    subst hn
    cases A with
    | none => exact ⟨v, w, app_nil ht hi ho, by rw [Nat.add_zero, List.append_nil]; exact ho, World.grownBy.refl _ _⟩
    | some a =>
      obtain ⟨v', w', r1, r2, r3, _⟩ := run_append_own_at (P := P) w base t ty e i z size bytes ht hi hz hs hby hzs hp v n xs ho a 0 c [] (by simp) (fun j u hu => by simp at hu) h1 h63 hb hbase
      exact ⟨v', w', r1, r2, r3⟩
  · obtain ⟨b, off, rfl, _, hc⟩ := hr.2 h0
    have hc' : ∀ j u, news[j]? = some u → w.cell? ((⟨b, off, none⟩ : Addr).add j) = some u := fun j u hu => by
      have h9 : (⟨b, off, none⟩ : Addr).add j = ⟨b, off + j, none⟩ := by unfold Addr.add; split <;> simp_all
      rw [h9]; exact hc j u hu
    obtain ⟨v', w', r1, r2, r3, _⟩ := run_append_own_at (P := P) w base t ty e i z size bytes ht hi hz hs hby hzs hp v n xs ho _ m c news hr.1 hc' h1 h63 hb hbase
    exact ⟨v', w', r1, r2, r3⟩
theorem app_wp {ops : Array Oper} {rest : List Oper} {o : Oper} {a : Act} {Q : Exit → Act → World → Prop} (hgd : o.guard = none) (s x : Operand) (t : TypeId) (hop : o.op = .call { callee := .builtin .append, args := #[s, x], argTypes := #[t, t] })
    (base e size bytes : Nat) (i : TypeInfo) (z : Value) (ht : P.underlying t = some (.slice e)) (hi : P.info? e = some i) (hz : i.zero = some z) (hs : i.size = size) (hby : i.bytes = bytes) (hzs : z.cells.size = size) (hp : 0 < size)
    (v : Value) (n : Nat) (xs : List Value) (hv : a.eval s = v) (ho : w.ownsRow base e size v n xs) (B : Nat) (A : Option Addr) (m c : Nat) (news : List Value) (hx : a.eval x = .slice A m c) (hr : Rd w B A m size news)
    (h1 : ∀ u ∈ news, u.oneCell' = true) (h63 : n + m ≤ maxLen) (hb : (n + m) * bytes ≤ 140737488355328) (hbase : base ≤ w.heap.size)
    (hK : ∀ v' w', w'.ownsRow base e size v' (n + m) (xs ++ news) → w.grownBy w' v.ownBlock → wpList P ops Q rest (a.put o.dst v') w') : wpList P ops Q (o :: rest) a w := by
  refine wpList_plain hgd fun K hK' => ?_
  obtain ⟨v', w', r1, r2, r3⟩ := app_run (P := P) (w := w) (ty := o.type) (c := c) ht hi hz hs hby hzs hp ho hr h1 h63 hb hbase
  unfold Oper.wp execOp
  simp only [hop, resolve, invoke, builtin, Sem.run_bind, Sem.run_pure, Result.andThen_ok, List.map_toArray, List.map_cons, List.map_nil, hv, hx, r1]
  exact hK' _ _ (hK v' w' r2 r3)
end
theorem app_want {P : Program} {w : World} {ops : Array Oper} {rest : List Oper} {o : Oper} {a : Act} {Q : Exit → Act → World → Prop} (hw : Region.wanted o (yielded ops a.tmps) = true) (s x : Operand) (t : TypeId) (hop : o.op = .call { callee := .builtin .append, args := #[s, x], argTypes := #[t, t] })
    (base e size bytes : Nat) (i : TypeInfo) (z : Value) (ht : P.underlying t = some (.slice e)) (hi : P.info? e = some i) (hz : i.zero = some z) (hs : i.size = size) (hby : i.bytes = bytes) (hzs : z.cells.size = size) (hp : 0 < size)
    (v : Value) (n : Nat) (xs : List Value) (hv : a.eval s = v) (ho : w.ownsRow base e size v n xs) (B : Nat) (A : Option Addr) (m c : Nat) (news : List Value) (hx : a.eval x = .slice A m c) (hr : Rd w B A m size news)
    (h1 : ∀ u ∈ news, u.oneCell' = true) (h63 : n + m ≤ maxLen) (hb : (n + m) * bytes ≤ 140737488355328) (hbase : base ≤ w.heap.size)
    (hK : ∀ v' w', w'.ownsRow base e size v' (n + m) (xs ++ news) → w.grownBy w' v.ownBlock → wpList P ops Q rest (a.put o.dst v') w') : wpList P ops Q (o :: rest) a w := by
  refine BigFrame.wpList_want hw fun K hK' => ?_
  obtain ⟨v', w', r1, r2, r3⟩ := app_run (P := P) (w := w) (ty := o.type) (c := c) ht hi hz hs hby hzs hp ho hr h1 h63 hb hbase
  unfold Oper.wp execOp
  simp only [hop, resolve, invoke, builtin, Sem.run_bind, Sem.run_pure, Result.andThen_ok, List.map_toArray, List.map_cons, List.map_nil, hv, hx, r1]
  exact hK' _ _ (hK v' w' r2 r3)

/-- An empty row that the call made. -/
theorem own_empty (w : World) (e size base N : Nat) (hN : N = w.heap.size) (hb : base ≤ w.heap.size) : (w.alloc (.cells #[] e)).ownsRow base e size (.slice (some ⟨N, 0, none⟩) 0 0) 0 [] := by
  subst hN
  exact World.ownsRow_lit w #[] 0 hb (by unfold maxLen; omega) (by simp)
theorem below_app {B : Nat} {W w w' : World} {base e size n : Nat} {v : Value} {xs : List Value} (hb : Below B W w) (hB : B ≤ base) (hs : B ≤ w.heap.size) (ho : w.ownsRow base e size v n xs) (hg : w.grownBy w' v.ownBlock) : Below B W w' :=
  hb.grown hg hs (fun k hk => Nat.le_trans hB (ho.lt k hk).1)


/-- append as one step of a region that draws. -/
theorem step_app {P : Program} {w : World} {ops : Array Oper} {o : Oper} {a : Act} {K : Act → World → Prop} {Q : Exit → Act → World → Prop} {E : Prop} (hgd : o.guard = none) (s x : Operand) (t : TypeId) (hop : o.op = .call { callee := .builtin .append, args := #[s, x], argTypes := #[t, t] })
    (base e size bytes : Nat) (i : TypeInfo) (z : Value) (ht : P.underlying t = some (.slice e)) (hi : P.info? e = some i) (hz : i.zero = some z) (hs : i.size = size) (hby : i.bytes = bytes) (hzs : z.cells.size = size) (hp : 0 < size)
    (v : Value) (n : Nat) (xs : List Value) (hv : a.eval s = v) (ho : w.ownsRow base e size v n xs) (B : Nat) (A : Option Addr) (m c : Nat) (news : List Value) (hx : a.eval x = .slice A m c) (hr : Rd w B A m size news)
    (h1 : ∀ u ∈ news, u.oneCell' = true) (h63 : n + m ≤ maxLen) (hb : (n + m) * bytes ≤ 140737488355328) (hbase : base ≤ w.heap.size)
    (hK : ∀ v' w', w'.ownsRow base e size v' (n + m) (xs ++ news) → w.grownBy w' v.ownBlock → K (a.put o.dst v') w') :
    if Region.wanted o (yielded ops a.tmps) = true then Oper.wp P o a w K Q else E := by
  have hw : Region.wanted o (yielded ops a.tmps) = true := by simp [Region.wanted, hgd]
  rw [if_pos hw]
  obtain ⟨v', w', r1, r2, r3⟩ := app_run (P := P) (w := w) (ty := o.type) (c := c) ht hi hz hs hby hzs hp ho hr h1 h63 hb hbase
  unfold Oper.wp execOp
  simp only [hop, resolve, invoke, builtin, Sem.run_bind, Sem.run_pure, Result.andThen_ok, List.map_toArray, List.map_cons, List.map_nil, hv, hx, r1]
  exact hK v' w' r2 r3

/-- Waits as a row of cells. -/
def flW (l : List Wt) : List Value := l.flatMap wV
theorem flW_len (l : List Wt) : (flW l).length = l.length * 3 := flat_len wV 3 wV_len l
theorem flW_app (a b : List Wt) : flW (a ++ b) = flW a ++ flW b := by unfold flW; rw [List.flatMap_append]
theorem flW_one (l : List Wt) : ∀ u ∈ flW l, u.oneCell' = true := by
  intro u hu
  unfold flW at hu
  obtain ⟨x, _, hx⟩ := List.mem_flatMap.1 hu
  simp [wV] at hx
  rcases hx with rfl | rfl | rfl <;> rfl
def RdW (w : World) (A : Option Addr) (n : Nat) (l : List Wt) : Prop := l.length = n ∧ Rd w w.heap.size A n 3 (flW l)
theorem RdW.later {w w' : World} {A : Option Addr} {n : Nat} {l : List Wt} (h : RdW w A n l) (hb : Below w.heap.size w w') : RdW w' A n l := ⟨h.1, h.2.later hb⟩
theorem RdW.nil (w : World) (A : Option Addr) : RdW w A 0 [] := ⟨rfl, Rd.nil _ _ _ _⟩
theorem RdW.cells {w : World} {A : Option Addr} {n : Nat} {l : List Wt} (h : RdW w A n l) (h0 : 0 < n) : ∃ b off, A = some ⟨b, off, none⟩ ∧ b < w.heap.size ∧
    ∀ i x, l[i]? = some x → w.cell? ⟨b, off + i * 3, none⟩ = some (.int .i64 x.t) ∧ w.cell? ⟨b, off + i * 3 + 1, none⟩ = some (.int .i64 x.c) ∧ w.cell? ⟨b, off + i * 3 + 2, none⟩ = some (.int .i64 x.v) := by
  obtain ⟨b, off, e, hl, hc⟩ := Rd.at wV_len h.2 h0
  exact ⟨b, off, e, hl, fun i x hx => ⟨hc i x hx 0 (by omega) _ rfl, hc i x hx 1 (by omega) _ rfl, hc i x hx 2 (by omega) _ rfl⟩⟩
theorem RdW.of_row {w : World} {base : Nat} {A : Option Addr} {n c : Nat} {l : List Wt} (hn : l.length = n) (h : w.ownsRow base 65 3 (.slice A n c) n (flW l)) : RdW w A n l := ⟨hn, Rd.of_own h⟩
/-- One wait in a new block. -/
theorem Rd.one (w : World) (x : Wt) (N : Nat) (h : N = w.heap.size) : Rd (w.alloc (.cells #[.int .i64 x.t, .int .i64 x.c, .int .i64 x.v] 65)) (w.alloc (.cells #[.int .i64 x.t, .int .i64 x.c, .int .i64 x.v] 65)).heap.size (some ⟨N, 0, none⟩) 1 3 (flW [x]) := by
  subst h
  exact Rd.new w #[.int .i64 x.t, .int .i64 x.c, .int .i64 x.v] 1 3 65 rfl
end Go.Proofs.Ytdpapnfjpefhkaa.Ch
namespace Go.Proofs.Ytdpapnfjpefhkaa.Ch
open Go.RowKit
set_option linter.unusedVariables false
set_option maxRecDepth 100000

theorem beq_nat (k m : Nat) : ((k : Int) == (m : Int)) = decide (k = m) := by
  by_cases h : k = m
  · subst h; simp
  · rw [decide_eq_false h, beq_eq_false_iff_ne]; omega
section
variable {w : World} {c : Nat} {F : Nat → Prop} {s : CS}
theorem CH.draw (h : CH w F c s) (n : Nat) : CH (w.drewN n) F c s := h.keep fun _ _ => rfl
theorem CH.read (h : CH w F c s) : ∃ V, w.cell? ⟨c, 2, none⟩ = some (.pointer V) ∧ (∀ n, Calls Try.prog 63 #[.pointer V] (w.drewN n) fun e w' => e = .returned (.int .i64 s.l.length) ∧ w' = w.drewN n) ∧
    ∀ n, Calls Try.prog 64 #[.pointer V] (w.drewN n) fun e w' => e = .returned (.int .i64 s.sz) ∧ w' = w.drewN n := by
  obtain ⟨ro, ns, ms, hF, h⟩ := h
  refine ⟨vp ro, h.c2, ?_⟩
  have hx := h.rx
  obtain ⟨kd, cl, sz, l, ss, rs⟩ := s
  cases ro with
  | none =>
    obtain ⟨h1, h2⟩ := hx
    subst h1 h2
    exact ⟨fun n => (rlen_nil _).mono fun _ _ h => ⟨h.1, h.2.symm⟩, fun n => (rsize_nil _).mono fun _ _ h => ⟨h.1, h.2.symm⟩⟩
  | some m =>
    have k : ∀ n, RG (w.drewN n) m.1 m.2 sz l := fun n => RG.keep hx rfl rfl
    exact ⟨fun n => (rlen_any _ (k n)).mono fun _ _ h => ⟨h.1, h.2.symm⟩, fun n => (rsize_any _ (k n)).mono fun _ _ h => ⟨h.1, h.2.symm⟩⟩
def fr (s : CS) : Bool → Bool
  | true => decide (s.l.length < s.sz)
  | false => decide (0 < s.l.length)
theorem free_any (b : Bool) (h : CH w F c s) : Calls Try.prog 45 #[.pointer (some ⟨c, 0, none⟩), .bool b] w fun e w' => e = .returned (.bool (fr s b)) ∧ ∃ n, w' = w.drewN n := by
  obtain ⟨V, c2, hl, hs⟩ := h.read
  replace hl := Lib.hid hl
  replace hs := Lib.hid hs
  have c0 := h.c0
  clear h
  cases b
  · show Calls _ _ _ _ fun e w' => e = .returned (.bool (decide (0 < s.l.length))) ∧ _
    have hl0 := Lib.hid (hl.out 0)
    go_enter Try.func45, Try.ntmps45
    go_wp2_with fail
    refine hl0.out.mono ?_
    rintro e w' ⟨rfl, rfl⟩
    go_wp2_with fail
    go_ret
    exact ⟨rfl, 0, rfl⟩
  · show Calls _ _ _ _ fun e w' => e = .returned (.bool (decide (s.l.length < s.sz))) ∧ _
    go_enter Try.func45, Try.ntmps45
    go_wp2_with fail
    go_quiet (first | exact Calls.quiet_of_same (hl.out _) | exact Calls.quiet_of_same (hs.out _))
    go_wp2
    go_ret
    exact ⟨rfl, _, rfl⟩
theorem closed_chan (h : CH w F c s) : Calls Try.prog 26 #[.pointer (some ⟨c, 0, none⟩)] w fun e w' => e = .returned (.bool s.cl) ∧ w = w' := by
  have c1 := h.c1
  clear h
  go_enter Try.func26, Try.ntmps26
  go_wp2
  go_ret
  exact ⟨rfl, rfl⟩
/-- Can one go on? -/
def can (s : CS) (b : Bool) : Bool := if b = true ∧ s.kd ≠ 0 then false else (s.cl || fr s b || decide (0 < (s.q (!b)).length))
/-! Send, Put, Drop. -/
def SnR (F : Nat → Prop) (c : Nat) (g : CS × List Wk × Bool) (w : World) (e : Ending) (w' : World) : Prop :=
  ∃ A cap, e = .returned (.tuple #[.bool g.2.2, .slice A g.2.1.length cap, .int .i64 0]) ∧ RdK w' A g.2.1.length g.2.1 ∧ Go F c g.1 w w'
theorem put_kind (v : Int) (h : CH w F c s) (hk : s.kd ≠ 1) : Calls Try.prog 42 #[.pointer (some ⟨c, 0, none⟩), .int .i64 v] w fun e w' => e = .returned (.tuple #[.slice none 0 0, .bool false]) ∧ w = w' := by
  have c0 := h.c0
  have b1 : ((s.kd : Int) == 1) = false := by rw [beq_eq_false_iff_ne]; omega
  clear h
  go_enter Try.func42, Try.ntmps42
  go_wp2
  go_ret2
  exact ⟨rfl, rfl⟩
theorem put_any (v : Int) (h : CH w F c s) (hk : s.kd = 1) (hn : s.rs.length ≤ 1000000) : Calls Try.prog 42 #[.pointer (some ⟨c, 0, none⟩), .int .i64 v] w (GvR F c (gv s v) w) := by
  have c0 := h.c0
  rw [hk] at c0
  have hg := Lib.hid (give_any v h hn)
  clear h
  generalize gv s v = g at *
  go_enter Try.func42, Try.ntmps42
  go_wp2_with fail
  refine hg.out.mono ?_
  rintro e w' ⟨A, cap, rfl, hK, hG⟩
  have HP : Hid (RdK w' A g.2.1.length g.2.1 ∧ Go F c g.1 w w') := ⟨hK, hG⟩
  clear hK hG hg
  go_wp2
  go_ret2
  exact ⟨A, cap, rfl, HP.out.1, HP.out.2⟩
theorem drop_kind (h : CH w F c s) (hk : s.kd ≠ 1) : Calls Try.prog 92 #[.pointer (some ⟨c, 0, none⟩)] w fun e w' => e = .returned (.bool false) ∧ w = w' := by
  have c0 := h.c0
  have b1 : ((s.kd : Int) == 1) = false := by rw [beq_eq_false_iff_ne]; omega
  clear h
  go_enter Try.func92, Try.ntmps92
  go_wp2
  go_ret
  exact ⟨rfl, rfl⟩
theorem drop_any (h : CH w F c s) (hk : s.kd = 1) : Calls Try.prog 92 #[.pointer (some ⟨c, 0, none⟩)] w fun e w' => e = .returned (.bool (decide (0 < s.l.length))) ∧ Go F c { s with l := [] } w w' := by
  have c0 := h.c0
  rw [hk] at c0
  obtain ⟨V, c2, _, _, hc, _⟩ := h.ring
  replace hc := Lib.hid hc
  clear h
  go_enter Try.func92, Try.ntmps92
  go_wp2_with fail
  refine hc.out.mono ?_
  rintro e w' ⟨rfl, g⟩
  have G := Lib.hid g
  clear g hc
  go_wp2
  go_ret
  exact ⟨rfl, G.out⟩

/-! New, Timed, Signal. -/
/-- A new channel. -/
structure Mk (c : Nat) (s : CS) (w w' : World) : Prop where
  ch : ∃ F, CH w' F c s ∧ ∀ b, F b → w.heap.size ≤ b
  bel : Below w.heap.size w w'
  at_ : w.heap.size ≤ c ∧ c < w'.heap.size
theorem mk_ring (w w1 : World) (n kd : Nat) (hk : kd ≤ 2) (hn : n ≤ 64) (e : Ending) (h : rNewR n w e w1) : Mk w1.heap.size ⟨kd, false, n, [], [], []⟩ w (w1.alloc (.cells (cB kd false (vp (some (w.heap.size + 1, w.heap.size))) [] []) 128)) := by
  obtain ⟨_, h1, h2, h3⟩ := h
  have hb := heap_alloc_new w1 (.cells (cB kd false (vp (some (w.heap.size + 1, w.heap.size))) [] []) 128)
  refine ⟨⟨_, ⟨some (w.heap.size + 1, w.heap.size), [], [], fun k => Iff.rfl, ⟨hb, trivial, trivial, List.nodup_nil, h1.later (below_al _ _), rfl, rfl, hk, hn, fun b x hx => ?_⟩⟩, fun b hb => ?_⟩, h2.trans ((below_al w1 _).mono h2.size), by omega, by simp⟩
  · cases b <;> simp [CS.q] at hx
  · rcases hb with rfl | hb | ⟨m, hm, _⟩ | ⟨m, hm, _⟩
    · omega
    · rcases hb with rfl | rfl <;> simp
    · simp at hm
    · simp at hm
theorem signal_any (w : World) : Calls Try.prog 34 #[] w fun e w' => ∃ c, e = .returned (.pointer (some ⟨c, 0, none⟩)) ∧ Mk c ⟨2, false, 0, [], [], []⟩ w w' := by
  have hb := heap_alloc_new w (.cells (cB 2 false (vp none) [] []) 128)
  have HM : Hid (Mk w.heap.size ⟨2, false, 0, [], [], []⟩ w (w.alloc (.cells (cB 2 false (vp none) [] []) 128))) := by
    refine ⟨⟨_, ⟨none, [], [], fun k => Iff.rfl, ⟨hb, trivial, trivial, List.nodup_nil, ⟨rfl, rfl⟩, rfl, rfl, by simp, by simp, fun b x hx => ?_⟩⟩, fun b hb => ?_⟩, below_al _ _, by omega, by simp⟩
    · cases b <;> simp [CS.q] at hx
    · rcases hb with rfl | hb | ⟨m, hm, _⟩ | ⟨m, hm, _⟩
      · omega
      · exact hb.elim
      · simp at hm
      · simp at hm
  clear hb
  go_enter Try.func34, Try.ntmps34
  go_wp2
  go_ret
  exact ⟨w.heap.size, rfl, HM.out⟩
end
end Go.Proofs.Ytdpapnfjpefhkaa.Ch
